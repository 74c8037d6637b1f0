import PyProof.Rows.All
import PyProof.EqAt
import PyProof.EqKinds
import PyProof.TupleCall
import PyProof.NeKinds
import PyProof.StrWalks
import PyProof.Rows.SetFrom
import PyProof.WalksMore
import KE.KIntText
import PyProof.EnumMake
import PyProof.WalkInts
import PyProof.ReprRoads
import PyProof.ReprLen
import KE.KRevIter
import KE.KRevSl
import PyProof.StrCalls
import PyProof.Rows.StrFit
import KE.KDictOf
import PyProof.AttrMissHeap
import PyProof.DictItems
import KE.KDictLaws
import KE.KDictList
import KE.KSortTup
import PyProof.Rows.SortRuns
import PyProof.Rows.SortShell
import PyProof.StrLawsTight
import Open.Tree
import Wide.Line
import OpenK.KOwn
import KE.KFromBytes
import KE.KItem
import KE.KIsAll
import PySem.Challenge.RW_stationrow_k70_even_and_without_fault
open List renaming length_append→a_,length_map→b_,mem_singleton→e_,getElem?_eq_getElem→g_,length_cons→i_,mem_cons_self→k_,mem_map→l_,mem_cons→n_,length_range→p_,mem_append→t_,mem_cons_of_mem→u_,map_append→v_,append_assoc→y_,size_toArray→z_,map_cons→D_,mem_filter→E_,mem_range→F_,getElem?_append_right→H_,getElem?_map→J_,length_singleton→M_,append_nil→P_,getD_eq_getElem?_getD→U_,map_map→X_,getElem?_append_left→Y_,mem_append_right→Ze,getElem?_eq_none→Zf,length_filter_le→Zh,take_append_drop→Zi,length_take→Zm,pairwise_iff_getElem→Zn,mem_append_left→Zq,length_drop→Zr,getElem_mem→Zt,all_eq_true→Zy,mem_of_getElem?→ZC,map_congr_left→ZF,getElem_of_mem→ZG,take_of_length_le→ZL,not_mem_nil→ZR,getElem?_cons_zero→ZS,nodup_cons→ZV,mem_flatten→ZW,find?_eq_none→Z1,getElem?_eq_some_iff→Z2,drop_eq_getElem_cons→Z3,map_nil→Z5,drop_of_length_le→Z6,any_eq_true→Z_,nodup_append→aab,length_eq_zero_iff→aac,pairwise_append→aaf,find?_cons→aah,lookup_cons→aaj,length_reverse→aal,flatten_cons→aao,eq_nil_of_length_eq_zero→aap,foldl_append→aaq,filter_congr→aar,sum_cons→aav,nodup_nil→aaA,replicate_succ→aaB,getElem?_range→aaC,length_nil→aaD,map_eq_nil_iff→aaK,flatten_append→aaM,filter_append→aaP,extract_eq_take_drop→aaQ,nil_append→aaS,getElem_drop→aaV,getElem_take→aaW,mem_of_mem_take→aaX,reverse_append→aa3,filter_eq_self→aa4,getElem?_replicate→aa6,cons_append→aa7,getElem?_cons_succ→aa9,take_append_of_le_length→abf,getElem?_set_self→abg,dropLast_concat_getLast→abp,length_replicate→abq,getElem?_toArray→abt,perm_append_comm→abu,singleton_append→abv,pairwise_map→abx,getElem?_set_ne→abB,length_eraseIdx_of_lt→abE,filter_cons→abJ,any_cons→abM,take_left'→abP,pairwise_cons→abS,reverse_cons→abV,drop_zero→abW,range→af,length→aT,replicate→a4,lookup→d5,range'→eW,flatten_singleton→e7,eraseIdxIfInBounds_toArray→e9,map_reverse→ff,reverse_reverse→fi,mem_of_mem_drop→fk,getElem?_of_mem→fm,filterMap_cons→fR,take_zero→gE,take_sublist→h7,ext_getElem?→h9,nodup_range→i6,drop_append→i7,pairwise_lt_range→ke,sum_append→kr,of_mem_zip→kt,filter_map→ku,dropLast_eq_take→kB,drop_drop→k7,length_range'→m3,getElem?_take→nc,Nodup→ng,drop_sublist→oa,any_map→oe,take_length→oS,take_append→o0,flatten_nil→o1,drop_length→o3,length_set→qk,forIn_cons→qo,foldl_cons→qq,all_append→qr,range_add→sg,map→si,foldl→sj,take_nil→sM,getD→s_
open PySem renaming wpAny_bind→d_,wpAny_pure→o_,wpAny_Call_Name_kw→ZZ,wpAny_mono→aad,wpAny_newObj_type→aan,wpAny_holding→aau,wpAny_call_entry→aaN,wpAny_passesOwn→aaR,wpAny_truthy_bool→aaU,wpAny_getItem_str_slice→aa8,wpAny_setField→abb,codeAny_builtin→abn,builtinLookup_eq_fast→abr,wpAny_setState_of→aby,wpAny_rule→abD,codeAny_mono→abH,wpAny_askSetting→abI,tupleKind_room_in1→abR,isSubtype_type→abX,call_meets→ab0,plainId_quiet→ab1,Str→ai,Addr→am,sizeLine→ap,Value→av,starEach→ax,model→ay,wpAny→aE,Shared→aI,cellsFrom→ba,bootBuiltins→bb,compareOp→be,binaryOp→bp,eval→br,backTo→bt,mainGlobals→bv,Program→bE,World→bS,behindInMarks→ca,attributeBase→cq,Heap→cv,bindArgs→cy,cLine→cK,foldedSetIterable→c8,assignEach→c_,FuncData→dk,sysModules→dn,intKind→dr,swapsWith→dt,scanBound→dy,Obj→dL,codeAny→dP,NameKind→d4,Builtin→er,Around→eB,Stmt→eD,rawInt→eM,wpAny_callSpecial?_slot→eR,sliceBounds→eS,holding→fg,wpAny_pyIter_revIter→fh,wpAny_specialOf→fr,wpAny_execs_nil→ft,typeLookup_type→fv,post_val_or_str→fw,letOwnedTupleGo→fz,wpAny_setEntries_of→fN,assign→f_,Paired→gg,wpAny_pyIter_slot→hG,wpAny_pyIter_list→hH,spliced→hO,keywordEach→hP,wpAny_getItem_list_slice→im,wpAny_comprehension_free→io,wpAny_isInstance→iE,wpAny_Call_method0_late→iF,noFill_tuple_add→iL,wpAny_typeOf→ja,getItem→jI,Within→j3,Pos→ka,wpAny_updateSeq→ki,wpAny_ite_split→kn,wpAny_isTrue_Compare1→kx,wpAny_seqItems→kF,subscripted→kG,relayAll→kH,pyNext→kK,newFunctionEnv→kM,fitsIndex_both→kQ,entryFor_alias→kR,codeAny_extend_loopS→kS,Sem→k0,valueAt→lf,tupleKind→lh,treeTable→lv,pushCells→lI,callerA→lP,DictEntry→l5,evalArgs_none→l6,wpAny_standAt→ma,wpAny_newList→md,wpAny_attempt→me,seq_tuple_add→mf,evalPart_none→mh,typeLookup→ms,intKind_is→mw,call_reversed_list→mB,builtinsNs→mI,PlainAttrs→mN,Params→mP,IsPart→nh,wpAny_storeSet_of→nn,wpAny_setEpoch_of→nv,wpAny_assign_Name→nw,standAt→ny,seqIndex_neg→nz,relabel→nE,fits_of_scanBound→nK,concat_meets→nL,backToKw→nN,SetTable→nX,Keyword→og,BindsTo→oj,wpAny_execs_cons→om,pickOrder→ow,getMethod→oB,call→oI,PassesOwn→oP,wpAny_field→pi,unsupported→pu,sizeLine_eq→pz,seqIndex_of→pE,atKey→pT,pushCells_keeps→qa,importedModules→qc,codeAny_of_tree→qf,wpAny_runValue→qS,wpAny_newTuple→qV,wpAny_load→ra,wpAny_fieldsOf→rb,wpAny_call→rc,wpAny_Name→rd,typeIs_str→re,typeIs_int→rf,setsByText→ro,setAddHashedIn→rp,recursionLimit→rq,firstArgMember→rV,entryFor→rX,bindL→r3,bindC→r6,call→r_,swapsWithSole→sq,swappedStores→sv,signature?_of→sw,rangeSize_one→sx,nums_intItems→sA,intBits_le_64→sC,call_list_seq→sD,updateSeq→sN,seqIndex?→sP,newFields→sR,setItem→tj,pyIter→tm,cellOf→tF,ItemsOf→tI,setField→tN,raiseNew→tP,IntMulOk→t4,Env→t5,typeOf→t9,rule→uS,revObj→vx,argsOk→vE,CmpOp→vS,Slot→vT
open PySem.Heap renaming get?_push_of_some→h_,get?_push_size→G_,lt_size→L_,get?_update_ne→aaa,get?_update_other→aax,get?_update_self→aaE,size_push→aaH,SameBut→eh
open Nat renaming le_refl→m_,lt_of_lt_of_le→V_,le_trans→W_,ne_of_lt→Zk,lt_irrefl→ZK,zero_le→aae,le_of_lt→aai,lt_succ_of_lt→aay,zero_add→aaG,lt_or_eq_of_le→aaO,pow_le_pow_right→aaY,lt_succ_self→aa5,le_of_eq→abh,lt_trans→abj,lt_or_ge→abl,not_lt→abC,add_sub_cancel→abU,lt_of_succ_lt→abY,testBit_and→fF,min_eq_left→fI,pow_succ→fT,lt_of_le_of_lt→gu,lt_trichotomy→hZ,le_succ→h6,ne_of_gt→kb,add_zero→kc,not_lt_zero→kq,eq_of_testBit_eq→k6,add_assoc→mm,sub_self→n9,min_eq_right→oQ,pow_pos→p9,testBit_or→se
open PySem.PassesOwn renaming never→q_
open Bool renaming false_ne_true→B_,false_eq_true→I_,eq_iff_iff→Zv,and_eq_true→Zx,not_true→Z0,not_false→aag,not_eq_true'→abz,and_true→abN,true_and→ab2,true→ag,false→ah,false_and→gT,and_false→lc,or_false→mn,false_or→mo,or_eq_true→qE
open PyProof.Rows renaming wpS_bind→C_,wpS_pure→O_,callWith_type1→ZD,wpS_forRange→Z7,slot_tuple_getitem→aa1,wpS_mono→abd,arrOf→aS,SortSt→a3,Keyed→a7,pendingOf→bm,oneType'→cw,reverseSlice'→c9,seqObj→dc,failedOf→dS,IntsAre→ef,elem'→eC,callWith_builtin1→fe,mirror→fy,wpS_get→fS,wpS_modify→f6,setPending→f7,AllBare→ij,subscriptTail→ip,envOfC→iq,wpS_lift→iA,subscriptTail_builtinR→jp,sortedHeap→js,get?_update_seq→ko,wpS→kw,wpS_reverse→kC,mirror_perm→kP,K_mirror_equal→k8,kindOf→l7,Subscript_→mM,ltAt'→pS,slicePart_none→rh,intBits_le→rL,gallopOf→rS,boot_range→r2,listUpdate_at→sB,tail_any→tJ,mergeAt'→tS,K_mirror→t0,IsTup→vF
open Array renaming length_toList→K_,getElem?_eq_getElem→S_,size_push→Zo,getElem?_toList→Zu,toList_append→Zz,getElem_toList→ZQ,size_append→aaz,toList_push→aaJ,getElem?_eq_none→abk,getD_eq_getD_getElem?→abw,toList_reverse→abF,size_extract→abT,toList_setIfInBounds→gX,size_reverse→nl
open PySem.F renaming plainAttrs_list→N_,slot_list_append→Q_,type_list_append→R_,called_set→aat,args_tuple_add_2→abL,slot_dict_itemiterator_iter→eI,entry_tuple_add→eT,slot_tuple_add→e5,slot_dict_setdefault→fA,plain_extend_loop→g9,slot_dict_items→iX,plainAttrs_dict→i3,type_list_pop→ky,slot_set_iter→kz,slot_list_pop→kA,args_list_append_2→k9,entry_list_append→l9,slot_list_append→nk,entry_list_pop→pa,slot_list_pop→qs,slot_int_rmul→qA,plain_set_new→qB
open Option.some renaming inj→Zg,injEq→abA
open Int renaming le_refl→ZJ,le_trans→ZM,le_of_lt→ZX,emod_lt_of_pos→Z8,emod_nonneg→Z9,toNat_natCast→aaw,natCast_nonneg→aaF,toNat_of_nonneg→aa2,pow_succ→abm,toNat→df,mul_le_mul_of_nonneg_left→fo,fdiv_eq_ediv_of_nonneg→gI,eq_ofNat_of_zero_le→i8,ediv_ediv_of_nonneg→i9,add_zero→oi
open Option renaming map_eq_none_iff→ZP,getD_some→aa_,map_some→abo,isSome_iff_exists→abK,isSome_some→abQ,some→ab,none→ae,map_none→fE,isSome_map→hY,getD_none→i5,isSome_none→mS
open PySem.Calls renaming spliced_cons→Z4,spliced_nil→aam,callWith_builtin→abi,Name_function_global→gL,evalArgs_plain→lb
open PyProof.Rows.F renaming plain_set_update_loop→aaL,entry_set_update_loop→eA
open List.cons renaming injEq→aaT
open PySem.Paired renaming length→aaZ,snoc→k5
open List.Perm renaming refl→abG,trans→kv,swap→so
open List.Pairwise renaming imp_of_mem→abO,nil→ic
open List.Sublist renaming refl→abZ
open Classical renaming propDecidable→aw,byContradiction→hh
open Pure renaming pure→a5
open Ne renaming symm→a6
open PySem.W renaming Frag→a8,emptyDict→d6,kia_one→eK,findIn→f8,instObj→hU,SharedT→iP,keepIn→jv,plainGet_of→kL,cellsFrom_some→kT,absHeap→lS,fnOf→mx,callWith_K→mE,plainGet→nI,methodObj→oy,hasDictIn→oz,codeIn→oC,kitx_tuple→rs,openEnds→r9,WalkO→sL,plainOver→sQ,kitx_list→s0,kitx_dict→s9,takerIn→tf,lookIn→tr,handedIn→tT
open PySem.Builtin renaming bitAnd→a9,bitOr→dE,bitNot→e8
open PySem.Value renaming ref→bg,type→cE,int→dd,none→d3,bool→eP,isInt_shape→hV,str→lT,float→pV,isStrOf→sF,builtin→sK
open PySem.Builtin.Str renaming occurrences→bo
open PySem.SetTable renaming below→bP,grown→de,has→nV
open PySem.Builtin.List renaming listExtendWith→bX,listSameRef→db,listLengthHint→dQ,listTooLong→eJ,listFitsIndex→gS,listItems→kf
open ForInStep renaming yield→b9
open Sum renaming inl→ce,inr→cf
open True renaming intro→ci
open PySem.Obj renaming mapSeq→cn,mapFields→ix,data_mapFields→mT,putSet→sd
open PySem.NameKind renaming free→cr,cell→dA
open False renaming elim→cx
open PySem.Builtin.Slice renaming slicePlaces→cS,sliceAdjust→eu,sliceApplied→gN
open PySem.Builtin.Tuple renaming tupleExact→da
open PySem.Str renaming ofString→ee
open PySem.SetTable.below renaming go→e4
open Or renaming inr→e6,inl→gs
open PySem.Around renaming under_plainId→fq,under→kg
open ForIn renaming forIn→iO
open PySem.Txt renaming slice→iS,slice_le→jS
open Prod renaming ext→i4
open PySem.SeqAt renaming EqAt→j1,eq_listAt→qh
open Sum.inr renaming inj→kU
open Sum.inl renaming inj→kX
open Prod.mk renaming injEq→mi
theorem adx{p:Prop}(h:p:=by decide +kernel):p:=h
theorem adz{p:Prop}(h:p:=by kernel_rfl):p:=h
theorem adC{p:Prop}(h:p:=by omega):p:=h
theorem adD{p:Prop}(h:p:=by decide):p:=h
theorem adE{p:Prop}(h:p:=by simp):p:=h
open True renaming intro→adF
abbrev aca:=@if_pos
abbrev ace:=@if_neg
abbrev ach:=@absurd
abbrev j_:=@decide_eq_true_iff
abbrev x_:=@decide_eq_false
abbrev A_:=@decide_eq_true
abbrev T_:=@congrArg
abbrev Zj:=@if_false
abbrev Zw:=@of_decide_eq_true
abbrev aak:=@beq_eq_false_iff_ne
abbrev aas:=@decide_false
abbrev aaI:=@decide_true
abbrev aa0:=@beq_iff_eq
abbrev aba:=@or_false
abbrev abe:=@decide_eq_decide
open PySem.W (Frag InstAt LeftO callWith_K cellsFrom_some codeIn emptyDict findIn fnOf handedIn hasDictIn instObj isFn kHook keepIn kia_one kitOne kitx_dict kitx_list kitx_tuple lookIn makesIn methodObj mg_of mroIn nsIn plainGet plainGet_of plainOver recOk takerIn typeIn xlAt)
noncomputable section
open PySem PySem.Spec PyProof.Rows
set_option Elab.async false
set_option compiler.extract_closed false
set_option bootstrap.genMatcherCode false
set_option genSizeOf false
set_option linter.all false
set_option maxRecDepth 100000
namespace L2
def cV (s:eD):Arguments:=match s with
 |.FunctionDef _ a _ _ _ _ _ _ _ _=>a
 |_=>{ posonlyargs:=[],args:=[],vararg:=ae,kwonlyargs:=[],kw_defaults:=[],kwarg:=ae,defaults:=[]}
def cF (s:eD):List eD:=match s with
 |.FunctionDef _ _ b _ _ _ _ _ _ _=>b
 |_=>[]
def aB (s:eD):Scope:=match s with
 |.FunctionDef _ _ _ _ _ _ a _ _ _=>a
 |_=>{ kind:=.function,names:=[],isGenerator:=ah,isCoroutine:=ah}
end L2
namespace M
open L2
def acO (ns:List ai) (f:ai->Nat) (m:Nat):List (List ai):=(af m).map λk=>ns.filter λn=>decide (f n=k)
def top (i:Nat):eD:=PySem.Challenge.pw_stationrow_k70_even_and_without_fault.main.body.getD i (.Pass ⟨0,0,0,0⟩)
def Mt:eD->List eD
 |.ClassDef _ _ _ a _ _ _ _ _ _ _=>a
 |_=>[]
def acl (i j:Nat):eD:=(Mt (top i)).getD j (.Pass ⟨0,0,0,0⟩)
def qv:bE:={ PySem.Challenge.pw_stationrow_k70_even_and_without_fault with main:={ PySem.Challenge.pw_stationrow_k70_even_and_without_fault.main with body:=([1,2,4,5,6,7,8,9,10,11,13,15,16,17,18,19,21,23,24,26,27,28,30,31,33,34,36,37,38,39,40,41,42,43,44,45,46,47,48,49,50,51,52,53,54,55,56,57,58,59]:List Nat).map top}}
def en (P:mP) (n:ai) (t:Nat) (v:av):l5:=⟨PyData.keyHash P n,.str n t,v⟩
def cO (n:ai) (c:Nat) (b:Bool) (a j l k:Nat):dL:=⟨.type "code",ae,.fields #[.str n a,.str n (a+1),.str "/claim/cut.py" (a+2),.int l 0,.int k 0,.int 0 0,.int 0 0,.int 3 0,.ref (c - (bif b then 5 else 3)),.bool ag,.int 181 0,.ref (c - (bif b then 4 else 2)),.none,bif b then .ref (c - 3) else .none,bif b then .ref (c - 2) else .none,.ref (c - 1),.int j 0,.int l 0,.str "/claim/cut.py" (j+1)],#[]⟩
def fO (i:Nat) (n m:ai) (t c:Nat):dL:=⟨.type "function",ae,.func (mx n n (cV (top i)) (cF (top i)) (aB (top i)) .none .none .none (.str m t) ae (.ref c) .none),#[]⟩
abbrev ack:ai:="_law_deck"
abbrev acs:ai:="_law_dealing"
abbrev acw:ai:="_law_names_here"
abbrev acy:ai:="_law_works_here"
abbrev acA:ai:="_law_many"
abbrev acC:ai:="_law_beat_here"
abbrev acD:ai:="_law_most"
abbrev acF:ai:="_law_name"
abbrev acG:ai:="_law_k"
abbrev acI:ai:="_law_kinds_here"
abbrev acM:ai:="_law_i"
abbrev acN:ai:="_law_length"
abbrev acV:ai:="stationrow.chains"
abbrev acW:ai:="_law_script"
abbrev acX:ai:="_law_found"
abbrev acY:ai:="_law_j"
abbrev ac0:ai:="_law_lengths_here"
abbrev ac1:ai:="_law_draw"
abbrev ac3:ai:="stationrow.walks"
abbrev ac6:ai:="_law_edges"
abbrev ac_:ai:="_law_table"
abbrev adb:ai:="stationrow.fillings"
abbrev adc:ai:="_law_tasks"
abbrev adg:ai:="_law_task"
abbrev adi:ai:="_law_things"
abbrev adk:ai:="_law_common"
abbrev adn:ai:="_law_number"
abbrev ado:ai:="_law_orders"
abbrev adp:ai:="stationrow.even"
abbrev adu:ai:="_law_laid_fault"
abbrev adv:ai:="_law_flat_here"
abbrev adw:ai:="_law_names_fault"
abbrev mlw:ai := "law_stationrow_k70_even_and_without_fault"
def fx (i:Nat) (n m:ai) (t c:Nat) (b:Bool) (a j l k:Nat):(mP->l5) × a8:=(λP=>en P n (j+2) (.ref (c+1)),[(c,cO n c b a j l k),(c+1,fO i n m t c)])
def TB:List ((mP->l5) × a8):=[fx 1 "number_of" "stationrow.sets" 187 20 ag 189 197 2 2,
 fx 2 "tasks_of" "stationrow.sets" 187 27 ag 200 208 10 2,
 fx 4 "links_of" acV 211 34 ag 213 221 19 1,
 fx 5 "reached" acV 211 41 ag 224 233 26 2,
 fx 6 "led_to" acV 211 48 ag 236 241 36 2,
 fx 7 "led_from" acV 211 53 ah 244 247 38 2,
 fx 8 "in_both" acV 211 58 ah 250 253 40 3,
 fx 9 "in_first_alone" acV 211 63 ah 256 259 42 3,
 fx 10 "group_of" acV 211 70 ag 262 267 44 2,
 fx 11 "ahead_of" acV 211 77 ag 270 275 46 2,
 fx 13 "may_be_done" "stationrow.checks" 278 84 ag 280 285 49 2,
 fx 15 "apart_from" adb 288 89 ah 290 293 52 2,
 fx 16 "rules_of" adb 288 96 ag 296 308 54 1,
 fx 17 "has_all" adb 288 103 ag 311 316 63 2,
 fx 18 "is_filling_number" adb 288 110 ag 319 334 65 5,
 fx 19 "greatest_numbers" adb 288 115 ah 337 340 77 1,
 fx 21 "names_of" "stationrow.texts" 343 120 ah 345 348 84 1,
 fx 23 "parts_of" ac3 351 125 ah 353 356 87 1,
 (λP=>en P "Walk" 418 (.ref 165),[]),
 fx 26 "evens_behind" adp 419 175 ag 421 433 119 3,
 fx 27 "evens_by_stands" adp 419 182 ag 436 443 128 2,
 fx 28 "most_even" adp 419 189 ag 446 455 133 3,
 fx 30 "ways_behind" "stationrow.dealt" 458 196 ag 460 470 141 3,
 fx 31 "dealing_to" "stationrow.dealt" 458 203 ag 473 482 147 3,
 fx 33 "loads_rising" "stationrow.beats" 485 208 ah 487 490 156 1,
 fx 34 "least_beat" "stationrow.beats" 485 215 ag 493 502 161 2,
 fx 36 "_law_numbers" mlw 505 222 ag 507 516 175 1,
 fx 37 ac1 mlw 505 229 ag 519 524 190 2,
 fx 38 "_law_great" mlw 505 236 ag 527 534 194 2,
 fx 39 "_law_free_name" mlw 505 243 ag 537 549 199 3,
 fx 40 "_law_names" mlw 505 248 ah 552 555 211 2,
 fx 41 "_law_turn" mlw 505 255 ag 558 565 222 2,
 fx 42 "_law_lengths" mlw 505 260 ah 568 571 228 2,
 fx 43 "_law_chained" mlw 505 265 ah 574 577 234 2,
 fx 44 "_law_pairs" mlw 505 270 ah 580 583 241 4,
 fx 45 "_law_some_kinds" mlw 505 275 ah 586 589 257 3,
 fx 46 "_law_kinds" mlw 505 280 ah 592 595 263 4,
 fx 47 "_law_works" mlw 505 285 ah 598 601 278 3,
 fx 48 "_law_beat" mlw 505 290 ah 604 607 296 2,
 fx 49 "_law_flat" mlw 505 297 ag 610 616 302 1,
 fx 50 adw mlw 505 304 ag 619 627 307 2,
 fx 51 "_law_at" mlw 505 311 ag 630 637 318 1,
 fx 52 adu mlw 505 316 ah 640 643 324 3,
 fx 53 "_law_fault" mlw 505 321 ah 646 649 345 3,
 fx 54 "_law_loads" mlw 505 326 ah 652 655 352 2,
 fx 55 "_law_squares" mlw 505 331 ah 658 661 357 2,
 fx 56 "_law_moved" mlw 505 336 ah 664 667 359 3,
 fx 57 "_law_no_better" mlw 505 341 ah 670 673 367 4,
 fx 58 "_law_right" mlw 505 346 ah 676 679 376 4,
 fx 59 "law" mlw 505 353 ag 682 693 386 1]
def wcO (C N t u:Nat):dL:=⟨.type "type",ae,.cls { name:="Walk",bases:=[.type "object"],mro:=[.ref C,.type "object"],ns:=N,qualname:="Walk"},#[ae,ae,ab (.str "Walk" t),ab (.str "Walk" u),ab (.builtin "object.__new__"),ab (.bool ag)]⟩
def nsO (P:mP) (a:List (ai × Nat × av)) (k:Nat):dL:=⟨.type "dict",ae,.dict (a.map λe=>en P e.1 e.2.1 e.2.2).toArray k,#[]⟩
def cQ (n q:ai) (c:Nat) (b:Bool) (a j l k:Nat):dL:=⟨.type "code",ae,.fields #[.str n a,.str q (a+1),.str "/claim/cut.py" (a+2),.int l 0,.int k 0,.int 0 0,.int 0 0,.int 3 0,.ref (c - (bif b then 5 else 3)),.bool ag,.int 181 0,.ref (c - (bif b then 4 else 2)),.none,bif b then .ref (c - 3) else .none,bif b then .ref (c - 2) else .none,.ref (c - 1),.int j 0,.int l 0,.str "/claim/cut.py" (j+1)],#[]⟩
def fQ (st:eD) (n q m:ai) (t c:Nat):dL:=⟨.type "function",ae,.func (mx n q (cV st) (cF st) (aB st) .none .none .none (.str m t) ae (.ref c) .none),#[]⟩
def KC (P:mP):a8:=[(139,cQ "__init__" "Walk.__init__" 139 ag 371 377 97 3),
 (140,fQ (acl 24 0) "__init__" "Walk.__init__" ac3 351 139),
 (144,cQ "fillings_at" "Walk.fillings_at" 144 ah 380 383 103 3),
 (145,fQ (acl 24 1) "fillings_at" "Walk.fillings_at" ac3 351 144),
 (151,cQ "greatest_at" "Walk.greatest_at" 151 ag 386 392 110 3),
 (152,fQ (acl 24 2) "greatest_at" "Walk.greatest_at" ac3 351 151),
 (156,cQ "load_at" "Walk.load_at" 156 ah 395 398 113 2),
 (157,fQ (acl 24 3) "load_at" "Walk.load_at" ac3 351 156),
 (161,cQ "dealing_of" "Walk.dealing_of" 161 ah 401 404 116 2),
 (162,fQ (acl 24 4) "dealing_of" "Walk.dealing_of" ac3 351 161),
 (164,nsO P [("__module__",366,.str ac3 351),("__firstlineno__",370,.int 95 369),("__init__",379,.ref 140),("fillings_at",385,.ref 145),("greatest_at",394,.ref 152),("load_at",400,.ref 157),("dealing_of",406,.ref 162),("__static_attributes__",411,.ref 163),("__dict__",413,.ref 166),("__weakref__",415,.ref 167),("__doc__",416,.none)] 4),
 (165,wcO 165 164 359 367)]
def KK (P:mP):a8:=(3,⟨.type "dict",ae,.dict ([en P "__name__" 165 (.str mlw 505),
 en P "__doc__" 166 .none,
 en P "__package__" 167 .none,
 en P "__loader__" 168 (.builtin "__main__.__loader__#opaque"),
 en P "__spec__" 169 .none,
 en P "__annotations__" 170 (.ref 6),
 en P "__builtins__" 171 (.ref 4),
 en P "__file__" 173 (.str "/claim/cut.py" 172),
 en P "__cached__" 174 .none]++TB.map λr=>r.1 P).toArray 59,#[]⟩)::(TB.map λr=>r.2).flatten++KC P
def HK:PySem.W.Hook:=kHook KK [3,20,21,27,28,34,35,41,42,48,49,53,54,58,59,63,64,70,71,77,78,84,85,89,90,96,97,103,104,110,111,115,116,120,121,125,126,175,176,182,183,189,190,196,197,203,204,208,209,215,216,222,223,229,230,236,237,243,244,248,249,255,256,260,261,265,266,270,271,275,276,280,281,285,286,290,291,297,298,304,305,311,312,316,317,321,322,326,327,331,332,336,337,341,342,346,347,353,354,139,140,144,145,151,152,156,157,161,162,164,165] (λ_=>by kernel_rfl)
def zqR (tb:String->Option er) (p:bE) (w:bS) (n:Nat) (a:Option av):Nat->iP->Thread->Option iP
 |0,_,_=>ae
 |m+1,s,t=>match W.through t with
  |true=>ab s
  |false=>match W.stepOk n a t with
   |false=>ae
   |true=>match W.stepT (denote tb) p w s t with
    |some (s',t')=>zqR tb p w n a m s' t'
    |none=>ae
theorem zqT {tb:String->Option er}{p:bE}{w:bS}{k:Nat}{a:Option av}:∀{n:Nat}{s s':iP}{t:Thread},zqR tb p w k a n s t=ab s'->W.topRun tb p w k a n s.abs t=ab s'.abs
 |0,_,_,_,h=>by cases h
 |n+1,s,s',t,h=>by
  unfold zqR at h
  unfold W.topRun
  cases he:W.through t with
  |true=>rw[he] at h;cases h;rfl
  |false=>
   rw[he] at h
   cases hk:W.stepOk k a t with
   |false=>rw[hk] at h;cases h
   |true=>
    rw[hk] at h
    cases hs:W.stepT (denote tb) p w s t with
    |none=>rw[hs] at h;cases h
    |some r=>obtain⟨s₂,t₂⟩:=r;rw[hs] at h;rw[W.stepT_spec hs];exact zqT h
def zqb:List dL->W.BT->Nat->Option W.BT
 |[],t,_=>ab t
 |o::l,t,n=>match ((t.ins n o).get n).isSome with
  |true=>zqb l (t.ins n o) (n+1)
  |false=>ae
theorem zqc {f:Life}:∀{l:List dL}{t t':W.BT}{n:Nat},zqb l t n=ab t'->(lS t' (n+l.length) f).objs.toList=(lS t n f).objs.toList++l
 |[],_,_,_,h=>by cases h;simp
 |o::l,t,t',n,h=>by
  unfold zqb at h
  cases e:((t.ins n o).get n).isSome with
  |false=>rw[e] at h;cases h
  |true=>
   rw[e] at h
   have k:=zqc (f:=f) h
   rw[W.absHeap_ins e] at k
   rw[List.length_cons,show n+(l.length+1)=n+1+l.length by omega,k]
   simp [Heap.push]
theorem zqd {s:aI}{t:W.BT}(h:zqb s.heap.objs.toList .nil 0=ab t):(⟨t,s.heap.objs.size,s.heap.life,s.gens,s.drawn,s.toks,s.os⟩:iP).abs=s:=by
 obtain⟨⟨o,f⟩,g,d,k,z⟩:=s
 have e:=zqc (f:=f) h
 have q:(lS t o.size f).objs=o:=Array.toList_inj.mp (by rw[show o.size=0+o.toList.length by simp];exact e.trans (by simp [lS,W.BT.list]))
 show Shared.mk ⟨(lS t o.size f).objs,f⟩ g d k z=_
 rw[q]
def zqE (p:bE) (w:bS) (N:Nat):Option iP:=(W.fencedOpening lv p w N).bind λs=>match s.heap.isNs bv&&s.gens.size==0 with
 |true=>(zqb s.heap.objs.toList .nil 0).bind λt=>(zqR lv p w s.heap.objs.size (s.heap.nsMap bv "__annotations__") N ⟨t,s.heap.objs.size,s.heap.life,s.gens,s.drawn,s.toks,s.os⟩ (W.topStub p)).bind λz=>match W.staticsOk (qc p.main.body) s.heap z.abs.heap&&W.namesBound p z.abs.heap&&W.gensDone z.abs&&W.laidKept s.heap z.abs.heap with
  |true=>ab z
  |false=>ae
 |false=>ae
theorem zqF {p:bE}{w:bS}{N:Nat}{z:iP}(h:zqE p w N=ab z):r9 lv p w N=ab z.abs:=by
 obtain⟨s,a,h⟩:=Option.bind_eq_some_iff.mp h
 refine Option.bind_eq_some_iff.mpr ⟨s,a,?_⟩
 unfold W.topFrom
 split at h
 .rename_i q
  obtain⟨t,b,h⟩:=Option.bind_eq_some_iff.mp h
  obtain⟨x,c,h⟩:=Option.bind_eq_some_iff.mp h
  have c:=zqT c
  rw[zqd b] at c
  rw[q]
  refine Option.bind_eq_some_iff.mpr ⟨x.abs,c,?_⟩
  split at h
  .rename_i y
   cases h
   rw[y]
  .cases h
 .cases h
theorem zqL {p:bE}{w:bS}{N:Nat}{α:Type}{f:aI->α}{a:α}(h:(zqE p w N).map (λz=>f z.abs)=ab a):(r9 lv p w N).map f=ab a:=by
 obtain⟨s,a,h⟩:=Option.map_eq_some_iff.mp h
 rw[zqF a]
 exact congrArg ab h
def zqO (w:bS):=r9 lv (PySem.W.OpenLaw.row PySem.Challenge.rw_stationrow_k70_even_and_without_fault).prog w 3914
abbrev zqX (s:aI):Bool:=W.xlAt qv [] s&&W.recOk (W.RowW.records (PySem.W.OpenLaw.row PySem.Challenge.rw_stationrow_k70_even_and_without_fault).toRowW) s
def zqS (s:aI):=W.openSeen qv [] (qc (PySem.W.OpenLaw.row PySem.Challenge.rw_stationrow_k70_even_and_without_fault).prog.main.body) (λs=>zqX s) ag s
theorem zqM {b h p j k l e:Type}{o:Option b}{f:b->h × p × j × k × l}{g:b->e}{x:h}{y:p}{z:j}{u:k}{v:l}{d:e}(i:o.map (λs=>(f s).1)=ab x) (m:o.map (λs=>(f s).2.1)=ab y) (n:o.map (λs=>(f s).2.2.1)=ab z) (q:o.map (λs=>(f s).2.2.2.1)=ab u) (r:o.map (λs=>(f s).2.2.2.2)=ab v) (c:o.map g=ab d):o.map (λs=>(f s,g s))=ab ((x,y,z,u,v),d):=by
 cases o with
 |none=>cases i
 |some s=>have t:=@Option.some.inj; exact congrArg ab (i4 (i4 (t i) (i4 (t m) (i4 (t n) (i4 (t q) (t r))))) (t c))
theorem zq1 (w:bS):(zqO w).map (λs=>(zqS s).1)=ab (expectedOf qv):=zqL (by kernel_rfl)
theorem zq2 (w:bS):(zqO w).map (λs=>(zqS s).2.1)=ab bltViewBooted:=zqL (by kernel_rfl)
theorem zq4 (w:bS):(zqO w).map (λs=>(zqS s).2.2.1)=ab ag:=zqL (by kernel_rfl)
theorem zq5 (w:bS):(zqO w).map (λs=>(zqS s).2.2.2.1)=ab ag:=zqL (by kernel_rfl)
theorem zq6 (w:bS):(zqO w).map (λs=>(zqS s).2.2.2.2)=ab (pinGoodD (drecsOf qv),plainGoodE qv (W.looseW qv []),plainGoodD qv [],W.wideGood qv,W.clsGoodW qv []):=zqL (by kernel_rfl)
theorem zq3 (w:bS):(zqO w).map (W.Hook.obs HK)=ab (W.Hook.val HK w):=zqL (by kernel_rfl)
theorem left:W.LeftO (PySem.W.OpenLaw.row PySem.Challenge.rw_stationrow_k70_even_and_without_fault).prog qv [] (λs=>zqX s) (W.Hook.obs HK) (W.Hook.val HK) 3914:=λw=>zqM (o:=zqO w) (f:=zqS) (g:=W.Hook.obs HK) (zq1 w) (zq2 w) (zq4 w) (zq5 w) (zq6 w) (zq3 w)
def Yb:eD->ka->ka
 |.FunctionDef _ _ _ _ _ _ _ _ _ p,_=>p
 |_,p=>p
def dv:DefRec:=⟨"law",cV (top 59),cF (top 59),aB (top 59),Yb (top 59) default⟩
open PySem PySem.W PyProof.Rows in
set_option maxRecDepth 100000 in
set_option maxHeartbeats 0 in
theorem zqH (hc:PySem.W.WalkO qv [] (PySem.W.XL qv []) (PySem.W.Hook.says HK) (PySem.W.OpenLaw.row PySem.Challenge.rw_stationrow_k70_even_and_without_fault).toRowW dv [] (fun f vs=>PySem.call f vs)):PySem.Challenge.rw_stationrow_k70_even_and_without_fault.Holds:=by
 refine holds_law adz λsaid=>?_;refine holds_open (d:=dv) (kwd:=[]) (q:=qv) (loose:=[]) (Xt:=λs=>xlAt qv [] s&&recOk (RowW.records (PySem.W.OpenLaw.row PySem.Challenge.rw_stationrow_k70_even_and_without_fault).toRowW) s) (XP:=XL qv []) (Yf:=Hook.obs HK) (Ya:=Hook.val HK) (YP:=Hook.says HK) (N:=3914) left (Hook.of HK) (Hook.keeps HK) (λs e=>xl_of s (Bool.and_eq_true_iff.mp e).1) XL.keeps adz adz adz (λs e=>recFacts_of (Bool.and_eq_true_iff.mp e).2) adz (by first | assumption | kernel_rfl) adz ⟨rfl,rfl,rfl,rfl,rfl,adx⟩ ?hw hc
 case hw=>w_witness2
end M
namespace L2
abbrev Key:=Sum Int ai
def pY:Key->av->Bool
 |.inl k,v=>Value.isInt k v
 |.inr x,v=>sF x v
def Yc (w:bS):Key->Int
 |.inl k=>hashInt k
 |.inr x=>hashStr w x
theorem b8:∀{k:Key}{v:av},pY k v=ag->(∃i t,k=ce i/\v=dd i t)\/(∃x t,k=cf x/\v=lT x t)
 |.inl i,v,h=>by
  obtain⟨t,e⟩:=hV (k:=i) (v:=v) h
  exact .inl ⟨i,t,rfl,e⟩
 |.inr x,v,h=>by
  obtain⟨t,e⟩:=Value.isStrOf_shape (x:=x) (v:=v) h
  exact .inr ⟨x,t,rfl,e⟩
theorem Ax (i:Int) (t:Tok):pY (.inl i) (.int i t)=ag:=by simp [pY,Value.isInt]
theorem Ay (x:ai) (t:Tok):pY (.inr x) (.str x t)=ag:=by simp [pY,sF]
theorem O9 (a b:Int):decide ((ce a:Key)=ce b)=(a==b):=by
 by_cases e:a=b
 .subst e;simp
 have h:¬(ce a:Key)=ce b:=λq=>e (kX q);rw[x_ h];exact (aak.mpr e).symm
theorem Pa (a b:ai):decide ((cf a:Key)=cf b)=decide (a=b):=by
 by_cases e:a=b
 .subst e;simp
 have h:¬(cf a:Key)=cf b:=λq=>e (kU q);rw[x_ h,x_ e]
theorem Pb (a:Int) (b:ai):decide ((ce a:Key)=cf b)=ah:=x_ (λq=>nomatch q)
theorem Pg (a:ai) (b:Int):decide ((cf a:Key)=ce b)=ah:=x_ (λq=>nomatch q)
def bV (prog:bE) (w:bS):PySem.KeyKind prog w Key where
 is:=pY
 hash:=Yc w
 inj:=λv a b f d=>by
  rcases b8 f with ⟨i,t,rfl,rfl⟩ | ⟨x,t,rfl,rfl⟩
  ·
   rcases b8 d with ⟨j,u,rfl,e⟩ | ⟨y,u,rfl,e⟩
   ·
    injection e with e1 _;rw[e1]
   ·
    exact nomatch e
  ·
   rcases b8 d with ⟨j,u,rfl,e⟩ | ⟨y,u,rfl,e⟩
   ·
    exact nomatch e
   ·
    injection e with e1 _;rw[e1]
 byValue:=λk v h=>by
  rcases b8 h with ⟨i,t,rfl,rfl⟩ | ⟨x,t,rfl,rfl⟩ <;> rfl
 pyHash:=λc h=>by
  rcases b8 c with ⟨i,t,rfl,rfl⟩ | ⟨x,t,rfl,rfl⟩
  ·
   exact wpAny_pyHash_int h
  ·
   exact wpAny_pyHash_str h
 eqBool:=λg c h=>by
  rcases b8 g with ⟨i,t,rfl,rfl⟩ | ⟨x,t,rfl,rfl⟩
  ·
   rcases b8 c with ⟨j,u,rfl,rfl⟩ | ⟨y,u,rfl,rfl⟩
   ·
    rw[O9] at h;exact wpAny_eqBool_int h
   ·
    rw[Pb] at h;exact SeqAt.EqAt.int_str i t y u _ _ _ _ h
  ·
   rcases b8 c with ⟨j,u,rfl,rfl⟩ | ⟨y,u,rfl,rfl⟩
   ·
    rw[Pg] at h;exact SeqAt.EqAt.str_int x t j u _ _ _ _ h
   ·
    rw[Pa] at h;exact wpAny_eqBool_str h
 «strs»:=λk x t v h=>by
  rcases b8 h with ⟨i,u,rfl,e⟩ | ⟨y,u,rfl,e⟩
  ·
   exact nomatch e
  ·
   injection e with e1 _
   subst e1
   cases v <;> rfl
theorem tX (prog:bE) (w:bS) (i:Int) (t:Tok):(bV prog w).is (.inl i) (.int i t)=ag:=Ax i t
theorem tY (prog:bE) (w:bS) (x:ai) (t:Tok):(bV prog w).is (.inr x) (.str x t)=ag:=Ay x t
inductive V where
 |non | bl (b:Bool) | int (i:Int) | str (x:ai) | byt (b:Array UInt8) | flt (b:UInt64) | ref (a:am) | ty (n:String)
 deriving DecidableEq
def RelV:V->av->Prop
 |.non,u=>u=d3
 |.bl b,u=>u=eP b
 |.int i,u=>∃t,u=dd i t
 |.str x,u=>∃t,u=lT x t
 |.byt b,u=>∃t,u=Value.bytes b t
 |.flt b,u=>∃t,u=pV b t
 |.ref a,u=>u=bg a
 |.ty n,u=>u=cE n
abbrev Vals:List V->List av->Prop:=gg RelV
theorem Vals.length (r:Vals xs us):xs.length=us.length:=aaZ r
theorem Vals.get:∀{xs:List V}{us:List av}{i:Nat}{x:V},Vals xs us->xs[i]?=ab x->∃u,us[i]?=ab u/\RelV x u
 |_,_,_,_,.nil,e=>by simp at e
 |_,_,0,_,.cons r _,e=>by simp at e;subst e;exact⟨_,rfl,r⟩
 |_,_,i+1,x,.cons _ t,e=>by
  obtain⟨u,a,b⟩:=Vals.get (i:=i) (x:=x) t (by simpa using e)
  exact⟨u,by simpa using a,b⟩
theorem Vals.set (r:RelV x u):∀{xs:List V}{us:List av}(i:Nat),Vals xs us->Vals (xs.set i x) (us.set i u)
 |_,_,_,.nil=>.nil
 |_,_,0,.cons _ t=>.cons r t
 |_,_,i+1,.cons q t=>.cons q (Vals.set r i t)
theorem Vals.append:∀{xs a:List V}{us ws:List av},Vals xs us->Vals a ws->Vals (xs++a) (us++ws)
 |_,_,_,_,.nil,s=>s
 |_,_,_,_,.cons r t,s=>.cons r (Vals.append t s)
theorem Vals.take:∀{xs:List V}{us:List av}(n:Nat),Vals xs us->Vals (xs.take n) (us.take n)
 |_,_,0,_=>.nil
 |_,_,_+1,.nil=>.nil
 |_,_,n+1,.cons r t=>.cons r (Vals.take n t)
theorem Vals.drop:∀{xs:List V}{us:List av}(n:Nat),Vals xs us->Vals (xs.drop n) (us.drop n)
 |_,_,0,r=>r
 |_,_,_+1,.nil=>.nil
 |_,_,n+1,.cons _ t=>Vals.drop n t
def acP:Option V->Option av->Prop
 |some v,ab u=>RelV v u
 |none,ae=>True
 |_,_=>False
def KV {a:Type}:List (a × V)->List (a × av)->Prop:=gg λ(p:a × V) (q:a × av)=>p.1=q.1/\RelV p.2 q.2
def kV:Key->V
 |.inl i=>.int i
 |.inr x=>.str x
inductive HO where
 |lst (xs:List V)
 |tup (xs:List V)
 |dK (kvs:List (Key × V)) | dT (kvs:List (List Key × V))
 |set (S:Int->Bool) (n:Nat)
 |ins (C dx:am) (fs:List (ai × V))
 |own (x:am)
 |xd (fs:List (ai × V))
 |met (f x:am)
 |rng (lo hi:Int)
 |frz (o:dL) (u:HO)
 |tbl (ps:Array av)
 |ext (φ:cv->Prop)
abbrev Hp:=am->Option HO
def upd (H:Hp) (a:am) (o:HO):Hp:=λb=>if b=a then ab o else H b
theorem cu:upd H a o a=ab o:=by unfold upd;rw[aca rfl]
theorem bu (h:b≠a):upd H a o b=H b:=by unfold upd;rw[ace h]
theorem Uj {H:Hp} (h:H a=ab o) (h':H b=ab u) (d:o≠u):a≠b:=by
 intro e;subst e;rw[h] at h';exact d (Zg h')
theorem cD {H:Hp} (h:H a=ab o) (h':H b=ae):a≠b:=by
 intro e;subst e;rw[h] at h';cases h'
def adA (h:cv) (a:am) (b:Array av):Prop:=∃o,h.get? a=ab o/\o.cls=.type "tuple"/\∃n,o.data=.seq b n/\o.dict=ae
theorem adA.is (x:adA h a b):vF h a b:=by
 obtain⟨o,c,d,n,e,_⟩:=x;exact⟨o,c,d,n,e⟩
theorem adA.new (h:cv) (a:Array av):adA (h.push { cls:=.type "tuple",data:=.seq a}) h.objs.size a:=⟨_,G_ _ rfl,rfl,_,rfl,rfl⟩
section
variable (P:bE)(w:bS)
def xr (H:Hp) (h:cv) (a:am):HO->Prop
 |.lst xs=>xs.length<=ap/\∃(b:List av) (n:Nat),Vals xs b/\h.get? a=ab { cls:=.type "list",data:=.seq b.toArray n}
 |.tup xs=>xs.length<=ap/\∃b:List av,Vals xs b/\adA h a b.toArray
 |.dK kvs=>kvs.length<=ap/\(a==dn)=ah/\∃vs,KV kvs vs/\h.DictOf (bV P w) a vs
 |.dT kvs=>kvs.length<=ap/\(a==dn)=ah/\∃xs:List (List Key × am × av),
   gg (λ(p:List Key × V) (q:List Key × am × av)=>p.1=q.1/\H q.2.1=ab (.tup (p.1.map kV))/\RelV p.2 q.2.2) kvs xs /\
   ∃o k ep,h.get? a=ab o/\o.ExactDict/\o.data=.dict k ep/\k.toList=xs.map (entryOfKey (lh (bV P w)))/\(xs.map (·.1)).Nodup
 |.set S n=>h.SetOf (dr P w) a S n
 |.ins C e d=>H e=ab (.own a)/\d.length<=1000/\e≠a/\h.get? a=ab (hU C e) /\
   ∃c,h.Ns1 e c/\(∀f,acP (d.lookup f) (c f))/\j3 c (d.map (·.1))
 |.own _=>∃o,h.get? a=ab o
 |.xd d=>∃c,h.Ns1 a c/\∀f,acP (d.lookup f) (c f)
 |.rng m l=>∃t u v,h.get? a=ab { cls:=.type "range",data:=.fields #[.int m t,.int l u,.int 1 v]}
 |.frz o u=>h.get? a=ab o/\xr H h a u
 |.tbl ps=>h.get? a=ab { cls:=.none,data:=.fields ps}
 |.met f x=>h.get? a=ab (oy (.ref f) (.ref x))
 |.ext g=>g h/\(∃o,h.get? a=ab o)/\∀i j:cv,g i->(∀o,i.get? a=ab o->j.get? a=ab o)->g j
def HOk (H:Hp) (h:cv):Prop:=∀a o,H a=ab o->xr P w H h a o
end
section
variable {P:bE}{w:bS}{a:am}
theorem xr.lt (x:xr P w H h a o):a<h.objs.size:=by
 cases o with
 |lst xs=>obtain⟨_,_,_,_,e⟩:=x;exact L_ e
 |tup xs=>obtain⟨_,_,_,p⟩:=x;exact p.is.lt
 |dK kvs=>obtain⟨_,_,_,_,o,_,_,e,_⟩:=x;exact L_ e
 |dT kvs=>obtain⟨_,_,_,_,o,_,_,e,_⟩:=x;exact L_ e
 |set S n=>obtain⟨o,_,_,_,e,_⟩:=x;exact L_ e
 |ins C i b=>obtain⟨_,_,_,e,_⟩:=x;exact L_ e
 |own y=>obtain⟨_,e⟩:=x;exact L_ e
 |xd b=>obtain⟨_,⟨_,_,_,e,_⟩,_⟩:=x;exact L_ e
 |rng j g=>obtain⟨_,_,_,e⟩:=x;exact L_ e
 |frz c u=>obtain⟨e,_⟩:=x;exact L_ e
 |tbl ps=>exact L_ (show h.get? a=ab _ from x)
 |met f y=>exact L_ (show h.get? a=ab _ from x)
 |ext d=>obtain⟨_,⟨_,e⟩,_⟩:=x;exact L_ e
theorem Paired.mapP:∀{d:List e}{c:List g},gg F d c->(∀a b,F a b->G a b)->gg G d c
 |_,_,.nil,_=>.nil
 |_,_,.cons r t,f=>.cons (f _ _ r) (Paired.mapP t f)
theorem xr.stay (x:xr P w H h a o) (k:∀b u,(b=a\/H b=ab (.own a))->h.get? b=ab u->h'.get? b=ab u)
  (B:∀b,H b=ab (.own a)->H' b=ab (.own a)) (s:∀b xs,H b=ab (.tup xs)->H' b=ab (.tup xs)):xr P w H' h' a o:=by
 induction o with
 |lst xs=>obtain⟨z,j,n,r,e⟩:=x;exact⟨z,j,n,r,k _ _ (.inl rfl) e⟩
 |tup xs=>obtain⟨z,j,r,g,e,c⟩:=x;exact⟨z,j,r,g,k _ _ (.inl rfl) e,c⟩
 |dK kvs=>obtain⟨z,y,vs,r,g,i,ep,e,c⟩:=x;exact⟨z,y,vs,r,g,i,ep,k _ _ (.inl rfl) e,c⟩
 |dT kvs=>obtain⟨z,y,xs,r,g,i,ep,e,c⟩:=x;exact⟨z,y,xs,Paired.mapP r λp q z=>⟨z.1,s _ _ z.2.1,z.2.2⟩,g,i,ep,k _ _ (.inl rfl) e,c⟩
 |set S n=>obtain⟨g,i,ep,t,e,c⟩:=x;exact⟨g,i,ep,t,k _ _ (.inl rfl) e,c⟩
 |ins C J F=>obtain⟨d,z,E,e,m,⟨l,i,ep,D,c⟩,r⟩:=x;exact⟨B _ d,z,E,k _ _ (.inl rfl) e,m,⟨l,i,ep,k _ _ (.inr d) D,c⟩,r⟩
 |own y=>obtain⟨g,e⟩:=x;exact⟨g,k _ _ (.inl rfl) e⟩
 |xd F=>obtain⟨m,⟨l,i,ep,e,c⟩,r⟩:=x;exact⟨m,⟨l,i,ep,k _ _ (.inl rfl) e,c⟩,r⟩
 |rng K I=>obtain⟨t,u,v,e⟩:=x;exact⟨t,u,v,k _ _ (.inl rfl) e⟩
 |frz g u A=>obtain⟨e,q⟩:=x;exact⟨k _ _ (.inl rfl) e,A q⟩
 |tbl ps =>
  have e:h.get? a=ab { cls:=.none,data:=.fields ps}:=x
  show h'.get? a=ab { cls:=.none,data:=.fields ps}
  exact k a _ (.inl rfl) e
 |met f y =>
  have e:h.get? a=ab (oy (.ref f) (.ref y)):=x
  show h'.get? a=ab (oy (.ref f) (.ref y))
  exact k a _ (.inl rfl) e
 |ext G=>obtain⟨p,⟨o,e⟩,st⟩:=x;exact⟨st _ _ p λo q=>k _ _ (.inl rfl) q,⟨o,k _ _ (.inl rfl) e⟩,st⟩
theorem HOk.lt (x:HOk P w H h) (e:H a=ab o):a<h.objs.size:=(x a o e).lt
theorem HOk.fresh (x:HOk P w H h) (e:h.objs.size<=a):H a=ae:=by
 cases q:H a with
 |none=>rfl
 |some u=>exact ach (V_ (x.lt q) e) (ZK _)
theorem HOk.kept (x:HOk P w H h) (k:∀b u,h.get? b=ab u->h'.get? b=ab u):HOk P w H h':=λa o e =>
 (x a o e).stay (λb u _ q=>k b u q) (λ_ q=>q) λ_ _ q=>q
theorem HOk.laid (x:HOk P w H h) (k:∀b u,h.get? b=ab u->h'.get? b=ab u) (i:h.objs.size<=a) (d:xr P w (upd H a o) h' a o):HOk P w (upd H a o) h':=λb u e=>by
 have g:=x.fresh i;by_cases f:b=a
 .subst f;rw[cu] at e;cases e;exact d
 rw[bu f] at e;exact (x b u e).stay (λc v _ q=>k c v q) (λc q=>by rw[bu (cD q g)];exact q) λc xs q=>by rw[bu (cD q g)];exact q
end
def Rd (H:Hp) (a:am) (u:HO):Prop:=H a=ab u\/∃o,H a=ab (.frz o u)
theorem Rd.ok (r:Rd H a u) (x:HOk P w H h):xr P w H h a u:=by
 rcases r with r | ⟨o,r⟩
 .exact x a u r
 obtain⟨_,q⟩:=x a _ r;exact q
def Mut:Option HO->Prop
 |some (.lst _)=>True
 |some (.dK _)=>True
 |some (.dT _)=>True
 |some (.set _ _)=>True
 |some (.ins _ _ _)=>True
 |some (.ext _)=>True
 |_=>False
section
variable {P:bE}{w:bS}
theorem HOk.write (p:HOk P w H h) (mu:Mut (H x)) (m:e=x\/H e=ab (.own x)) (k:∀b u,b≠e->h.get? b=ab u->h'.get? b=ab u) (j:∃u,h'.get? e=ab u)
  (l:xr P w (upd H x o') h' x o'):HOk P w (upd H x o') h':=λb u q=>by
 have d:∀c y,H c=ab (.own y)->c≠x:=λc y r z=>by subst z;rw[r] at mu;exact mu
 have f:∀c xs,H c=ab (.tup xs)->c≠x:=λc xs r z=>by subst z;rw[r] at mu;exact mu
 by_cases g:b=x
 .subst g;rw[cu] at q;cases q;exact l
 rw[bu g] at q;by_cases a:b=e
 .have n:H b=ab (.own x):=by
   rcases m with z | z
   .exact ach (a.trans z) g
   rw[a];exact z
  rw[q] at n;cases n;obtain⟨v,o⟩:=j;exact⟨v,by rw[a];exact o⟩
 refine (p b u q).stay (λc v i r=>k c v ?_ r) (λc r=>by rw[bu (d c b r)];exact r) λc xs r=>by rw[bu (f c xs r)];exact r
 rcases i with rfl | i
 .exact a
 rintro rfl;rcases m with z | z
 .exact d c b i z
 rw[i] at z;cases z;exact g rfl
end
structure Un (fs ex:List am) (H H':Hp) (h h':cv):Prop where
 keep:∀b o,h.get? b=ab o->H b=ae->b∉fs->b∉ex->h'.get? b=ab o
 slot:∀b o,h.get? b=ab o->H b=ae->b∈fs->b∉ex->∃sl,h'.get? b=ab { o with slots:=sl}
 free:∀b o,h.get? b=ab o->H b=ae->b∉ex->H' b=ae
 there:∀b o,h.get? b=ab o->b∉ex->∃o',h'.get? b=ab o'
 tups:∀b xs,H b=ab (.tup xs)->H' b=ab (.tup xs)
 frzs:∀b o u,H b=ab (.frz o u)->H' b=ab (.frz o u)
 tbls:∀b ps,H b=ab (.tbl ps)->∃more,H' b=ab (.tbl (ps++more))
section
variable {h h1 h2 h':cv}{a x e:am}
theorem Un.any (u:Un fs ex H H1 h h1) (q:h.get? b=ab ob) (n:H b=ae) (c:b∉ex):∃d,h1.get? b=ab { ob with slots:=d}:=by
 by_cases a:b∈fs
 .exact u.slot b ob q n a c
 exact⟨ob.slots,u.keep b ob q n a c⟩
theorem Un.kept (k:∀b u,h.get? b=ab u->h'.get? b=ab u):Un fs ex H H h h' :=
 ⟨λb a q _ _ _=>k b a q,λb a q _ _ _=>⟨a.slots,k b a q⟩,λ_ _ _ n _=>n,λb a q _=>⟨a,k b a q⟩,λ_ _ q=>q,λ_ _ _ q=>q,λ_ ps q=>⟨#[],by rw[q];simp⟩⟩
theorem Un.refl:Un fs ex H H h h:=Un.kept λ_ _ q=>q
theorem Un.laid (k:∀b u,h.get? b=ab u->h'.get? b=ab u) (d:h.objs.size<=a) (c:H a=ae):Un fs ex H (upd H a o) h h' where
 keep:=λb u q _ _ _=>k b u q
 slot:=λb u q _ _ _=>⟨u.slots,k b u q⟩
 free:=λb u q n _=>by rw[bu (Zk (V_ (L_ q) d))];exact n
 there:=λb u q _=>⟨u,k b u q⟩
 tups:=λb xs q=>by rw[bu (cD q c)];exact q
 frzs:=λb u xs q=>by rw[bu (cD q c)];exact q
 tbls:=λb ps q=>⟨#[],by rw[bu (cD q c),q];simp⟩
theorem Un.write (mu:Mut (H x)) (i:e=x\/H e=ab (.own x)) (k:∀b u,b≠e->h.get? b=ab u->h'.get? b=ab u) (d:∃u,h'.get? e=ab u):Un fs ex H (upd H x o) h h':=by
 have f:∀b,H b=ae->b≠x:=λb n z=>by subst z;rw[n] at mu;exact mu
 have g:∀b,H b=ae->b≠e:=λb n z=>by
  subst z;rcases i with r | r
  .exact f b n r
  rw[n] at r;cases r
 have c:∀b u,H b=ab u->¬Mut (ab u)->b≠x:=λb u q nm z=>by subst z;rw[q] at mu;exact nm mu
 refine⟨λb u q n _ _=>k b u (g b n) q,λb u q n _ _=>⟨u.slots,k b u (g b n) q⟩,λb u q n _=>by rw[bu (f b n)];exact n,λb u q _=>?_,
  λb xs q=>by rw[bu (c b _ q λz=>z)];exact q,λb u xs q=>by rw[bu (c b _ q λz=>z)];exact q,λb ps q=>⟨#[],by rw[bu (c b _ q λz=>z),q];simp⟩⟩
 by_cases a:b=e
 .subst a;exact d
 exact⟨u,k b u a q⟩
end
def trk (h:cv) (H:Hp):List am:=(af h.objs.size).filter λa=>(H a).isSome
def qU (h:cv) (H:Hp):cv:=PySem.W.hideAll h (trk h H)
theorem Az (h:cv) (H:Hp):(qU h H).objs.size=h.objs.size:=PySem.W.hideAll_size _ _
theorem CG (e:h.get? b=ab o) (n:H b=ae):(qU h H).get? b=ab o :=
 PySem.W.hideAll_get _ e λa=>by
  have q:(H b).isSome=ag:=(E_.mp a).2;rw[n] at q;simp at q
theorem HR (e:(qU h H).get? b=ab o):h.get? b=ab o/\H b=ae:=by
 have a:h.get? b=ab o:=PySem.W.of_hideAll (trk h H) e;refine⟨a,?_⟩;cases q:H b with
 |none=>rfl
 |some x =>
  have c:b∈trk h H:=E_.mpr ⟨F_.mpr (L_ a),by simp [q]⟩
  have z:(qU h H).get? b=ae:=PySem.W.hideAll_none (trk h H) c
  rw[z] at e;cases e
def HS (g h : cv) (L : am) : List (am × dL):=(af h.objs.size).filterMap λa => if a = L \/ (g.get? a).isSome = ag then ae else (h.get? a).map λo => (a,o)
def rest (g h:cv) (L d:am):List (am × dL):=(HS g h L).filter λp=>decide (p.1≠d)
structure Mod (K:a8) (mg:ai->Option av) (base:cv):Prop where
 kin:K.In base
 glob:base.Ns bv mg
 blt:∃mb,base.Ns mI mb/\∀x:ai,x≠"__name__"->mb x=bb x
 nolimit:base.NoLimit
structure Cx where
 prog:bE
 w:bS
 K:a8
 mg:ai->Option av
 base:cv
 A:eB
 N:List ai
 s₀:aI
 H₀:Hp
 env:t5
 outer:List t5
 stack:List t5
 ex:List am
 fn:ai->Bool
 calm:Bool
 pn:List (am × dL)
 xe:av->aI->Prop
def frs (l : List t5) : List am:=l.filterMap (·.frame)
abbrev Cx.fs (X:Cx):List am:=frs X.outer
def Vis (a:Scope) (x:ai):Prop:=a.names.lookup x=ab .local\/a.names.lookup x=ab .cell\/a.names.lookup x=ab .free
def Loc (a:Scope) (x:ai):Prop:=a.names.lookup x=ab .local\/a.names.lookup x=ab .cell
def Look (env:t5) (h:cv) (m:ai->Option av) (x:ai) (u:av):Prop :=
 (env.kindOf x=ab .local/\m x=ab u)\/((env.kindOf x=ab .cell\/env.kindOf x=ab .free)/\∃c,env.cells.lookup x=ab c/\h.IsCell c (ab u))
structure Cx.Ok (X:Cx):Prop where
 mod:Mod X.K X.mg X.base
 kind:X.env.scope.kind=.function
 glob:X.env.globals=bv
 blt:X.env.builtins=mI
 above:X.s₀.heap.objs.size<=X.env.locals
 inj:∀x y c,X.env.cells.lookup x=ab c->X.env.cells.lookup y=ab c->x=y
 has:∀x,(X.env.kindOf x=ab .cell\/X.env.kindOf x=ab .free)->∃c,X.env.cells.lookup x=ab c
 cab:∀x c,X.fn x=ag->X.env.cells.lookup x=ab c->X.s₀.heap.objs.size<=c
 hd:X.calm=ag->X.A.handled=ae
 frames:X.A.frames=ab X.stack
 stk:X.stack=X.outer\/(X.stack=X.env::X.outer/\X.env.frame=ab X.env.locals)
 exf:∀b∈X.ex,b≠X.env.locals/\∀x c,X.env.cells.lookup x=ab c->c≠b
 bs:∀b o,X.base.get? b=ab o->X.s₀.heap.get? b=ab o/\X.H₀ b=ae
 bsz:X.base.objs.size<=X.s₀.heap.objs.size
 noex:∀b o,X.base.get? b=ab o->b∉X.ex
 exfs:∀b∈X.ex,b∉X.fs
 funs:X.s₀.heap.FunFrames X.base X.outer
 frf:∀b∈X.fs,X.H₀ b=ae
structure Inv (X:Cx) (pins:List (am × dL)) (σ:List (Option V)) (H:Hp) (s:aI):Prop where
 ok:X.Ok
 os:s.os=X.s₀.os
 bare:ij s.gens
 base:Un X.fs X.ex X.H₀ H X.s₀.heap s.heap
 loc:∃m,s.heap.Ns X.env.locals m/\∀(i:Nat) (x:ai) (v:V),X.N[i]?=ab x->σ[i]?=ab (ab v)->Vis X.env.scope x->∃u,RelV v u/\Look X.env s.heap m x u
 cell:∀x c,X.env.cells.lookup x=ab c->∃v,s.heap.IsCell c v
 free:H X.env.locals=ae
 freeC:∀x c,X.env.cells.lookup x=ab c->H c=ae
 pin:∀p∈X.pn++pins,s.heap.get? p.1=ab p.2/\H p.1=ae/\p.1≠X.env.locals/\p.1∉X.fs/\∀v,p.2.data≠.cell v
 hok:HOk X.prog X.w H s.heap
 len:σ.length=X.N.length
section
variable {X:Cx}{pins:List (am × dL)}
theorem Cx.Ok.nofr (c:X.Ok) (e:X.base.get? b=ab o):b∉X.fs:=λa=>by
 have:=(c.funs.mem a).1;rw[e] at this;cases this
theorem Inv.bs (I:Inv X pins σ H s):∀b o,X.base.get? b=ab o->s.heap.get? b=ab o/\H b=ae:=λb o e =>
 ⟨I.base.keep b o (I.ok.bs b o e).1 (I.ok.bs b o e).2 (I.ok.nofr e) (I.ok.noex b o e),I.base.free b o (I.ok.bs b o e).1 (I.ok.bs b o e).2 (I.ok.noex b o e)⟩
theorem Inv.bk (I:Inv X pins σ H s):∀b o,X.base.get? b=ab o->s.heap.get? b=ab o:=λb o e=>(I.bs b o e).1
theorem Inv.mod (I:Inv X pins σ H s):Mod X.K X.mg X.base:=I.ok.mod
theorem Inv.kIn (I:Inv X pins σ H s):X.K.In s.heap:=I.ok.mod.kin.keeps I.bk
theorem Inv.lt (I:Inv X pins σ H s):X.env.locals<s.heap.objs.size:=let ⟨_,hn,_⟩:=I.loc;hn.lt
theorem Inv.sz (I:Inv X pins σ H s):X.s₀.heap.objs.size<=s.heap.objs.size:=W_ I.ok.above (aai I.lt)
theorem Inv.nofs (I:Inv X pins σ H s) {a:am}(h:s.heap.objs.size<=a):a∉X.fs:=λc=>by
 obtain⟨_,o,b,_⟩:=I.ok.funs.mem c;exact ach (V_ (L_ b) (W_ I.sz h)) (ZK _)
theorem Inv.cne (I:Inv X pins σ H s):∀x c,X.env.cells.lookup x=ab c->c≠X.env.locals:=λx c e z=>by
 obtain⟨v,o,f,d⟩:=I.cell x c e;obtain⟨m,⟨g,h,ep,b,a,_⟩,_⟩:=I.loc;rw[z,b] at f;cases f;rw[a] at d;cases d
theorem Inv.funs (I:Inv X pins σ H s):s.heap.FunFrames X.base X.outer:=by
 have d:∀(l:List t5),(∀b∈frs l,b∈X.fs)->X.s₀.heap.FunFrames X.base l->s.heap.FunFrames X.base l:=by
  intro l;induction l with
  |nil=>intro _ _;trivial
  |cons env r h =>
  intro g n;obtain ⟨p,⟨L,o,a,k,j,i⟩,m⟩:=n;have c : L ∈ X.fs:=g L (by unfold frs; rw [fR,a]; exact k_);obtain ⟨q,e⟩:=I.base.slot L o j (I.ok.frf L c) c λz => I.ok.exfs L z c;exact ⟨p,⟨L,_,a,k,e,i⟩,h (λb f => g b (by unfold frs; rw [fR,a]; exact u_ _ f)) m⟩
 exact d X.outer (λ_ f=>f) I.ok.funs
theorem Inv.stack (I:Inv X pins σ H s):s.heap.FunFrames X.base X.stack:=by
 rcases I.ok.stk with e | ⟨e,a⟩
 .rw[e];exact I.funs
 rw[e];obtain⟨m,b,_⟩:=I.loc;refine .cons (by rw[I.ok.kind];decide) a b ?_ I.funs;exact Heap.get?_none_of_le (W_ I.ok.bsz I.ok.above)
theorem Inv.stkSub (I:Inv X pins σ H s):∀b∈frs X.stack,b∈X.env.locals::X.fs:=λb a=>by
 rcases I.ok.stk with e | ⟨e,c⟩
 .rw[e] at a;exact u_ _ a
 rw [e] at a;unfold frs at a;rw [fR,c] at a;exact a
theorem Inv.stkFree (I:Inv X pins σ H s):∀b∈frs X.stack,H b=ae:=λb a=>by
 rcases n_.mp (I.stkSub b a) with e | a
 .rw[e];exact I.free
 obtain⟨_,o,c,_⟩:=I.ok.funs.mem a;exact I.base.free b o c (I.ok.frf b a) λz=>I.ok.exfs b z a
theorem Inv.step {ch:List am} (I:Inv X pins σ H s) (h:∀b∈ch,(b∈X.ex\/X.s₀.heap.objs.size<=b)/\b≠X.env.locals/\(∀x c,X.env.cells.lookup x=ab c->c≠b)/\∀p∈X.pn++pins,p.1≠b) (j:∀b o,b≠X.env.locals->b∉X.fs->b∉ch->s.heap.get? b=ab o->H b=ae->h'.get? b=ab o) (B:∀b o,b≠X.env.locals->b∈X.fs->b∉ch->s.heap.get? b=ab o->H b=ae->∃Q,h'.get? b=ab { o with slots:=Q}) (f:∀b o,b∉ch->s.heap.get? b=ab o->H b=ae->H' b=ae) (D:∀b o,b∉ch->s.heap.get? b=ab o->∃K,h'.get? b=ab K) (J:∀b xs,H b=ab (.tup xs)->H' b=ab (.tup xs)) (L:∀b o u,H b=ab (.frz o u)->H' b=ab (.frz o u)) (G:∀b ps,H b=ab (.tbl ps)->∃more,H' b=ab (.tbl (ps++more))) (ns:∀m,s.heap.Ns X.env.locals m->h'.Ns X.env.locals m) (O:HOk X.prog X.w H' h') (W:ij g'):
  Inv X pins σ H' { s with heap:=h',gens:=g',drawn:=d',toks:=t'}:=by
 have M:∀b o,X.s₀.heap.get? b=ab o->b≠X.env.locals:=λb o e=>Zk (V_ (L_ e) I.ok.above);have A:∀b o,X.s₀.heap.get? b=ab o->b∉X.ex->b∉ch:=λb o e a C=>by
  rcases (h b C).1 with z | z
  .exact a z
  exact ach (V_ (L_ e) z) (ZK _)
 have g:∀x c,X.env.cells.lookup x=ab c->∀v,s.heap.IsCell c v->h'.IsCell c v:=λx c e v ⟨o,E,N⟩=>by
  have t:c∉ch:=λz=>(h c z).2.2.1 x c e rfl;by_cases T:c∈X.fs
  .obtain⟨Q,q⟩:=B c o (I.cne x c e) T t E (I.freeC x c e);exact⟨_,q,N⟩
  exact⟨o,j c o (I.cne x c e) T t E (I.freeC x c e),N⟩
 refine⟨I.ok,I.os,W,⟨λb o e n C a=>?_,λb o e n C a=>?_,λb o e n a=>?_,λb o e a=>?_,λb xs e=>J b xs (I.base.tups b xs e),λb o xs e=>L b o xs (I.base.frzs b o xs e),λb ps e=>?_⟩,?_,λx c e=>?_,?_,λx c e=>?_,λp R=>?_,O,I.len⟩
 .exact j b o (M b o e) C (A b o e a) (I.base.keep b o e n C a) (I.base.free b o e n a)
 .obtain⟨Q,y⟩:=I.base.slot b o e n C a;obtain⟨P,F⟩:=B b _ (M b o e) C (A b o e a) y (I.base.free b o e n a);exact⟨P,F⟩
 .obtain⟨K,y⟩:=I.base.there b o e a;exact f b K (A b o e a) y (I.base.free b o e n a)
 .obtain⟨K,y⟩:=I.base.there b o e a;exact D b K (A b o e a) y
 .obtain⟨V,y⟩:=I.base.tbls b ps e;obtain⟨m2,F⟩:=G b _ y;exact⟨V++m2,by rw[F,Array.append_assoc]⟩
 .obtain⟨m,Y,hl⟩:=I.loc;refine⟨m,ns m Y,λi x v y F Z=>?_⟩;obtain⟨u,r,l⟩:=hl i x v y F Z;refine⟨u,r,?_⟩;rcases l with l | ⟨k,c,e,z⟩
  .exact .inl l
  exact .inr ⟨k,c,e,g x c e _ z⟩
 .obtain⟨v,z⟩:=I.cell x c e;exact⟨v,g x c e v z⟩
 .obtain⟨m,⟨o,_,_,E,_⟩,_⟩:=I.loc;exact f _ o (λz=>(h _ z).2.1 rfl) E I.free
 .obtain⟨v,o,E,N⟩:=I.cell x c e;exact f c o (λz=>(h c z).2.2.1 x c e rfl) E (I.freeC x c e)
 obtain⟨e,n,S,U,d⟩:=I.pin p R;have t:p.1∉ch:=λz=>(h p.1 z).2.2.2 p R rfl;exact⟨j p.1 p.2 S U t e n,f p.1 p.2 t e n,S,U,d⟩
theorem Inv.un (I:Inv X pins σ H s) (u:Un X.fs [] H H' s.heap h') (c:HOk X.prog X.w H' h'):Inv X pins σ H' { s with heap:=h',toks:=t'}:=by
 obtain⟨m,⟨o,q,ep,g,r⟩,_⟩:=id I.loc;obtain⟨k,h⟩:=u.any g I.free adE;exact I.step (g':=s.gens) (d':=s.drawn) (ch:=[]) (λ_ z=>nomatch z) (λb o _ f _ e n=>u.keep b o e n f adE) (λb o _ f _ e n=>u.slot b o e n f adE) (λb o _ e n=>u.free b o e n adE) (λb o _ e=>u.there b o e adE) u.tups u.frzs u.tbls (λl i=>by
  obtain⟨p,es',d,a,j⟩:=i
  rw[g] at a;cases a
  exact⟨_,es',d,h,j⟩) c I.bare
theorem Inv.call (I:Inv X pins σ H s) (u:Un (frs X.stack) ch H H' s.heap h') (h:HOk X.prog X.w H' h') (k:ij g') (d:∀b∈ch,(b∈X.ex\/X.s₀.heap.objs.size<=b)/\b≠X.env.locals/\(∀x c,X.env.cells.lookup x=ab c->c≠b)/\∀p∈X.pn++pins,p.1≠b):
  Inv X pins σ H' { s with heap:=h',gens:=g',drawn:=d',toks:=t'}:=by
 obtain⟨m,⟨o,B,ep,j,r⟩,_⟩:=id I.loc;obtain⟨v,g⟩:=u.any j I.free λz=>(d _ z).2.1 rfl;exact I.step (ch:=ch) d (λb o g q a e n=>u.keep b o e n (λz=>(n_.mp (I.stkSub b z)).elim g q) a) (λb o _ _ a e n=>u.any e n a) (λb o a e n=>u.free b o e n a) (λb o a e=>u.there b o e a) u.tups u.frzs u.tbls (λy l=>by
  obtain⟨A,es',i,f,t⟩:=l
  rw[j] at f;cases f
  exact⟨_,es',i,g,t⟩) h k
theorem Inv.turned (I:Inv X pins σ H s) (k:∀b o,b≠it->s.heap.get? b=ab o->h'.get? b=ab o) (j:H it=ae) (f:it≠X.env.locals) (g:it∈X.ex\/X.s₀.heap.objs.size<=it) (w:∀x c,X.env.cells.lookup x=ab c->c≠it) (l:∀p∈X.pn++pins,p.1≠it):Inv X pins σ H { s with heap:=h',toks:=t'}:=by
 have d:∀b u,H b=ab u->b≠it:=λb u e z=>by rw[z,j] at e;cases e
 refine I.step (g':=s.gens) (d':=s.drawn) (ch:=[it]) (λb t=>?_) (λb o _ _ a e _=>k b o (λz=>a (by simp [z])) e) (λb o _ _ a e _=>⟨o.slots,k b o (λz=>a (by simp [z])) e⟩) (λ_ _ _ _ n=>n)
  (λb o a e=>⟨o,k b o (λz=>a (by simp [z])) e⟩) (λ_ _ e=>e) (λ_ _ _ e=>e) (λb ps e=>⟨#[],by rw[e];simp⟩) (λm i=>?_) (λb u e=>?_) I.bare
 .have e:b=it:=by simpa using t
  subst e;exact⟨g,f,w,l⟩
 .obtain⟨o,y,ep,h,r⟩:=i;exact⟨o,y,ep,k _ o (a6 f) h,r⟩
 refine (I.hok b u e).stay (λc v a q=>k c v ?_ q) (λ_ q=>q) λ_ _ q=>q;rcases a with z | z
 .rw[z];exact d b u e
 exact d c _ z
theorem Inv.tok (I:Inv X pins σ H s) (t:Nat):Inv X pins σ H { s with toks:=t}:=I.un (h':=s.heap) (t':=t) Un.refl I.hok
theorem Inv.kept (I:Inv X pins σ H s) (k:∀b u,s.heap.get? b=ab u->h'.get? b=ab u):Inv X pins σ H { s with heap:=h',toks:=t'}:=I.un (Un.kept k) (I.hok.kept k)
theorem Inv.laid {a:am} (I:Inv X pins σ H s) (k:∀b u,s.heap.get? b=ab u->h'.get? b=ab u) (c:s.heap.objs.size<=a) (d:xr X.prog X.w (upd H a o) h' a o):
  Inv X pins σ (upd H a o) { s with heap:=h',toks:=t'}:=I.un (Un.laid k c (I.hok.fresh c)) (I.hok.laid k c d)
theorem Inv.write (I:Inv X pins σ H s) (mu:Mut (H x)) (d:e=x\/H e=ab (.own x)) (k:∀b u,b≠e->s.heap.get? b=ab u->h'.get? b=ab u) (a:∃u,h'.get? e=ab u) (c:xr X.prog X.w (upd H x o) h' x o):Inv X pins σ (upd H x o) { s with heap:=h',toks:=t'}:=I.un (Un.write mu d k a) (I.hok.write mu d k a c)
theorem Inv.pins_of (I:Inv X pins σ H s) (h:∀p∈pins',s.heap.get? p.1=ab p.2/\H p.1=ae/\p.1≠X.env.locals/\p.1∉X.fs/\∀v,p.2.data≠.cell v):Inv X pins' σ H s :=
 ⟨I.ok,I.os,I.bare,I.base,I.loc,I.cell,I.free,I.freeC,λp a=>(t_.mp a).elim (λz=>I.pin p (Zq _ z)) (h p),I.hok,I.len⟩
theorem tZ {N:List ai} (d:N.Nodup) {i j:Nat} (a:N[i]?=ab x) (b:N[j]?=ab x):i=j:=by
 obtain⟨f,e⟩:=Z2.mp a;obtain⟨g,c⟩:=Z2.mp b;exact (List.getElem_inj d).mp (e.trans c.symm)
theorem pZ (I:Inv X pins σ H s) (hN:X.N.Nodup) (P:X.N[i]?=ab x) (B:Loc X.env.scope x) (r:RelV v u) (h:∀s',Inv X pins (σ.set i (ab v)) H s'->(∃a,eh a s.heap s'.heap/\(a=X.env.locals\/X.env.cells.lookup x=ab a))->Q () s') (hf:X.fn x=ag\/X.env.scope.names.lookup x=ab .local:=by first | exact .inl rfl | exact .inr rfl | assumption):aE M A (storeName X.env x u) Q E s:=by
 obtain⟨m,hn,hl⟩:=id I.loc;have U:(X.env.scope.kind==.class||(X.env.scope.kind==.module&&X.env.locals != X.env.globals))=ah:=by rw[I.ok.kind];rfl
 have F:i<σ.length:=by rw[I.len];exact (Z2.mp P).1
 have L:=I.cne;have l:∀{a:am} {h':cv},(∃o,s.heap.get? a=ab o/\H a=ae)->eh a s.heap h'->HOk X.prog X.w H h':=λ{a h'} ha f b ob e=>by
  obtain⟨_,_,C⟩:=ha;refine (I.hok b ob e).stay (λc w' t q=>(f.2 c ?_).trans q) (λ_ q=>q) λ_ _ q=>q;rintro rfl;rcases t with rfl | t
  .rw[C] at e;cases e
  rw[C] at t;cases t
 rcases B with G | G
 .refine wpAny_storeName_local G hn (λh' hn' f=>?_) U;obtain⟨oL,_,_,hoL,_⟩:=id hn;refine h _ ⟨I.ok,I.os,I.bare,⟨λb o e n K B=>?_,λb o e n K B=>?_,I.base.free,λb o e B=>?_,I.base.tups,I.base.frzs,I.base.tbls⟩,⟨_,hn',λj y v' g D e3=>?_⟩,λy c e=>?_,I.free,I.freeC,λp hp=>?_,l ⟨oL,hoL,I.free⟩ f,by simpa using I.len⟩ ⟨_,f,.inl rfl⟩
  .exact (f.2 b (Zk (V_ (L_ e) I.ok.above))).trans (I.base.keep b o e n K B)
  .obtain⟨sl,g⟩:=I.base.slot b o e n K B;exact⟨sl,(f.2 b (Zk (V_ (L_ e) I.ok.above))).trans g⟩
  .obtain⟨o',g⟩:=I.base.there b o e B;exact⟨o',(f.2 b (Zk (V_ (L_ e) I.ok.above))).trans g⟩
  .by_cases J:j=i
   .subst J;rw[P] at g;cases g;rw[abg F] at D;cases D;exact⟨u,r,.inl ⟨G,adE⟩⟩
   rw[abB (a6 J)] at D;obtain⟨u',r',q⟩:=hl j y v' g D e3;refine⟨u',r',?_⟩;rcases q with ⟨k,e⟩ | ⟨k,c,e,z⟩
   .refine .inl ⟨k,?_⟩;have:y≠x:=λe=>J (tZ hN g (e▸P));simp [this,e]
   exact .inr ⟨k,c,e,z.sameBut f (L y c e)⟩
  .obtain⟨w',z⟩:=I.cell y c e;exact⟨w',z.sameBut f (L y c e)⟩
  obtain⟨e,n,Z,nf,d⟩:=I.pin p hp;exact⟨(f.2 p.1 Z).trans e,n,Z,nf,d⟩
 have O:X.fn x=ag:=by
  rcases hf with z | z
  .exact z
  rw[z] at G;cases G
 obtain⟨c,t⟩:=I.ok.has x (.inl G);obtain⟨w',z⟩:=I.cell x c t;refine wpAny_storeName_cell I.ok.kind G t z (λh' T f=>?_);obtain⟨oc,W,S⟩:=id z;refine h { s with heap:=h'} ⟨I.ok,I.os,I.bare,⟨λb o e n K B=>?_,λb o e n K B=>?_,I.base.free,λb o e B=>?_,I.base.tups,I.base.frzs,I.base.tbls⟩,⟨m,hn.sameBut f (a6 (L x c t)),λj y v' g D e3=>?_⟩,λy Y e=>?_,I.free,I.freeC,λp hp=>?_,l ⟨oc,W,I.freeC x c t⟩ f,by simpa using I.len⟩ ⟨c,f,.inr t⟩
 .exact (f.2 b (Zk (V_ (L_ e) (I.ok.cab x c O t)))).trans (I.base.keep b o e n K B)
 .obtain⟨sl,g⟩:=I.base.slot b o e n K B;exact⟨sl,(f.2 b (Zk (V_ (L_ e) (I.ok.cab x c O t)))).trans g⟩
 .obtain⟨o',g⟩:=I.base.there b o e B;exact⟨o',(f.2 b (Zk (V_ (L_ e) (I.ok.cab x c O t)))).trans g⟩
 .by_cases J:j=i
  .subst J;rw[P] at g;cases g;rw[abg F] at D;cases D;exact⟨u,r,.inr ⟨.inl G,c,t,T⟩⟩
  rw[abB (a6 J)] at D;obtain⟨u',r',q⟩:=hl j y v' g D e3;refine⟨u',r',?_⟩;rcases q with q | ⟨k,Y,e,z'⟩
  .exact .inl q
  refine .inr ⟨k,Y,e,z'.sameBut f ?_⟩;rintro rfl;exact J (tZ hN g (I.ok.inj _ _ _ e t▸P))
 .by_cases R:Y=c
  .subst R;exact⟨_,T⟩
  obtain⟨w2,z2⟩:=I.cell y Y e;exact⟨w2,z2.sameBut f R⟩
 obtain⟨e,n,Z,nf,d⟩:=I.pin p hp;refine⟨(f.2 p.1 ?_).trans e,n,Z,nf,d⟩;intro q;rw[q,W] at e;have q':oc=p.2:=Zg e;exact d w' (by rw[<- q'];exact S)
theorem t7 (I:Inv X pins σ H s) (d:X.N.Nodup) (b:X.N[i]?=ab x) (c:Loc X.env.scope x) (r:RelV v u) (h:∀s',Inv X pins (σ.set i (ab v)) H s'->Q () s') (a:X.fn x=ag\/X.env.scope.names.lookup x=ab .local:=by first | exact .inl rfl | exact .inr rfl | assumption):aE M A (storeName X.env x u) Q E s :=
 pZ I d b c r (λs' e _=>h s' e) a
theorem Inv.call' (I:Inv X pins σ H s) (f:s'.os=s.os) (u:Un (frs X.stack) ch H H' s.heap s'.heap) (a:HOk X.prog X.w H' s'.heap) (g:ij s'.gens) (d:∀b∈ch,(b∈X.ex\/X.s₀.heap.objs.size<=b)/\b≠X.env.locals/\(∀x c,X.env.cells.lookup x=ab c->c≠b)/\∀p∈X.pn++pins,p.1≠b):Inv X pins σ H' s':=by
 obtain⟨h',g',d',t',h⟩:=s';have e:h=s.os:=f;subst e;exact I.call (g':=g') (t':=t') (d':=d') u a g d
end
abbrev XK:=av->Option am->Hp->Prop
abbrev St:=List (Option V)
abbrev VK:=V->Hp->Prop
abbrev TE:=St->Hp->VK->Prop
abbrev TT:=St->Hp->(Bool->Hp->Prop)->Prop
abbrev TA:=St->Hp->(List V->Hp->Prop)->Prop
structure Ends where
 nx:St->Hp->Prop
 rt:VK
 bk:St->Hp->Prop:=λ_ _=>False
 ct:St->Hp->Prop:=λ_ _=>False
abbrev TS:=Ends->St->Hp->Prop
def EP (X:Cx) (a:List (am × dL)) (b:St) (Q:VK) (u:av) (s':aI):Prop:=∃v H',Inv X a b H' s'/\RelV v u/\Q v H'
def TP (X:Cx) (a:List (am × dL)) (c:St) (Q:Bool->Hp->Prop) (b:Bool) (s':aI):Prop:=∃H',Inv X a c H' s'/\Q b H'
def AP (X:Cx) (a:List (am × dL)) (b:St) (Q:List V->Hp->Prop) (us:List av) (s':aI):Prop:=∃vs H',Inv X a b H' s'/\Vals vs us/\Q vs H'
def SP (X:Cx) (b:List (am × dL)) (D:Ends) (f:Flow) (s':aI):Prop :=
 match f with
 |.next=>∃a H',Inv X b a H' s'/\D.nx a H'
 |.brk=>∃a H',Inv X b a H' s'/\D.bk a H'
 |.cont=>∃a H',Inv X b a H' s'/\D.ct a H'
 |.ret u=>∃v a H',Inv X b a H' s'/\RelV v u/\D.rt v H'
def PE (X:Cx) (e:Expr) (t:TE):Prop :=
 ∀(a:List (am × dL)) (s:aI) (b:St) (H:Hp) (Q:VK),Inv X a b H s->t b H Q->aE (ay X.prog X.w) X.A (br e X.env) (EP X a b Q) X.xe s
def PT (X:Cx) (e:Expr) (t:TT):Prop :=
 ∀(a:List (am × dL)) (s:aI) (b:St) (H:Hp) (Q:Bool->Hp->Prop),Inv X a b H s->t b H Q->aE (ay X.prog X.w) X.A (isTrue e X.env (br e X.env)) (TP X a b Q) X.xe s
def PW (X:Cx) (e:Expr) (t:TT):Prop :=
 ∀(b:k0 av) (a:List (am × dL)) (s:aI) (c:St) (H:Hp) (Q:Bool->Hp->Prop),Inv X a c H s->t c H Q->aE (ay X.prog X.w) X.A (isTrue e X.env b) (TP X a c Q) X.xe s
theorem PW.pt (h:PW X e t):PT X e t:=h _
def PA (X:Cx) (d:List Expr) (t:TA):Prop :=
 ∀(b:ka) (a:List (am × dL)) (s:aI) (c:St) (H:Hp) (Q:List V->Hp->Prop),Inv X a c H s->t c H Q->aE (ay X.prog X.w) X.A (hO (bt b (ax d X.env))) (AP X a c Q) X.xe s
def PS (X:Cx) (st:eD) (t:TS):Prop :=
 ∀(a:List (am × dL)) (s:aI) (b:St) (H:Hp) (D:Ends),Inv X a b H s->t D b H->aE (ay X.prog X.w) X.A (exec st X.env) (SP X a D) X.xe s
def PSs (X:Cx) (st:List eD) (t:TS):Prop :=
 ∀(a:List (am × dL)) (s:aI) (b:St) (H:Hp) (D:Ends),Inv X a b H s->t D b H->aE (ay X.prog X.w) X.A (execs st X.env) (SP X a D) X.xe s
theorem My {t:k0 c}{Q b:c->aI->Prop} (h:aE M A t Q E s) (d:∀a s,Q a s->b a s):aE M A t b E s:=aad h d λ_ _ x=>x
section
variable {X:Cx}
def Uk (i:Nat):TE:=λa H Q=>∃v,a[i]?=ab (ab v)/\Q v H
def tC (v:V):TE:=λ_ H Q=>Q v H
theorem Ph {k:ka} (w:X.N[i]?=ab x) (q:Vis X.env.scope x) (j:(x==("__debug__":ai))=ah:=by decide) (g:(x==("__classdict__":ai))=ah:=by decide):PE X (.Name x k) (Uk i):=by
 intro f s o H Q I h;obtain⟨v,e,h⟩:=h;obtain⟨m,t,y⟩:=I.loc;obtain⟨u,r,l⟩:=y i x v w e q;have b:EP X f o Q u s:=⟨v,H,I,r,h⟩;rcases l with ⟨d,p⟩ | ⟨d,c,n,a⟩
 .exact rd (wpAny_loadName_local I.ok.kind d t p b) j
 rcases d with d | d
 .exact rd (wpAny_loadName_cell I.ok.kind d n a b) j
 exact rd (wpAny_loadName_free I.ok.kind d n a b g) j
theorem Pj:PE X (.Constant (.int i) j pos) (tC (.int i)):=λ_ _ _ H _ I h=>wpAny_Constant_int ⟨.int i,H,I.tok _,⟨_,rfl⟩,h⟩
theorem Ul:PE X (.Constant (.bool b) j pos) (tC (.bl b)):=λ_ _ _ H _ I h=>Constant_bool ⟨.bl b,H,I,rfl,h⟩
theorem Pk:PE X (.Constant .none j pos) (tC .non):=λ_ _ _ H _ I h=>Constant_none ⟨.non,H,I,rfl,h⟩
theorem Pn:PE X (.Constant (.str x) j pos) (tC (.str x)):=λ_ _ _ H _ I h=>Calls.Constant_str ⟨.str x,H,I.tok _,⟨_,rfl⟩,h⟩
def Gl (X:Cx) (x:ai):Prop:=X.env.kindOf x=ab .globalImplicit
theorem yF {f:St} (I:Inv X a f H s) (d:Gl X x) (e:X.mg x=ab u) (h:Q u s) (c:(x==("__debug__":ai))=ah:=by decide):aE (ay X.prog X.w) X.A (br (.Name x b) X.env) Q E s :=
 gL I.ok.kind d (Calls.loadGlobal_global (by rw[I.ok.glob];exact I.mod.glob.keeps I.bk) e h) c
theorem eQ {E:av->aI->Prop}{k:St}{b:ka} (I:Inv X a k H s) (e:Gl X x) (g:X.mg x=ae) (f:bb x=ab u) (h:Q u s) (i:x≠"__name__":=by decide) (c:(x==("__debug__":ai))=ah:=by decide):aE (ay X.prog X.w) X.A (br (.Name x b) X.env) Q E s:=by
 obtain⟨l,d,j⟩:=I.mod.blt;exact gL I.ok.kind e (Calls.loadGlobal_builtin (by rw[I.ok.glob];exact I.mod.glob.keeps I.bk) g (by rw[I.ok.blt];exact d.keeps I.bk) ((j x i).trans f) h) c
theorem HW {a:ka} (c:Gl X x) (d:X.mg x=ae) (f:bb x=ab u) (r:RelV v u) (e:x≠"__name__":=by decide) (b:(x==("__debug__":ai))=ah:=by decide):PE X (.Name x a) (tC v) :=
 λ_ _ _ H _ I h=>eQ I c d f ⟨v,H,I,r,h⟩ e b
variable {ta tb:TE}
def PC (X:Cx) (g:vS) (a b:Expr) (t:TE):Prop :=
 ∀(c:List (am × dL)) (s:aI) (f:St) (H:Hp) (Q:VK),Inv X c f H s->t f H Q ->
  aE (ay X.prog X.w) X.A (br a X.env) (λv e=>aE (ay X.prog X.w) X.A (br b X.env) (λu d=>aE (ay X.prog X.w) X.A (be g v u) (EP X c f Q) X.xe d) X.xe e) X.xe s
theorem CJ (b:Expr) {a:vS}(h:a≠.In) (d:a≠.NotIn):ca a b=ah:=by
 have e:(a==CmpOp.In)=ah:=by cases a <;> first | rfl | exact ach rfl h
 have c:(a==CmpOp.NotIn)=ah:=by cases a <;> first | rfl | exact ach rfl d
 cases b <;> simp [ca,e,c]
def tB (t:TE):TT:=λb H Q=>t b H λx a=>∃c,x=.bl c/\Q c a
theorem wD (h:PC X g a b t) (f:ca g b=ah:=by first | exact CJ _ adD adD | rfl):PT X (.Compare a [g] [b] pos) (tB t):=by
 intro e s o H Q I k;refine kx (My (h e s o H _ I k) λv w f=>My f λu r l=>My l λc p ⟨x,n,i,m,j⟩=>?_) f;obtain⟨d,rfl,q⟩:=j;cases m;exact aaU ⟨n,i,q⟩
theorem Pq (h:PE X e t) (g:∀whole,isTrue e X.env whole=(do let v <- whole;ny e.pos;fg [v] (truthy v)):=by intro _;rfl):PT X e (tB t):=by
 intro a s c H Q I i;refine isTrue_plain (My (h a s c H _ I i) λv l ⟨x,k,b,j,f⟩=>?_) (g _);obtain⟨d,rfl,q⟩:=f;cases j;exact aaU ⟨k,b,q⟩
variable {rest:List Expr}
def Yd (t u:TT):TT:=λb H Q=>t b H λc a=>if c=ag then u b a Q else Q ah a
def tOr (t u:TT):TT:=λb H Q=>t b H λc a=>if c=ag then Q ag a else u b a Q
def Ye (t:TT):TT:=λb H Q=>t b H λc a=>Q (!c) a
theorem HX (d:PT X a tA):PW X (.BoolOp .And [a] pos) tA:=by
 intro i b s f H Q I h;refine isTrue_and (My (d b s f H Q I h) λc g e=>?_);cases c with
 |true=>exact isTrue_and_nil e
 |false=>exact e
theorem Pr (d:PT X a tA):PW X (.BoolOp .Or [a] pos) tA:=by
 intro i b s f H Q I h;refine isTrue_or (My (d b s f H Q I h) λc g e=>?_);cases c with
 |false=>exact isTrue_or_nil e
 |true=>exact e
theorem Pu (j:PT X a tA) (k:PW X (.BoolOp .And (b::rest) pos) tB'):PW X (.BoolOp .And (a::b::rest) pos) (Yd tA tB'):=by
 intro l d s f H Q I h;refine isTrue_and (My (j d s f H _ I h) λc m ⟨i,e,g⟩=>?_);cases c with
 |true=>exact k l d m f i Q e g
 |false=>exact⟨i,e,g⟩
theorem Um (j:PT X a tA) (k:PW X (.BoolOp .Or (b::rest) pos) tB'):PW X (.BoolOp .Or (a::b::rest) pos) (tOr tA tB'):=by
 intro l d s f H Q I h;refine isTrue_or (My (j d s f H _ I h) λc m ⟨i,e,g⟩=>?_);cases c with
 |true=>exact⟨i,e,g⟩
 |false=>exact k l d m f i Q e g
theorem Px (e:PT X a tA):PT X (.UnaryOp .Not a pos) (Ye tA):=by
 intro b s f H Q I h;exact isTrue_not (e b s f H (λc d=>Q (!c) d) I h)
def Uo (d e:TE):TE:=λb H Q=>d b H λx a=>∃c,x=.bl c/\if c=ag then e b a Q else Q (.bl ah) a
def Yg (d e:TE):TE:=λb H Q=>d b H λx a=>∃c,x=.bl c/\if c=ag then Q (.bl ag) a else e b a Q
theorem Py (h:PE X a t):PE X (.BoolOp op [a] pos) t:=λb s d H Q I c=>BoolOp_one (h b s d H Q I c)
theorem Pz (j:PE X a ta) (l:PE X (.BoolOp .And (b::rest) pos) tb):PE X (.BoolOp .And (a::b::rest) pos) (Uo ta tb):=by
 intro d s g H Q I h;refine BoolOp_and (My (j d s g H _ I h) λv m ⟨x,i,f,k,e⟩=>?_);obtain⟨c,rfl,e⟩:=e;cases k;refine aaU ?_;cases c with
 |true=>exact l d m g i Q f e
 |false=>exact⟨.bl ah,i,f,rfl,e⟩
theorem Uq (j:PE X a ta) (l:PE X (.BoolOp .Or (b::rest) pos) tb):PE X (.BoolOp .Or (a::b::rest) pos) (Yg ta tb):=by
 intro d s g H Q I h;refine BoolOp_or (My (j d s g H _ I h) λv m ⟨x,i,f,k,e⟩=>?_);obtain⟨c,rfl,e⟩:=e;cases k;refine aaU ?_;cases c with
 |false=>exact l d m g i Q f e
 |true=>exact⟨.bl ag,i,f,rfl,e⟩
end
def SqL (K:a8) (H:Hp) (a:am) (xs:List V):Prop :=
 Rd H a (.lst xs) \/
  ∃(o:dL) (b:Array av) (n:Nat),K.lookup a=ab o/\o.cls=.type "list"/\o.dict=ae/\o.data=.seq b n/\b.size<=ap/\Vals xs b.toList
def SqT (K:a8) (H:Hp) (a:am) (xs:List V):Prop :=
 Rd H a (.tup xs) \/
  ∃(o:dL) (b:Array av) (n:Nat),K.lookup a=ab o/\o.cls=.type "tuple"/\o.dict=ae/\o.data=.seq b n/\b.size<=ap/\Vals xs b.toList
def Yh:av->Option V
 |.none=>ab .non
 |.bool b=>ab (.bl b)
 |.int i _=>ab (.int i)
 |.str x _=>ab (.str x)
 |.bytes b _=>ab (.byt b)
 |.float b _=>ab (.flt b)
 |.ref a=>ab (.ref a)
 |.type n=>ab (.ty n)
 |_=>ae
theorem RelV.abs (r:RelV x u):Yh u=ab x:=by
 cases x with
 |non=>cases r;rfl
 |bl _=>cases r;rfl
 |int _=>obtain⟨t,rfl⟩:=r;rfl
 |str _=>obtain⟨t,rfl⟩:=r;rfl
 |byt _=>obtain⟨t,rfl⟩:=r;rfl
 |flt _=>obtain⟨t,rfl⟩:=r;rfl
 |ref _=>cases r;rfl
 |ty _=>cases r;rfl
theorem RelV.inj (r:RelV x u) (q:RelV y u):x=y:=Zg (r.abs.symm.trans q.abs)
theorem Vals.inj (h:Vals xs us) (h':Vals a us):xs=a:=by
 induction h generalizing a with
 |nil=>cases h';rfl
 |cons r t b =>
 cases h' with
 |cons c t'=>rw[r.inj c,b t']
section
variable {X:Cx}{pins:List (am × dL)}{σ:St}
theorem SqL.of {K:a8}(h:H a=ab (.lst xs)):SqL K H a xs:=.inl (.inl h)
theorem SqT.of {K:a8}(h:H a=ab (.tup xs)):SqT K H a xs:=.inl (.inl h)
theorem Inv.list (I:Inv X pins σ H s) (h:SqL X.K H a xs):∃b:List av,Vals xs b/\PlainL s.heap a b.toArray/\xs.length<=ap:=by
 rcases h with h | ⟨o,b,n,g,f,c,d,hz,r⟩
 .obtain⟨z,b,n,r,e⟩:=h.ok I.hok;exact⟨b,r,⟨_,n,e,rfl,rfl,rfl⟩,z⟩
 refine⟨b.toList,r,⟨o,n,I.kIn a o g,f,c,by simpa using d⟩,?_⟩;have e:=r.length;simp only[K_] at e;omega
theorem Inv.tuple (I:Inv X pins σ H s) (h:SqT X.K H a xs):∃b:List av,Vals xs b/\vF s.heap a b.toArray/\xs.length<=ap:=by
 rcases h with h | ⟨o,b,n,f,d,_,c,hz,r⟩
 .obtain⟨z,b,r,p⟩:=h.ok I.hok;exact⟨b,r,p.is,z⟩
 refine⟨b.toList,r,⟨o,I.kIn a o f,d,n,by simpa using c⟩,?_⟩;have e:=r.length;simp only[K_] at e;omega
theorem Inv.list_inj (I:Inv X pins σ H s) (h:SqL X.K H a xs) (h':SqL X.K H a ys):xs=ys:=by
 obtain⟨b,r,⟨o,n,e,_,_,d⟩,_⟩:=I.list h;obtain⟨its',f,⟨i,g,c,_,_,d'⟩,_⟩:=I.list h';rw[e] at c;cases c;rw[d] at d';injection d' with d1 _;have:b=its':=by simpa using T_ Array.toList d1
 subst this;exact r.inj f
theorem Inv.tuple_inj (I:Inv X pins σ H s) (h:SqT X.K H a xs) (h':SqT X.K H a ys):xs=ys:=by
 obtain⟨b,r,⟨o,e,_,n,d⟩,_⟩:=I.tuple h;obtain⟨its',f,⟨i,c,_,g,d'⟩,_⟩:=I.tuple h';rw[e] at c;cases c;rw[d] at d';injection d' with d1 _;have:b=its':=by simpa using T_ Array.toList d1
 subst this;exact r.inj f
end
abbrev Cx.wish (X:Cx) (E:av->aI->Prop):Cx:={ X with xe:=E}
abbrev Cx.nox (X:Cx):Cx:=X.wish λ_ _=>False
theorem Cx.Ok.wish {X:Cx}(a:X.Ok) (E:av->aI->Prop):(X.wish E).Ok :=
 ⟨a.mod,a.kind,a.glob,a.blt,a.above,a.inj,a.has,a.cab,a.hd,a.frames,a.stk,a.exf,a.bs,a.bsz,a.noex,a.exfs,a.funs,a.frf⟩
theorem Cx.Ok.unwish {X:Cx} (a:(X.wish E).Ok):X.Ok :=
 ⟨a.mod,a.kind,a.glob,a.blt,a.above,a.inj,a.has,a.cab,a.hd,a.frames,a.stk,a.exf,a.bs,a.bsz,a.noex,a.exfs,a.funs,a.frf⟩
section
variable {X:Cx}{pins:List (am × dL)}{σ:St}
theorem Inv.wish (I:Inv X pins σ H s) (E:av->aI->Prop):Inv (X.wish E) pins σ H s:=⟨I.ok.wish E,I.os,I.bare,I.base,I.loc,I.cell,I.free,I.freeC,I.pin,I.hok,I.len⟩
theorem Inv.unwish (I:Inv (X.wish E) pins σ H s):Inv X pins σ H s:=⟨I.ok.unwish,I.os,I.bare,I.base,I.loc,I.cell,I.free,I.freeC,I.pin,I.hok,I.len⟩
theorem SP.unwish (h:SP (X.wish E) pins D f s'):SP X pins D f s':=by
 cases f with
 |next=>obtain⟨a,H',I,q⟩:=h;exact⟨a,H',I.unwish,q⟩
 |brk=>obtain⟨a,H',I,q⟩:=h;exact⟨a,H',I.unwish,q⟩
 |cont=>obtain⟨a,H',I,q⟩:=h;exact⟨a,H',I.unwish,q⟩
 |ret u=>obtain⟨v,a,H',I,r,q⟩:=h;exact⟨v,a,H',I.unwish,r,q⟩
theorem PSs.nox {st:List eD} (h:PSs X.nox st t):PSs X st t:=λa s c H D I b =>
 aad (h a s c H D (I.wish _) b) (λ_ _ q=>q.unwish) λ_ _ z=>cx z
variable {st:eD}{rest:List eD}
def Ur:TS:=λD a H=>D.nx a H
def Yi (t u:TS):TS:=λD a H=>t { D with nx:=u D} a H
theorem HY:PSs X [] Ur:=λ_ _ a H _ I h=>ft ⟨a,H,I,h⟩
theorem CK (h1:PS X st t) (e:PSs X rest u):PSs X (st::rest) (Yi t u):=by
 intro a s c H D I h;refine om (My (h1 a s c H { D with nx:=u D} I h) λf g q=>?_);cases f with
 |next=>obtain⟨b,H',d,q⟩:=q;exact e a g b H' D d q
 |ret v=>exact q
 |brk=>exact q
 |cont=>exact q
theorem Ia (b:PS X st t):PSs X [st] t:=by
 intro a s c H D I h;refine om (My (b a s c H D I h) λf d q=>?_);cases f with
 |next=>exact ft q
 |ret v=>exact q
 |brk=>exact q
 |cont=>exact q
theorem Inv.quiet {b:St} (I:Inv X a b H s):interactive X.env=ah:=by simp [interactive,I.ok.kind]
def Us (te:TE):TS:=λD a H=>te a H λ_ b=>D.nx a b
theorem Ib (f:PE X e te) (g:dt e ae pos.line X.env=a5 ah:=by rfl):PS X (.Expr e pos) (Us te):=by
 intro a s b H D I h;exact wpAny_Expr_any (My (f a s b H _ I h) λv k ⟨x,i,c,j,d⟩=>⟨b,i,c,d⟩) I.quiet g
def Yj (te:TE):TS:=λD a H=>te a H D.rt
theorem PB (f:PE X e te):PS X (.Return (ab e) pos) (Yj te):=by
 intro a s b H D I h;exact wpAny_Return_some (My (f a s b H _ I h) λv j ⟨x,i,c,g,d⟩=>⟨x,b,i,c,g,d⟩)
def Yk (c:TT) (t u:TS):TS:=λD a H=>c a H λb d=>if b=ag then t D a d else u D a d
theorem Ut (o:PT X c j) (m:PSs X a t) (n:PSs X b u):PS X (.If c a b pos) (Yk j t u):=by
 intro e s f H D I h;refine wpAny_If (My (o e s f H _ I h) λd l ⟨k,g,i⟩=>?_);cases d with
 |true=>exact m e l f k D g i
 |false=>exact n e l f k D g i
end
abbrev TG:=V->St->Hp->(St->Hp->Prop)->Prop
abbrev TGs:=List V->St->Hp->(St->Hp->Prop)->Prop
def PG (X:Cx) (a:Expr) (t:TG):Prop :=
 ∀(b:List (am × dL)) (s:aI) (d:St) (H:Hp) (v:V) (u:av) (Q:St->Hp->Prop),Inv X b d H s->RelV v u->t v d H Q ->
  aE (ay X.prog X.w) X.A (f_ a X.env u) (λ_ s'=>∃c H',Inv X b c H' s'/\Q c H') X.xe s
def PGs (X:Cx) (ts:List Expr) (t:TGs):Prop :=
 ∀(a:List (am × dL)) (s:aI) (c:St) (H:Hp) (vs:List V) (us:List av) (Q:St->Hp->Prop),Inv X a c H s->Vals vs us->t vs c H Q ->
  aE (ay X.prog X.w) X.A (assignInOrder ((c_ ts X.env).map (·.2)) us) (λ_ s'=>∃b H',Inv X a b H' s'/\Q b H') X.xe s
abbrev CN:=V->V->V->Hp->(Hp->Prop)->Prop
def adQ (X:Cx) (t:CN):Prop :=
 ∀(a:List (am × dL)) (s:aI) (b:St) (H:Hp) (o i v:V) (c d u:av) (Q:Hp->Prop),Inv X a b H s->RelV o c->RelV i d->RelV v u->t o i v H Q ->
  aE (ay X.prog X.w) X.A (tj c d u) (λ_ s'=>∃H',Inv X a b H' s'/\Q H') X.xe s
section
variable {pos:ka}
def Mw (i:Nat):TG:=λv a H Q=>Q (a.set i (ab v)) H
theorem Ie (e:X.N.Nodup) (c:X.N[i]?=ab x) (d:Loc X.env.scope x) (b:X.fn x=ag\/X.env.scope.names.lookup x=ab .local:=by first | exact .inl rfl | exact .inr rfl | assumption):PG X (.Name x pos) (Mw i):=by
 intro a s g H v u Q I r h;exact nw (t7 I e c d r (λs' f=>⟨_,H,f,h⟩) b)
def Yl:TGs:=λvs a H Q=>vs=[]/\Q a H
def Uu (t:TG) (u:TGs):TGs:=λvs b H Q=>∃v r,vs=v::r/\t v b H λa H'=>u r a H' Q
theorem Ig:PGs X [] Yl:=by
 intro a s b H vs us Q I r h;obtain⟨e,h⟩:=h;subst e;cases r;exact assignInOrder_nil ⟨b,H,I,h⟩
theorem CP (g:PG X e t) (k:PGs X b u) (m:(c_ (e::b) X.env).map (·.2)=f_ e X.env::(c_ b X.env).map (·.2):=by rfl):PGs X (e::b) (Uu t u):=by
 intro a s f H vs us Q I r h;obtain⟨v,p,o,h⟩:=h;subst o;cases r with
 |cons r j =>
 rw[m];refine assignInOrder_cons (My (g a s f H _ _ _ I r h) λ_ l ⟨c,n,d,i⟩=>?_);exact k a l c n _ _ Q d j i
def Ym (K:a8) (n:Nat) (t:TGs):TG:=λv b H Q=>∃a xs,v=.ref a/\SqT K H a xs/\xs.length=n/\t xs b H Q
theorem PJ {k:Nat} (z:X.calm=ag) (h:PGs X d t) (w:(c_ d X.env).length=n:=by rfl) (f:(c_ d X.env).findIdx? (·.1)=ae:=by rfl):PG X (.Tuple d k pos) (Ym X.K n t):=by
 intro c s i H v u Q I r g;obtain⟨a,xs,A,p,y,g⟩:=g;subst A;cases r;obtain⟨x,j,l,hz⟩:=I.tuple p;refine assign_Tuple_tuple (I.ok.hd z) l (by simp [w,<- y,j.length]) f λh' q=>?_;have m:Inv X c i H { s with heap:=h'}:=I.kept (t':=s.toks) λb o e=>q b o (Zk (L_ e)) e;exact h c _ i H xs _ Q m (by simpa using j) g
def Yn (b c:TE) (t:CN):TG:=λv a H Q=>b a H λo e=>c a e λi d=>t o i v d λH3=>Q a H3
theorem PK (A:PE X o e) (l:PE X i f) (D:adQ X t) (p:∀v,f_ (.Subscript o i pos) X.env v=(do
   let b <- fg [v] (br o X.env)
   let c <- fg [v,b] (br i X.env)
   ny pos
   fg [v,b,c] (tj b c v)
   release [v,b,c] []):=by intro _;rfl):PG X (.Subscript o i pos) (Yn e f t):=by
 intro a s d H v u Q I r h;rw[p];refine d_ (aau (My (A a s d H _ I h) λb w ⟨x,F,n,q,B⟩=>?_));refine d_ (aau (My (l a w d F _ n B) λc k ⟨y,z,C,g,E⟩=>?_));refine d_ (ma (d_ (aau (My (D a k d z x y v b c u _ C q g r E) λ_ G ⟨H3,m,j⟩=>?_))));exact wpAny_release ⟨d,H3,m,j⟩
def Uv (te:TE) (g:TG):TS:=λD a H=>te a H λx b=>g x a b D.nx
theorem PL (k:PE X e te) (i:PG X b g) (n:sq [b] e pos.line X.env=a5 ah:=by rfl) (l:sv [b] e X.env=a5 ae:=by rfl) (f:(c_ [b] X.env).map (·.2)=[f_ b X.env]:=by rfl):PS X (.Assign [b] e pos) (Uv te g):=by
 intro a s c H D I h;refine wpAny_Assign_stores (My (k a s c H _ I h) λv p ⟨x,o,d,m,j⟩=>?_) n l;rw[f];exact My (i a p c o x v _ d m j) λ_ r q=>q
theorem PN (l:X.N.Nodup) (j:X.N[i]?=ab x) (k:Loc X.env.scope x) (m:PE X e te) (p:dt e (ab (.Name x a)) pos.line X.env=a5 ah:=by rfl) (f:X.fn x=ag\/X.env.scope.names.lookup x=ab .local:=by first | exact .inl rfl | exact .inr rfl | assumption):
  PS X (.Assign [.Name x a] e pos) (Uv te (Mw i)):=by
 intro b s d H D I h;refine wpAny_Assign_Name (My (m b s d H _ I h) λv t ⟨y,q,c,n,g⟩=>?_) p;exact t7 c l j k n (λr o=>⟨_,q,o,g⟩) f
def PP (c:TT) (g:TS):TS:=λD a H=>∃W:Nat->St->Hp->Prop,(∃m,W m a H)/\∀m a H,W m a H ->
 c a H λb f=>if b=ag then ∃N:St->Hp->Prop,(∀d H',N d H'->∃e,e<m/\W e d H')/\g { D with nx:=N,ct:=N,bk:=D.nx} a f else D.nx a f
theorem CQ (t:oP (ay X.prog X.w) X.A X.env X.xe) (M:PT X c u) (P:PSs X g y):PS X (.While c g [] pos) (PP u y):=by
 intro a s K H D I h;obtain⟨W,⟨F,O⟩,j⟩:=h;refine wpAny_While (codeAny_whileLoop (λn s'=>∃i H',Inv X a i H' s'/\W n i H') ?_ F ⟨K,H,I,O⟩);rintro n J ⟨e,C,G,L⟩;refine aaR t (My (M a J e C _ G (j n e C L)) λb E ⟨x,B,k⟩=>?_);cases b with
 |true =>
  obtain⟨N,z,k⟩:=k;rw[aca rfl];refine aaR t (My (P a E e x _ B k) λf Q l=>?_);cases f with
  |next=>obtain⟨d,H3,m,o⟩:=l;obtain⟨r,p,q⟩:=z d H3 o;exact⟨r,p,d,H3,m,q⟩
  |cont=>obtain⟨d,H3,m,o⟩:=l;obtain⟨r,p,q⟩:=z d H3 o;exact⟨r,p,d,H3,m,q⟩
  |brk=>exact l
  |ret v=>exact l
 |false =>
 rw[ace B_];exact ft ⟨e,x,B,k⟩
end
structure It where
 go:Nat->Hp->Prop
 yld:Nat->Hp->V->Hp->Prop
 stop:Nat->Hp->Prop
def pC (X:Cx) (a:List (am × dL)) (H:Hp) (b:am):Prop :=
 H b=ae/\b≠X.env.locals/\b∉X.fs/\(b∈X.ex\/X.s₀.heap.objs.size<=b)/\(∀x c,X.env.cells.lookup x=ab c->c≠b)/\∀p∈X.pn++a,p.1≠b
theorem Inv.fpOk {h:St}{b:am} (I:Inv X a h H s) (d:s.heap.objs.size<=b) (g:H' b=ae):pC X a H' b:=by
 refine⟨g,kb (V_ I.lt d),I.nofs d,.inr (W_ I.sz d),λx c e z=>?_,λp f z=>?_⟩
 .obtain⟨v,q⟩:=I.cell x c e;exact ach (V_ q.lt (by rw[z];exact d)) (ZK _)
 exact ach (V_ (L_ (I.pin p f).1) (by rw[z];exact d)) (ZK _)
structure Turn (P:bE) (w:bS) (K:a8) (tg:Expr) (J:It) (fp:List am) (it:am) (tn:Nat->cv->Prop):Prop where
 mem:it∈fp
 obj:∀i h,tn i h->∀b∈fp,∃o,h.get? b=ab o/\∀v,o.data≠.cell v
 keep:∀i h h',tn i h->(∀b∈fp,∀o,h.get? b=ab o->h'.get? b=ab o)->tn i h'
 item:∀(X:Cx),X.prog=P->X.w=w->X.K=K->X.calm=ag->∀(i:Nat) (pins:List (am × dL)) (s:aI) (σ:St) (H:Hp) (E:av->aI->Prop),Inv X pins σ H s->(∀b∈fp,pC X pins H b)->tn i s.heap->J.go i H ->
  aE (ay P w) X.A (kK (.ref it)) (λr s1=>∃u,r=ab u /\
   aE (ay P w) X.A (fz tg (.ref it) u) (λ_ s2=>∃x H',Inv X pins σ H' s2/\RelV x u/\J.yld i H x H'/\tn (i+1) s2.heap/\∀b∈fp,H' b=ae) E s1) E s
 done:∀(X:Cx),X.prog=P->X.w=w->X.K=K->X.calm=ag->∀(i:Nat) (pins:List (am × dL)) (s:aI) (σ:St) (H:Hp) (E:av->aI->Prop),Inv X pins σ H s->(∀b∈fp,pC X pins H b)->tn i s.heap->J.stop i H ->
  aE (ay P w) X.A (kK (.ref it)) (λr s1=>r=ae/\Inv X pins σ H s1) E s
 self:∀(A:eB) (i:Nat) (s:aI) (Q:av->aI->Prop) (E:av->aI->Prop),tn i s.heap->Q (.ref it) s->aE (ay P w) A (tm (.ref it)) Q E s
abbrev TI:=St->Hp->(It->Hp->Prop)->Prop
def PIE (X:Cx) (a:List (am × dL)) (h:St) (g:Expr) (R:It->Hp->Prop) (c:av) (d:aI):Prop :=
 ∃(it:am) (e:List am) (f:Nat->cv->Prop) (J:It) (H':Hp),c=.ref it/\Inv X a h H' d/\Turn X.prog X.w X.K g J e it f/\f 0 d.heap/\(∀b∈e,pC X a H' b)/\R J H'
def PI (X:Cx) (d b:Expr) (f:TI):Prop :=
 ∀(a:List (am × dL)) (s:aI) (c:St) (H:Hp) (R:It->Hp->Prop),Inv X a c H s->f c H R ->
  aE (ay X.prog X.w) X.A (br b X.env) (λv e=>aE (ay X.prog X.w) X.A (tm v) (PIE X a c d R) X.xe e) X.xe s
theorem yG (d:s.heap.get? it=ab o) (f:o.cls=.type n) (c:o.data=.fields vs) (e:["enumerate","zip","dict_itemiterator","dict_reverseitemiterator","odict_iterator","itertools.zip_longest","itertools.pairwise"].contains n=ah) (a:Q () s):aE M A (fz b (.ref it) u) Q E s:=by
 unfold fz;cases b <;> first
  |exact o_ a
  | (cases u <;> first
    |exact o_ a
    | (refine d_ (ra d ?_)
       rw[f,c]
       show aE M A (if (["enumerate","zip","dict_itemiterator","dict_reverseitemiterator","odict_iterator","itertools.zip_longest","itertools.pairwise"].contains n&&vs[0]?==ab (eM _))=ag then _ else _) Q E s
       rw[ace (by intro h;rw[e,gT] at h;cases h)]
       exact o_ a))
def Itl (K:a8) (a:am):It :=
 ⟨λi H=>∃xs x,SqL K H a xs/\xs[i]?=ab x,λi H x H'=>H'=H/\∀xs,SqL K H a xs->xs[i]?=ab x,λi H=>∃xs,SqL K H a xs/\xs.length<=i⟩
def Itt (K:a8) (a:am):It :=
 ⟨λi H=>∃xs x,SqT K H a xs/\xs[i]?=ab x,λi H x H'=>H'=H/\∀xs,SqT K H a xs->xs[i]?=ab x,λi H=>∃xs,SqT K H a xs/\xs.length<=i⟩
def Itr (a:Int) (n:Nat):It:=⟨λi _=>i<n,λi H x H'=>H'=H/\x=.int (a+i),λi _=>n<=i⟩
theorem Ba {K:a8} (a it:am):Turn P w K O (Itl K a) [it] it (λi h=>h.IsListIter it a i) where
 mem:=by simp
 obj:=λi h st b g=>by
  have e:b=it:=by simpa using g
  subst e
  obtain⟨o,e,c,d⟩:=st
  exact⟨o,e,λv z=>by rw[d] at z;cases z⟩
 keep:=λi h h' st k=>st.at λo e=>k it adE o e
 item:=by
  intro X F r n M i f s L H E I m st B
  subst F r n
  obtain⟨xs,x,l,G⟩:=B
  obtain⟨J,y,p,hz⟩:=I.list l
  obtain⟨u,N,S⟩:=y.get G
  obtain⟨D,t,U,q,A,C⟩:=m it adE
  refine wpAny_pyNext_list_item st p.isList (x:=u) (by simpa using N) λh' j sb=>?_
  have Q:Inv X f L H { s with heap:=h'}:=I.turned (t':=s.toks) (λb o g e=>(sb.2 b g).trans e) D t q A C
  obtain⟨o,e,c,d⟩:=id j
  exact⟨u,rfl,yG (s:={ s with heap:=h'}) e c d adD ⟨x,H,Q,S,⟨rfl,λW R=>by rw[I.list_inj R l];exact G⟩,j,λb g=>(m b g).1⟩⟩
 done:=by
  intro X F r n M i f s L H E I m st B
  subst F r n
  obtain⟨xs,l,G⟩:=B
  obtain⟨J,y,p,hz⟩:=I.list l
  obtain⟨D,t,U,q,A,C⟩:=m it adE
  have V:=y.length
  exact wpAny_pyNext_list_end (I.ok.hd M) st p.isList (by simp;omega) λh' T=>⟨rfl,I.turned (t':=s.toks) (λb o g e=>T b o g e) D t q A C⟩
 self:=λ_ _ _ _ _ st h=>wpAny_pyIter_listiter st h
theorem wF {K:a8} (a it:am):Turn P w K O (Itt K a) [it] it (λi h=>h.IsTupleIter it a i) where
 mem:=by simp
 obj:=λi h st b j=>by
  have e:b=it:=by simpa using j
  subst e
  obtain⟨o,e,c,d⟩:=st
  exact⟨o,e,λv z=>by rw[d] at z;cases z⟩
 keep:=λi h h' st k=>st.at λo e=>k it adE o e
 item:=by
  intro X G t q M i f s L H E I n st C
  subst G t q
  obtain⟨xs,x,m,J⟩:=C
  obtain⟨g,A,p,hz⟩:=I.tuple m
  obtain⟨u,N,S⟩:=A.get J
  obtain⟨F,y,U,r,B,D⟩:=n it adE
  refine wpAny_pyNext_tuple_item st (show s.heap.IsTuple a g.toArray from p) (x:=u) (by simpa using N) λh' l sb=>?_
  have Q:Inv X f L H { s with heap:=h'}:=I.turned (t':=s.toks) (λb o j e=>(sb.2 b j).trans e) F y r B D
  obtain⟨o,e,c,d⟩:=id l
  exact⟨u,rfl,yG (s:={ s with heap:=h'}) e c d adD ⟨x,H,Q,S,⟨rfl,λW R=>by rw[I.tuple_inj R m];exact J⟩,l,λb j=>(n b j).1⟩⟩
 done:=by
  intro X G t q M i f s L H E I n st C
  subst G t q
  obtain⟨xs,m,J⟩:=C
  obtain⟨g,A,p,hz⟩:=I.tuple m
  obtain⟨F,y,U,r,B,D⟩:=n it adE
  have V:=A.length
  exact wpAny_pyNext_tuple_end (I.ok.hd M) st (show s.heap.IsTuple a g.toArray from p) (by simp;omega) λh' T=>⟨rfl,I.turned (t':=s.toks) (λb o j e=>T b o j e) F y r B D⟩
 self:=λ_ _ _ _ _ st h=>wpAny_pyIter_tupleiter st h
theorem wG {K:a8} (it:am) (f:Int) (n:Nat):Turn P w K D (Itr f n) [it] it (λi h=>IsRangeIter h it (f+(i:Nat)*1) ((n:Int) - (i:Nat)) 1) where
 mem:=by simp
 obj:=λi h st b c=>by
  have e:b=it:=by simpa using c
  subst e
  exact⟨_,st,λv z=>by
   have C:Data.fields _=Data.cell v:=z
   cases C⟩
 keep:=λi h h' st k=>k it adE _ st
 item:=by
  intro X y m j A i a s B H E I g st r
  subst y m j
  obtain⟨x,p,M,l,q,u⟩:=g it adE
  have W:=Walks.range (prog:=X.prog) (w:=X.w) (I.ok.hd A) it f 1 n
  refine W.item i s _ _ r st λv h' tk J d G=>?_
  obtain⟨t,rfl⟩:=J
  have F:Inv X a B H { s with heap:=h',toks:=tk}:=I.turned (λb o c e=>G b o (by simpa using c) e) x p l q u
  refine⟨_,rfl,yG (s:={ s with heap:=h',toks:=tk}) (n:="range_iterator") d rfl rfl adD ⟨.int (f+i),H,F,⟨t,?_⟩,⟨rfl,rfl⟩,d,λb c=>(g b c).1⟩⟩
  rw[Int.mul_one]
 done:=by
  intro X y m j A i a s B H E I g st r
  subst y m j
  obtain⟨x,p,M,l,q,u⟩:=g it adE
  exact wpAny_pyNext_range_end (I.ok.hd A) st (by have:n<=i:=r;omega) λh' L=>⟨rfl,I.turned (t':=s.toks) (λb o c e=>L b o c e) x p l q u⟩
 self:=λ_ _ _ _ _ st h=>wpAny_pyIter_rangeiter st h
section
variable {X:Cx}{tg:Expr}
def Uw (K:a8) (d:TE):TI:=λc H R=>d c H λx b=>∃a,x=.ref a/\(∃xs,SqL K b a xs)/\R (Itl K a) b
def Yo (K:a8) (d:TE):TI:=λc H R=>d c H λx b=>∃a,x=.ref a/\(∃xs,SqT K b a xs)/\R (Itt K a) b
theorem Ih (n:PE X l g):PI X tg l (Uw X.K g):=by
 intro c s i H R I h;refine My (n c s i H _ I h) λv f ⟨x,u,d,r,k⟩=>?_;obtain⟨a,e,⟨xs,j⟩,q⟩:=k;subst e;cases r;obtain⟨m,w,p,hz⟩:=d.list j;refine hH p.isList ?_;refine⟨f.heap.objs.size,[f.heap.objs.size],_,_,u,rfl,d.kept (t':=f.toks) λb o e=>h_ _ e,Ba a _,⟨_,G_ _ rfl,rfl,rfl⟩,λb t=>?_,q⟩;have e:b=f.heap.objs.size:=by simpa using t
 subst e;exact d.fpOk (m_ _) (d.hok.fresh (m_ _))
theorem PQ (n:PE X l i):PI X tg l (Yo X.K i):=by
 intro c s j H R I h;refine My (n c s j H _ I h) λv d ⟨x,u,f,r,m⟩=>?_;obtain⟨a,e,⟨xs,k⟩,q⟩:=m;subst e;cases r;obtain⟨g,w,p,hz⟩:=f.tuple k;refine wpAny_pyIter_tuple (show d.heap.IsTuple a g.toArray from p) ?_;refine⟨d.heap.objs.size,[d.heap.objs.size],_,_,u,rfl,f.kept (t':=d.toks) λb o e=>h_ _ e,wF a _,⟨_,G_ _ rfl,rfl,rfl⟩,λb t=>?_,q⟩;have e:b=d.heap.objs.size:=by simpa using t
 subst e;exact f.fpOk (m_ _) (f.hok.fresh (m_ _))
theorem ud {g:St} (I:Inv X d g H s) (i : -(2^62)<=a) (m:a<2^62) (k : -(2^62)<=c) (h:c<2^62) (q:R (Itr a (c - a).toNat) H):aE (ay X.prog X.w) X.A (tm (.ref s.heap.objs.size)) (PIE X d g tg R) E { s with heap:=s.heap.push { cls:=.type "range",data:=.fields #[.int a t,.int c u,.int 1 v]},toks:=tk}:=by
 refine wpAny_pyIter_range (IsRange.new ..) (small_one i m k h) ?_;have f:Inv X d g H { s with heap:=s.heap.push { cls:=.type "range",data:=.fields #[.int a t,.int c u,.int 1 v]},toks:=tk}:=I.kept λb o e=>h_ _ e;refine⟨(s.heap.push { cls:=.type "range",data:=.fields #[.int a t,.int c u,.int 1 v]}).objs.size,[(s.heap.push { cls:=.type "range",data:=.fields #[.int a t,.int c u,.int 1 v]}).objs.size],_,_,H,rfl,
  f.kept (t':=tk) λb o e=>h_ _ e,wG _ a (c - a).toNat,?_,λb l=>?_,q⟩
 .have n:a+((0:Nat):Int)*1=a:=adE
  have j:(((c - a).toNat:Nat):Int) - ((0:Nat):Int)=Builtin.Range.rangeSize a c 1:=by rw[sx];split <;> omega
  show IsRangeIter _ _ (a+((0:Nat):Int)*1) ((((c - a).toNat:Nat):Int) - ((0:Nat):Int)) 1;rw[n,j];exact G_ _ rfl
 have e:b=(s.heap.push { cls:=.type "range",data:=.fields #[.int a t,.int c u,.int 1 v]}).objs.size:=by simpa using l
 subst e;exact f.fpOk (m_ _) (f.hok.fresh (m_ _))
def Ux (b:TA):TI:=λc H R=>b c H λvs a=>∃j:Int,vs=[.int j] /\ -(2^62)<=j/\j<2^62/\R (Itr 0 j.toNat) a
def Uy (b:TA):TI:=λc H R=>b c H λvs a=>∃i j:Int,vs=[.int i,.int j]/\(-(2^62)<=i/\i<2^62 /\ -(2^62)<=j/\j<2^62)/\R (Itr i (j - i).toNat) a
theorem Bb (k:Gl X "range") (l:X.mg "range"=ae) (m:PA X [a] f) (o:ax [a] X.env=[(ah,br a X.env)]:=by rfl):PI X tg (.Call (.Name "range" p) [a] [] c) (Ux f):=by
 intro b s i H R I h;refine Call_ (eQ I k l r2 (ZD (My (m c b s i H _ I h) λus x ⟨vs,w,g,n,d⟩=>?_) o rfl));obtain⟨j,e,d,u,q⟩:=d;subst e;cases n with
 |cons r v =>
 cases v;obtain⟨t,rfl⟩:=r;exact call_range_1 (ud g adC adC d u (by simpa using q))
theorem Bc {p f:ka} (v:Gl X "range") (z:X.mg "range"=ae) (w:PA X [a,b] l) (A:ax [a,b] X.env=[(ah,br a X.env),(ah,br b X.env)]:=by rfl) (d:ax [b] X.env=[(ah,br b X.env)]:=by rfl):
  PI X tg (.Call (.Name "range" p) [a,b] [] f) (Uy l):=by
 intro c s y H R I h;refine Call_ (eQ I v z r2 (ZD (My (w f c s y H _ I h) λus D ⟨vs,C,u,x,k⟩=>?_) (by rw[A,d]) (by rw[d];rfl)));obtain⟨i,j,e,⟨k,B,m,n⟩,q⟩:=k;subst e;cases x with
 |cons r g =>
 cases g with
 |cons o g =>
 cases g;obtain⟨t,rfl⟩:=r;obtain⟨t',rfl⟩:=o;exact call_range_2 (ud u k B m n q)
def Yp (j:TI) (g:TG) (e:TS):TS:=λD a H=>j a H λJ h=>∃W:Nat->Nat->St->Hp->Prop,(∃m,W 0 m a h)/\∀i m a H,W i m a H ->
 (J.stop i H/\D.nx a H)\/(J.go i H/\∃N:St->Hp->Prop,(∀b H',N b H'->∃d,d<m/\W (i+1) d b H')/\∀x H',J.yld i H x H'->g x a H' λc f=>e { D with nx:=N,ct:=N,bk:=D.nx} c f)
def mR (a : List am) (h : cv) : List (am × dL):=a.filterMap λb => (h.get? b).map λo => (b,o)
theorem gP (c : b ∈ a) (e : h.get? b = ab o): (b,o) ∈ mR a h:=List.mem_filterMap.mpr ⟨b,c,by rw [e]; rfl⟩
theorem Bd (f:p∈mR a h):p.1∈a/\h.get? p.1=ab p.2:=by
 obtain ⟨b,c,e⟩:=List.mem_filterMap.mp f;cases q : h.get? b with
 |none=>rw[q] at e;cases e
 |some o =>
 rw[q] at e;have d:(b,o)=p:=Zg e;subst d;exact⟨c,q⟩
theorem Inv.pinned {h:St} (I:Inv X a h H s) (i:∀b∈c,pC X a H b) (j:∀b∈c,∃o,s.heap.get? b=ab o/\∀v,o.data≠.cell v):Inv X (a++mR c s.heap) h H s :=
 I.pins_of λp k=>(t_.mp k).elim (λz=>I.pin p (Ze _ z)) λz=>by
  obtain⟨g,e⟩:=Bd z;obtain⟨n,l,m,_⟩:=i p.1 g;obtain⟨o,f,d⟩:=j p.1 g;rw[e] at f;cases f;exact⟨e,n,l,m,d⟩
theorem Inv.unpinned {b:St} (I:Inv X (a++pl) b H s):Inv X a b H s:=I.pins_of λp c=>I.pin p (Ze _ (Zq _ c))
theorem PX (F:oP (ay X.prog X.w) X.A X.env X.xe) (hc:X.calm=ag) (hi:PI X tg k wi) (hg:PG X tg g) (p:PSs X B tb) (hs:∀x,c8 k X.env x=a5 x:=by intro _;rfl):PS X (.For tg k B [] pos) (Yp wi g tb):=by
 intro a s σ H D I h;refine wpAny_For (My (hi a s σ H _ I h) λv s1 h1=>My h1 λitv s2 h2=>?_) hs;obtain⟨it,M,tn,J,H2,e,I2,T,Z,f2,W,⟨m0,w0⟩,P⟩:=h2;subst e
 have t:∀{H':Hp},(∀b∈M,H' b=ae)->∀b∈M,pC X a H' b:=λhn b p=>⟨hn b p,(f2 b p).2⟩;refine codeAny_forLoop_any (λn s'=>∃i j H',Inv X a j H' s'/\tn i s'.heap/\(∀b∈M,H' b=ae)/\W i n j H') ?_ m0 ⟨0,σ,H2,I2,Z,λb p=>(f2 b p).1,w0⟩;rintro n s3 ⟨i,z,H3,I3,G,L,w3⟩;rcases P i n z H3 w3 with ⟨K,qn⟩ | ⟨go,N,hN,O⟩
 .refine aaR F (My (T.done X rfl rfl rfl hc i a s3 z H3 X.xe I3 (t L) G K) λr s4 ⟨S,I4⟩=>?_);subst S;exact ft ⟨z,H3,I4,qn⟩
 refine aaR F (My (T.item X rfl rfl rfl hc i a s3 z H3 X.xe I3 (t L) G go) λr s4 ⟨u,S,h4⟩=>?_);subst S;refine aaR F (My h4 λ_ s5 ⟨x,H5,I5,r5,y5,E,U⟩=>?_);have V:=I5.pinned (t U) (T.obj _ _ E);refine aaR F (My (hg _ s5 z H5 x u _ V r5 (O x H5 y5)) λ_ s6 ⟨R,H6,I6,q6⟩=>?_);refine aaR F (My (p _ s6 R H6 _ I6 q6) λf Y C=>?_);have l:∀{c:St} {q:Hp},Inv X (a++mR M s5.heap) c q Y->N c q->∃m,m<n/\∃i j H',Inv X a j H' Y/\tn i Y.heap/\(∀b∈M,H' b=ae)/\W i m j H':=λ{c q} y Q=>by obtain⟨m',hm,w7⟩:=hN c q Q;refine⟨m',hm,i+1,c,q,y.unpinned,T.keep _ _ _ E λb p o e=>(y.pin (b,o) (Ze _ (Ze _ (gP p e)))).1,λb p=>?_,w7⟩;obtain⟨o,e,d⟩:=T.obj _ _ E b p;exact (y.pin (b,o) (Ze _ (Ze _ (gP p e)))).2.1
 cases f with
 |next=>obtain⟨c,q,y,Q⟩:=C;exact l y Q
 |cont=>obtain⟨c,q,y,Q⟩:=C;exact l y Q
 |brk=>obtain⟨c,q,y,C⟩:=C;exact⟨c,q,y.unpinned,C⟩
 |ret v=>obtain⟨x7,c,q,y,r7,C⟩:=C;exact⟨x7,c,q,y.unpinned,r7,C⟩
end
abbrev R2:=V->V->Hp->VK->Prop
def OpR (X:Cx) (f:av->av->k0 av) (r:R2):Prop :=
 ∀(a:List (am × dL)) (s:aI) (b:St) (H:Hp) (x y:V) (v u:av) (Q:VK),Inv X a b H s->RelV x v->RelV y u->r x y H Q ->
  aE (ay X.prog X.w) X.A (f v u) (EP X a b Q) X.xe s
def UnR (X:Cx) (f:av->k0 av) (r:V->Hp->VK->Prop):Prop :=
 ∀(a:List (am × dL)) (s:aI) (b:St) (H:Hp) (x:V) (v:av) (Q:VK),Inv X a b H s->RelV x v->r x H Q ->
  aE (ay X.prog X.w) X.A (f v) (EP X a b Q) X.xe s
def acj (X:Cx) (f:av) (r:List V->Hp->VK->Prop):Prop :=
 ∀(a:List (am × dL)) (s:aI) (b:St) (H:Hp) (xs:List V) (us:List av) (Q:VK),Inv X a b H s->Vals xs us->r xs H Q ->
  aE (ay X.prog X.w) X.A (oI f us) (EP X a b Q) X.xe s
def tOp (r:R2) (c b:TE):TE:=λa H Q=>c a H λx e=>b a e λy d=>r x y d Q
def tUn (r:V->Hp->VK->Prop) (b:TE):TE:=λc H Q=>b c H λx a=>r x a Q
def rI (C:Int->Int->Prop) (g:Int->Int->V):R2:=λx y H Q=>∃i j,x=.int i/\y=.int j/\C i j/\Q (g i j) H
def rI0 (g:Int->Int->V):R2:=λx y H Q=>∃i j,x=.int i/\y=.int j/\Q (g i j) H
def rU (g:Int->V):V->Hp->VK->Prop:=λx H Q=>∃i,x=.int i/\Q (g i) H
section
variable {X:Cx}{a b c:Expr}
theorem P0 (q:PE X a ta) (r:PE X b tb) {c:List (am × dL)}{e:St}{R:V->V->Hp->Prop} (I:Inv X c e H s) (h:ta e H λx k=>tb e k λy d=>R x y d) {f:av->av->k0 av} (n:∀v u j x y d,Inv X c e d j->RelV x v->RelV y u->R x y d->aE (ay X.prog X.w) X.A (f v u) Q X.xe j):
  aE (ay X.prog X.w) X.A (br a X.env) (λv i=>aE (ay X.prog X.w) X.A (br b X.env) (λu g=>aE (ay X.prog X.w) X.A (f v u) Q X.xe g) X.xe i) X.xe s:=by
 refine My (q c s e H _ I h) λv z ⟨x,k,l,t,p⟩=>?_;refine My (r c z e k _ l p) λu j ⟨y,d,B,m,o⟩=>?_;exact n v u j x y d B t m o
theorem Uz (e:OpR X (bp d) r) (i:PE X a ta) (j:PE X b tb):PE X (.BinOp a d b pos) (tOp r ta tb):=by
 intro c s n H Q I h;exact wpAny_BinOp (P0 i j I h λv u g x y m l f k q=>e c g n m x y v u Q l f k q)
theorem UG (f:UnR X (unaryOp d) r) (i:PE X a ta):PE X (.UnaryOp d a pos) (tUn r ta):=by
 intro b s c H Q I h;exact UnaryOp_ (My (i b s c H _ I h) λv l ⟨x,k,e,j,g⟩=>f b l c k x v Q e j g)
theorem opI {g:Int->Int->Int} (a:∀(i j:Int) (t u:Tok) (s:aI) (Q:av->aI->Prop) (E:av->aI->Prop),C i j->Q (.int (g i j) s.toks) { s with toks:=s.toks+1}->aE (ay X.prog X.w) X.A (f (.int i t) (.int j u)) Q E s):
  OpR X f (rI C λi j=>.int (g i j)):=by
 intro b s k H x y v u Q I c d h;obtain⟨i,j,rfl,rfl,e,q⟩:=h;obtain⟨t,rfl⟩:=c;obtain⟨t',rfl⟩:=d;exact a i j t t' s _ _ e ⟨.int (g i j),H,I.tok _,⟨_,rfl⟩,q⟩
theorem Ii {g:Int->Int->Int} (a:∀(i j:Int) (t u:Tok) (s:aI) (Q:av->aI->Prop) (E:av->aI->Prop),Q (.int (g i j) s.toks) { s with toks:=s.toks+1}->aE (ay X.prog X.w) X.A (f (.int i t) (.int j u)) Q E s):
  OpR X f (rI0 λi j=>.int (g i j)):=by
 intro b s e H x y v u Q I c d h;obtain⟨i,j,rfl,rfl,q⟩:=h;obtain⟨t,rfl⟩:=c;obtain⟨t',rfl⟩:=d;exact a i j t t' s _ _ ⟨.int (g i j),H,I.tok _,⟨_,rfl⟩,q⟩
theorem Ij {g:Int->Int->Bool} (a:∀(i j:Int) (t u:Tok) (s:aI) (Q:av->aI->Prop) (E:av->aI->Prop),Q (.bool (g i j)) s->aE (ay X.prog X.w) X.A (f (.int i t) (.int j u)) Q E s):
  OpR X f (rI0 λi j=>.bl (g i j)):=by
 intro b s e H x y v u Q I c d h;obtain⟨i,j,rfl,rfl,q⟩:=h;obtain⟨t,rfl⟩:=c;obtain⟨t',rfl⟩:=d;exact a i j t t' s _ _ ⟨.bl (g i j),H,I,rfl,q⟩
def Ik (i j:Int):Prop:=0<=j/\j<=1000000/\i.natAbs<2^64
def aeg (i j:Int):Prop:=(-(2^64)<i/\i<2^64)\/(-(2^64)<j/\j<2^64)
theorem aeg.ok (h:aeg i j):t4 i j:=by
 rcases h with ⟨a,b⟩ | ⟨a,b⟩
 .exact .of_left (sC a b)
 exact .of_right (sC a b)
theorem wH (k:Nat):(0:Int)<=2^k:=by
 rw[two_pow_cast];exact aaF _
theorem afS:OpR X (bp .Add) (rI0 λi j=>.int (i+j)):=Ii λ_ _ _ _ _ _ _ q=>add_int q
theorem Qa:OpR X (bp .Sub) (rI0 λi j=>.int (i - j)):=Ii λ_ _ _ _ _ _ _ q=>sub_int q
theorem Qc:OpR X (bp .Mult) (rI aeg λi j=>.int (i*j)):=opI λ_ _ _ _ _ _ _ a q=>mul_int q a.ok
theorem Qd:OpR X (bp .Mod) (rI (λ_ j=>0<j) λi j=>.int (i%j)):=opI λi j _ _ _ _ _ a q=>by
 have b:(0:Int)<j:=a;exact mod_int' adC (by rw[Int.fmod_eq_emod_of_nonneg i adC];exact q)
theorem Qe:OpR X (bp .Pow) (rI Ik λi j=>.int (i^j.toNat)):=opI λ_ _ _ _ _ _ _ a q=>pow_int_small a.1 a.2.1 a.2.2 q
theorem Qf:OpR X (bp .LShift) (rI Ik λi j=>.int (i*2^j.toNat)):=opI λ_ _ _ _ _ _ _ a q=>lshift_int_small a.1 a.2.1 a.2.2 q
theorem Qg:OpR X (bp .RShift) (rI (λ_ j=>0<=j) λi j=>.int (i / 2^j.toNat)):=opI λi j _ _ _ _ _ a q =>
 rshift_int a (by rw[gI i (wH _)];exact q)
theorem Qh:OpR X (bp .BitAnd) (rI0 λi j=>.int (a9 i j)):=Ii λ_ _ _ _ _ _ _ q=>and_int q
theorem UJ:OpR X (bp .BitOr) (rI0 λi j=>.int (dE i j)):=Ii λ_ _ _ _ _ _ _ q=>or_int q
theorem unI {g:Int->Int} (a:∀(i:Int) (t:Tok) (s:aI) (Q:av->aI->Prop) (E:av->aI->Prop),Q (.int (g i) s.toks) { s with toks:=s.toks+1}->aE (ay X.prog X.w) X.A (f (.int i t)) Q E s):
  UnR X f (rU λi=>.int (g i)):=by
 intro b s d H x v Q I c h;obtain⟨i,rfl,q⟩:=h;obtain⟨t,rfl⟩:=c;exact a i t s _ _ ⟨.int (g i),H,I.tok _,⟨_,rfl⟩,q⟩
theorem Qi:UnR X (unaryOp .USub) (rU λi=>.int (-i)):=unI λ_ _ _ _ _ q=>neg_int q
end
def mU:V->V->Bool
 |.non,.non=>ag | .non,.int _=>ag | .int _,.non=>ag | .non,.bl _=>ag | .bl _,.non=>ag | .non,.str _=>ag | .str _,.non=>ag
 |.int _,.int _=>ag | .bl _,.bl _=>ag | .str _,.str _=>ag | .byt _,.byt _=>ag
 |.int _,.str _=>ag | .str _,.int _=>ag | .bl _,.str _=>ag | .str _,.bl _=>ag
 |_,_=>ah
section
variable {X:Cx}{a b c:Expr}
theorem mV {a:List (am × dL)}{c:St}{k b:Bool} (I:Inv X a c H s) (q:Q (.bl k) H) (e:k=b):EP X a c Q (.bool b) s:=by
 subst e;exact⟨.bl k,H,I,rfl,q⟩
theorem UL:OpR X (be .Lt) (rI0 λi j=>.bl (decide (i<j))):=Ij λ_ _ _ _ _ _ _ q=>lt_int q
theorem UT:OpR X (be .LtE) (rI0 λi j=>.bl (decide (i<=j))):=Ij λ_ _ _ _ _ _ _ q=>le_int q
theorem UV:OpR X (be .Gt) (rI0 λi j=>.bl (decide (j<i))):=Ij λ_ _ _ _ _ _ _ q=>gt_int q
theorem UW:OpR X (be .GtE) (rI0 λi j=>.bl (decide (j<=i))):=Ij λ_ _ _ _ _ _ _ q=>ge_int q
theorem Be:OpR X (be .In) (λx y H Q=>∃i j,x=.str i/\y=.str j/\Q (.bl (!(bo j i 0 j.length 1).isEmpty)) H):=by
 intro a s d H x y v u Q I b c h;obtain⟨i,j,rfl,rfl,q⟩:=h;obtain⟨t,rfl⟩:=b;obtain⟨t',rfl⟩:=c;exact in_str (mV I q rfl)
theorem Qj:OpR X (be .Is) (λx y H Q=>y=.non/\Q (.bl (decide (x=.non))) H):=by
 intro b s d H x y v u Q I a c h;obtain⟨rfl,q⟩:=h;cases c;refine is_none_gen (mV I q ?_);cases x <;> first
  | (cases a;rfl)
  | (obtain⟨t,rfl⟩:=a;rfl)
theorem Il:OpR X (be .IsNot) (λx y H Q=>y=.non/\Q (.bl (!decide (x=.non))) H):=by
 intro b s d H x y v u Q I a c h;obtain⟨rfl,q⟩:=h;cases c;refine isnot_none_gen (mV I q ?_);cases x <;> first
  | (cases a;rfl)
  | (obtain⟨t,rfl⟩:=a;rfl)
theorem qW:OpR X (be .NotIn) (λx y H Q=>∃i j,x=.str i/\y=.str j/\Q (.bl (!(!(bo j i 0 j.length 1).isEmpty))) H):=by
 intro a s d H x y v u Q I b c h;obtain⟨i,j,rfl,rfl,q⟩:=h;obtain⟨t,rfl⟩:=b;obtain⟨t',rfl⟩:=c;exact notIn_str (mV I q rfl)
theorem OpR.or (h:OpR X f r) (h':OpR X f d):OpR X f (λx y H Q=>r x y H Q\/d x y H Q):=by
 intro a s e H x y v u Q I b c q;rcases q with q | q
 .exact h a s e H x y v u Q I b c q
 exact h' a s e H x y v u Q I b c q
theorem CT (b:Expr) {a:vS}(h:a≠.In:=by decide) (d:a≠.NotIn:=by decide):ca a b=ah:=by
 have e:(a==CmpOp.In)=ah:=by cases a <;> first | rfl | exact ach rfl h
 have c:(a==CmpOp.NotIn)=ah:=by cases a <;> first | rfl | exact ach rfl d
 cases b <;> simp [ca,e,c]
theorem Im (e:OpR X (be d) r) (j:PE X a ta) (k:PE X b tb) (i:ca d b=ah):PE X (.Compare a [d] [b] pos) (tOp r ta tb):=by
 intro c s o H Q I h;exact wpAny_Compare1 (P0 j k I h λv u g x y n m f l q=>e c g o n x y v u Q m f l q) i
def U0 (t:TE):TT:=λa H Q=>t a H λx H'=>∃k,x=.bl k/\Q k H'
theorem Io (t:OpR X (be f) r) (o:PE X a ta) (D:PE X b tb) (w:ca f b=ah):PT X (.Compare a [f] [b] pos) (U0 (tOp r ta tb)):=by
 intro d s g H Q I h;refine kx (My (o d s g H _ I h) λv G ⟨x,F,n,p,A⟩=>My (D d G g F _ n A) λu l ⟨y,q,C,i,E⟩ =>
  My (t d l g q x y v u _ C p i E) λc J ⟨z,H3,m,B,k,e,j⟩=>?_) w
 subst e;cases B;exact aaU ⟨H3,m,j⟩
theorem jr:(ap:Nat)<2^63:=by rw[pz];decide
theorem adS:OpR X (bp .Add) (λx y H Q=>∃i j,x=.str i/\y=.str j/\i.length+j.length<=ap/\Q (.str (i++j)) H):=by
 intro a s d H x y v u Q I b c h;obtain⟨i,j,rfl,rfl,hz,q⟩:=h;obtain⟨t,rfl⟩:=b;obtain⟨t',rfl⟩:=c;exact add_str (λt' tk=>⟨.str (i++j),H,I.tok _,⟨_,rfl⟩,q⟩) hz
theorem vals1 (r:Vals [x] us):∃u,us=[u]/\RelV x u:=by
 cases r with
 |cons b a=>cases a;exact⟨_,rfl,b⟩
theorem vals2 (r:Vals [x,y] us):∃u a,us=[u,a]/\RelV x u/\RelV y a:=by
 cases r with
 |cons d b =>
 cases b with
 |cons e c=>cases c;exact⟨_,_,rfl,d,e⟩
theorem Bf:acj X (.type "int") (λxs H Q=>(∃i,xs=[.int i]/\Q (.int i) H)\/∃k,xs=[.bl k]/\Q (.int (if k then 1 else 0)) H):=by
 intro a s c H xs us Q I r h;rcases h with ⟨i,rfl,q⟩ | ⟨k,rfl,q⟩
 .obtain⟨u,rfl,t,rfl⟩:=vals1 r;exact call_int_int ⟨.int i,H,I,⟨_,rfl⟩,q⟩
 obtain⟨u,rfl,b⟩:=vals1 r;cases b;exact call_int_bool ⟨.int (if k then 1 else 0),H,I.tok _,⟨_,rfl⟩,q⟩
end
structure adU (h:cv) (x dx C:am) (mA:ai->Option av):Prop where
 obj:h.get? x=ab (hU C dx)
 ns:h.Ns1 dx mA
 ne:dx≠x
theorem Bg {h:cv} (n:h.Ns1 c f):∃d,h.get? c=ab d/\∀name,tr name d=ab (f name):=by
 obtain⟨o,g,ep,k,j,p,_,l⟩:=n;refine⟨o,k,λname=>?_⟩;have e:=l name;unfold nsFind findBy at e;rw[<- Array.find?_toList] at e;unfold tr;rw[j];dsimp only;split
 .rename_i y q;rw[q] at e;exact T_ ab e
 rename_i q;rw[q] at e;have a:g.toList.any (·.refKey)=ah:=by rw[List.any_eq_false];intro y i;obtain⟨z,t,b⟩:=p y (Array.mem_toList_iff.mp i);simp [DictEntry.refKey,b]
 have m:¬g.toList.any (·.refKey)=ag:=by rw[a];exact B_
 rw[ace m];exact T_ ab e
theorem adU.look (I:adU h x c C b):∃a,InstAt h x (hU C c) C (ab a)/\∀name,tr name a=ab (b name) :=
 let ⟨a,ho,hl⟩:=Bg I.ns
 ⟨a,⟨I.obj,rfl,rfl,ho⟩,hl⟩
section
variable {s:aI}{K:a8}
theorem Ip (X:K.In s.heap) (I:adU s.heap x dx C mA) (d:nI K C name=ag) (c:oz K C=ag) (f:f8 K (.ref C) name=ab ae) (e:mA name=ab v) (b:tT v=ag) (h:Q v { s with toks:=s.toks+1}):
  aE (ay prog w) A (getAttr (.ref x) name a) Q E s:=by
 obtain⟨i,J,g⟩:=I.look;exact PySem.W.get_value X J (kL d).1 (PySem.W.findObj_own c f rfl (by rw[g,e])) b h
theorem CV (X:K.In s.heap) (I:adU s.heap x dx C mA) (a:nI K C name=ag) (c:f8 K (.ref C) name=ab (ab (.ref f))) (b:isFn K (.ref f)=ag) (e:mA name=ae) (h:Q (.ref f,[.ref x]) s):
  aE (ay prog w) A (oB (.ref x) name pl) Q E s:=by
 obtain⟨d,J,g⟩:=I.look;exact PySem.W.method_fn X J (kL a).1 (kL a).2 c (aa0.mp b) (by show (tr name d).map (·.isSome)=ab ah;rw[g,e];rfl) h
theorem Ir (X:K.In s.heap) (I:adU s.heap x dx C mA) (p:f8 K (.ref C) "__setattr__"=ab (ab (.builtin "object.__setattr__"))) (m:sQ K C=ag) (k:tf K C name=ab ae) (l:oz K C=ag) (q:j3 mA ns) (hsz:ns.length<=ap) (h:∀h',adU h' x dx C (λy=>if y=name then ab v else mA y)->eh dx s.heap h'->Q () { s with heap:=h',toks:=s.toks+2}):
  aE (ay prog w) A (setAttr (.ref x) name v) Q E s:=by
 obtain⟨z,J,B⟩:=I.look;refine PySem.W.set_plain X J p (PySem.W.osa_open (s:={ s with toks:=s.toks+1}) (r:=ae) X J m k λb=>?_);obtain⟨u,t,g⟩:=PySem.W.any_some l;have o:s.heap.get? x=ab ⟨.ref C,ab dx,.plain,#[]⟩:=I.obj;refine d_ (o_ (d_ (d_ (wpAny_loadPart o (d_ (PySem.W.Looks.here (s:={ s with toks:=s.toks+1}) (PySem.W.looks_clsIn X t) ?_))))));rw[g];refine o_ (a:=ab dx) (d_ (o_ (d_ ?_)));refine wpAny_nsSet1 (s:={ s with toks:=s.toks+1}) I.ns λh' d c=>?_;obtain⟨oD,j,n,i,f,e⟩:=d.count (PySem.Within.cons name v q);refine d_ (wpAny_lookBehind i (by rw[f];exact pastItsLine_dict (W_ e (by rw[i_];omega))) ?_);exact o_ (h _ ⟨(c.2 _ (a6 I.ne)).trans I.obj,d,I.ne⟩ c)
theorem CW (X:K.In s.heap) (e:makesIn K C=ag) (i:f8 K (.ref C) "__init__"=ab (ab (.ref f))) (c:typeIn K (.ref f)=ab (.type "function")) (h:dP (ay prog w) (A.under (.builtin "type.__call__" ⟨.ref C::vs,b⟩)) (.call (.ref f) ⟨.ref (s.heap.objs.size+1)::vs,b⟩) (PySem.W.InitBack (s.heap.objs.size+1) R)
   { s with heap:=(s.heap.push d6).push (hU C s.heap.objs.size)}):
  dP (ay prog w) A (.call (.ref C) ⟨vs,b⟩) R s:=by
 obtain⟨j,g,d,t,k⟩:=s;exact PySem.W.make_core (PySem.W.makes_of X e) (PySem.W.looks_findIn X i) (λa=>PySem.W.bind_fn X a c) (.inl rfl) h
end
def gQ (f:ai) (v:V):List (ai × V)->List (ai × V)
 |[]=>[(f,v)]
 | (g,x)::r=>if g=f then (g,v)::r else (g,x)::gQ f v r
theorem lC (f g:ai) (v:V):∀c:List (ai × V),(gQ f v c).lookup g=if g=f then ab v else c.lookup g
 |[]=>by
  show d5 g [(f,v)]=_
  by_cases h:g=f
  ·
   have a:(g==f)=ag:=aa0.mpr h
   simp only[d5,a,aca h]
  ·
   have a:(g==f)=ah:=aak.mpr h
   simp only[d5,a,ace h]
 | (k,x)::r=>by
  have d:=lC f g v r
  rw[show gQ f v ((k,x)::r)=(if k=f then (k,v)::r else (k,x)::gQ f v r) from rfl]
  by_cases b:k=f
  ·
   rw[aca b]
   by_cases h:g=k
   ·
    have a:(g==k)=ag:=aa0.mpr h
    simp only[d5,a,aca (h.trans b)]
   ·
    have a:(g==k)=ah:=aak.mpr h
    simp only[d5,a,ace (λe:g=f=>h (e.trans b.symm))]
  ·
   rw[ace b]
   by_cases h:g=k
   ·
    have a:(g==k)=ag:=aa0.mpr h
    simp only[d5,a,ace (λe:g=f=>b (h.symm.trans e))]
   ·
    have a:(g==k)=ah:=aak.mpr h
    simp only[d5,a]
    exact d
theorem kh (f:ai) (v:V):∀a:List (ai × V),f∈(gQ f v a).map (·.1)/\∀g,g∈a.map (·.1)->g∈(gQ f v a).map (·.1)
 |[]=>⟨by simp [gQ],λg h=>by simp at h⟩
 | (k,x)::r=>by
  obtain⟨c,d⟩:=kh f v r
  rw[show gQ f v ((k,x)::r)=(if k=f then (k,v)::r else (k,x)::gQ f v r) from rfl]
  by_cases b:k=f
  ·
   rw[aca b]
   subst b
   exact⟨adE,λg h=>by simpa using h⟩
  ·
   rw[ace b]
   refine⟨?_,λg h=>?_⟩
   ·
    rw[D_]
    exact u_ _ c
   ·
    rw[D_] at h |-
    rcases n_.mp h with e | e
    ·
     exact n_.mpr (.inl e)
    ·
     exact u_ _ (d g e)
theorem lD (f:ai) (v:V):∀a:List (ai × V),(gQ f v a).length<=a.length+1
 |[]=>by simp [gQ]
 | (k,x)::r=>by
  have c:=lD f v r
  rw[show gQ f v ((k,x)::r)=(if k=f then (k,v)::r else (k,x)::gQ f v r) from rfl]
  by_cases b:k=f
  ·
   rw[aca b,i_,i_];omega
  ·
   rw[ace b,i_,i_];omega
theorem acP.some_of (r:acP (ab v) o):∃u,o=ab u/\RelV v u:=by
 cases o with
 |none=>exact (show False from r).elim
 |some u=>exact⟨u,rfl,r⟩
theorem acP.none_of (r:acP ae o):o=ae:=by
 cases o with
 |none=>rfl
 |some u=>exact (show False from r).elim
theorem Bh (r:RelV v u):tT u=ag:=by
 cases v with
 |non=>cases (show u=d3 from r);rfl
 |bl b=>cases (show u=eP b from r);rfl
 |int i=>obtain⟨t,e⟩:=(show ∃t,u=dd i t from r);cases e;rfl
 |str x=>obtain⟨t,e⟩:=(show ∃t,u=lT x t from r);cases e;rfl
 |byt b=>obtain⟨t,e⟩:=(show ∃t,u=Value.bytes b t from r);cases e;rfl
 |flt b=>obtain⟨t,e⟩:=(show ∃t,u=pV b t from r);cases e;rfl
 |ref a=>cases (show u=bg a from r);rfl
 |ty n=>cases (show u=cE n from r);rfl
section
variable {P:bE}{w:bS}
theorem mq (c:HOk P w H h) (e:H a=ab (.ins C dx fs)):∃b,adU h a dx C b/\(∀f,acP (fs.lookup f) (b f))/\j3 b (fs.map (·.1))/\fs.length<=1000/\H dx=ab (.own a):=by
 obtain⟨d,z,i,g,b,n,r,q⟩:=(show xr P w H h a (.ins C dx fs) from c a _ e);exact⟨b,⟨g,n,i⟩,r,q,z,d⟩
end
structure Cls (K:a8) (C:am):Prop where
 pg:nI K C Str.empty=ag
 hd:oz K C=ag
 po:sQ K C=ag
 sa:f8 K (.ref C) "__setattr__"=ab (ab (.builtin "object.__setattr__"))
theorem Cls.get {K:a8} (c:Cls K C) (f:ai):nI K C f=ag:=c.pg
def ac2 (K:a8) (C:am) (f:ai):Prop:=f8 K (.ref C) f=ab ae
theorem ac2.taker {K:a8} (n:ac2 K C f):tf K C f=ab ae:=by
 unfold tf;rw[show f8 K (.ref C) f=ab ae from n];rfl
structure Meth (K:a8) (C:am) (m:ai) (f:am):Prop where
 at_:f8 K (.ref C) m=ab (ab (.ref f))
 fn:isFn K (.ref f)=ag
 kp:jv K (.ref f)=ag
section
variable {X:Cx}{pins:List (am × dL)}{σ:St}
theorem wI (I:Inv X pins σ H s) (e:H a=ab (.ins C dx fs)) (c:Cls X.K C) (n:ac2 X.K C f) (l:fs.lookup f=ab v) (h:∀u s',Inv X pins σ H s'->RelV v u->Q u s'):aE (ay X.prog X.w) A (getAttr (.ref a) f b) Q E s:=by
 obtain⟨g,O,r,_,_,_⟩:=mq I.hok e;obtain⟨u,i,d⟩:=acP.some_of (v:=v) (o:=g f) (by rw[<- l];exact r f);exact Ip I.kIn O (c.get f) c.hd n i (Bh d) (h u _ (I.tok _) d)
theorem wJ (I:Inv X pins σ H s) (e:H a=ab (.ins C dx fs)) (c:Cls X.K C) (k:Meth X.K C m g) (l:fs.lookup m=ae) (h:Q (.ref g,[.ref a]) s):aE (ay X.prog X.w) A (oB (.ref a) m pl) Q E s:=by
 obtain⟨b,O,r,_,_,_⟩:=mq I.hok e;have d:b m=ae:=acP.none_of (by rw[<- l];exact r m);exact CV I.kIn O (c.get m) k.at_ k.fn d h
theorem wK (I:Inv X pins σ H s) (e:H a=ab (.ins C dx fs)) (c:Cls X.K C) (n:ac2 X.K C f) (v:fs.length<1000) (t:RelV y u) (h:∀s',Inv X pins σ (upd H a (.ins C dx (gQ f y fs))) s'->Q () s'):aE (ay X.prog X.w) A (setAttr (.ref a) f u) Q E s:=by
 obtain⟨j,O,r,k,_,i⟩:=mq I.hok e;have hz:(fs.map (·.1)).length<=ap:=by rw[b_,pz];omega
 refine Ir I.kIn O c.sa c.po n.taker c.hd k hz λh' d sb=>h _ ?_;have l:∃o,h'.get? dx=ab o:=let ⟨o,_,_,e',_⟩:=d.ns;⟨o,e'⟩;refine I.write (x:=a) (e:=dx) (by rw[e];exact ci) (.inr i) (λb q p z=>(sb.2 b p).trans z) l ?_;refine⟨by rw[bu O.ne];exact i,?_,O.ne,d.obj,_,d.ns,λg=>?_,λg m=>?_⟩
 .have:=lD f y fs;omega
 .show acP ((gQ f y fs).lookup g) (if g=f then ab u else j g);rw[lC];by_cases q:g=f
  .rw[aca q,aca q];exact t
  rw[ace q,ace q];exact r g
 by_cases q:g=f
 .rw[q];exact (kh f y fs).1
 refine (kh f y fs).2 g (k g λz=>m ?_);show (if g=f then ab u else j g)=ae;rw[ace q];exact z
theorem Inv.made (I:Inv X pins σ H s):Inv X pins σ (upd (upd H s.heap.objs.size (.own (s.heap.objs.size+1))) (s.heap.objs.size+1) (.ins C s.heap.objs.size []))
  { s with heap:=(s.heap.push d6).push (hU C s.heap.objs.size)}:=by
 have d:(s.heap.push d6).get? s.heap.objs.size=ab d6:=G_ s.heap rfl;have h:((s.heap.push d6).push (hU C s.heap.objs.size)).get? (s.heap.objs.size+1)=ab (hU C s.heap.objs.size):=by
  have:=G_ (s.heap.push d6) (o:=hU C s.heap.objs.size) rfl
  rwa [aaH] at this
 have j:(s.heap.push d6).Ns s.heap.objs.size (λ_=>ae):=⟨d6,#[],_,d,rfl,(λe i=>ach i adE),λ_=>rfl⟩;have f:=I.laid (a:=s.heap.objs.size) (o:=.own (s.heap.objs.size+1)) (h':=s.heap.push d6) (t':=s.toks) (λb u q=>h_ _ q) (m_ _) ⟨_,d⟩;refine f.laid (a:=s.heap.objs.size+1) (o:=.ins C s.heap.objs.size []) (t':=s.toks) (λb u q=>h_ _ q) (abh (aaH _ _)) ?_;have c:s.heap.objs.size≠s.heap.objs.size+1:=Zk (aa5 _);refine⟨by rw[bu c,cu],aae _,c,h,λ_=>ae,(Heap.Ns1.of_empty j).at λo q=>h_ _ q,λ_=>ci,λy g=>ach rfl g⟩
theorem Iu {a:ka} (b:cq e f env (br e env)=br e env) (h:aE (ay prog w) A (br e env) (λo s₁=>aE (ay prog w) A (getAttr o f ag) Q E s₁) E s):aE (ay prog w) A (br (.Attribute e f a) env) Q E s :=
 Attribute_any_ h (by rw[arm_eval_Attribute,b])
end
def Yq (K:a8) (e:TE) (f:ai):TE:=λg H Q=>e g H λx c=>∃a C d b v,x=.ref a/\c a=ab (.ins C d b)/\Cls K C/\ac2 K C f/\b.lookup f=ab v/\Q v c
def Yr (K:a8) (g h:TE) (f:ai):TS:=λD c H=>h c H λy i=>g c i λx e=>∃a C d b,x=.ref a/\e a=ab (.ins C d b)/\Cls K C/\ac2 K C f/\b.length<1000 /\
 D.nx c (upd e a (.ins C d (gQ f y b)))
section
variable {X:Cx}{o e value:Expr}
theorem Qk (o:PE X e ta) (r:cq e f X.env (br e X.env)=br e X.env):PE X (.Attribute e f pos) (Yq X.K ta f):=by
 intro b s i H Q I h;refine Iu r (My (o b s i H _ I h) λu B ⟨x,t,d,k,a,C,y,A,v,p,j,c,n,l,q⟩=>?_);subst p;obtain rfl:u=bg a:=k;exact wI d j c n l λz w g m=>⟨v,t,g,m,q⟩
theorem Ql (k:PE X o ta) (m:PE X value tv) (w:dt value (ab (.Attribute o f pos')) pos.line X.env=a5 ah):PS X (.Assign [.Attribute o f pos'] value pos) (Yr X.K ta tv f):=by
 intro b s d H D I h;refine plainObj_wpAny_Assign_Attribute (My (m b s d H _ I h) λu B ⟨y,A,j,p,q⟩=>My (k b B d A _ j q) λg E ⟨x,F,v,e,a,C,J,L,r,t,c,n,l,z⟩=>?_) w;subst r;obtain rfl:g=bg a:=e;exact wK v t c n l p λG i=>⟨d,_,i,z⟩
variable {pins:List (am × dL)}{σ:St}
inductive ade (K:a8) (H:Hp):V->av->Prop where
 |non:ade K H .non (.type "NoneType")
 |bl (x:Bool):ade K H (.bl x) (.type "bool")
 |int (i:Int):ade K H (.int i) (.type "int")
 |str (x:ai):ade K H (.str x) (.type "str")
 |flt (x:UInt64):ade K H (.flt x) (.type "float")
 |lst {a:am} {xs:List V} (e:H a=ab (.lst xs)):ade K H (.ref a) (.type "list")
 |frz {a:am} {o:dL} {xs:List V} (e:H a=ab (.frz o (.lst xs))):ade K H (.ref a) (.type "list")
 |tup {a:am} {xs:List V} (e:H a=ab (.tup xs)):ade K H (.ref a) (.type "tuple")
 |dK {a:am} {kvs:List (Key × V)} (e:H a=ab (.dK kvs)):ade K H (.ref a) (.type "dict")
 |dT {a:am} {kvs:List (List Key × V)} (e:H a=ab (.dT kvs)):ade K H (.ref a) (.type "dict")
 |ins {a C dx:am} {fs:List (ai × V)} (e:H a=ab (.ins C dx fs)) (cl:Cls K C) (ha:f8 K (.ref C) "__class__"=ab (ab (.builtin "object.__class__")))
   (hn:PySem.W.specialIn K (.builtin "object.__class__") "__get__"=ab (ab (.builtin "getset_descriptor.__get__"))) (htk:PySem.W.takesIn K (.builtin "object.__class__")=ab ag)
   (hm:mroIn K C (.type "object")=ab ag):ade K H (.ref a) (.ref C)
theorem fC (I:Inv X pins σ H s) (f:RelV x u) (r:ade X.K H x t) (e:kitOne X.K t c=ab b) (h:∀tk,Q (.bool b) { s with toks:=tk}):
  aE (ay X.prog X.w) A (oI (.builtin "isinstance") [u,c]) Q E s:=by
 cases r with
 |non=>cases (show u=d3 from f);exact eK PySem.W.kitx_none I.kIn ci e (λz=>nomatch z) h
 |bl y=>cases (show u=eP y from f);exact eK PySem.W.kitx_bool I.kIn ci e (λz=>nomatch z) h
 |int i=>obtain⟨t,q⟩:=(show ∃t,u=dd i t from f);cases q;exact eK PySem.W.kitx_int I.kIn ci e (λz=>nomatch z) h
 |str y=>obtain⟨t,q⟩:=(show ∃t,u=lT y t from f);cases q;exact eK PySem.W.kitx_str I.kIn ci e (λz=>nomatch z) h
 |flt y=>obtain⟨t,q⟩:=(show ∃t,u=pV y t from f);cases q;exact eK PySem.W.kitx_float I.kIn ci e (λz=>nomatch z) h
 |@lst a xs d=>cases (show u=bg a from f);obtain⟨_,_,n,_,g⟩:=(show xr X.prog X.w H s.heap a (.lst xs) from I.hok a _ d);exact eK s0 I.kIn ⟨_,g,rfl⟩ e (λz=>nomatch z) h
 |@frz a m xs d=>cases (show u=bg a from f);obtain⟨_,_,_,n,_,g⟩:=(show xr X.prog X.w H s.heap a (.frz m (.lst xs)) from I.hok a _ d);exact eK s0 I.kIn ⟨_,g,rfl⟩ e (λz=>nomatch z) h
 |@tup a xs d=>cases (show u=bg a from f);obtain⟨_,_,_,p⟩:=(show xr X.prog X.w H s.heap a (.tup xs) from I.hok a _ d);obtain⟨o,g,j,_⟩:=p;exact eK rs I.kIn ⟨o,g,j⟩ e (λz=>nomatch z) h
 |@dK a kvs d=>cases (show u=bg a from f);obtain⟨_,_,vs,_,p⟩:=(show xr X.prog X.w H s.heap a (.dK kvs) from I.hok a _ d);obtain⟨o,F,ep,g,j,_⟩:=p;exact eK s9 I.kIn ⟨o,g,j.1⟩ e (λz=>nomatch z) h
 |@dT a kvs d=>cases (show u=bg a from f);obtain⟨_,_,xs,_,o,F,ep,g,j,_⟩:=(show xr X.prog X.w H s.heap a (.dT kvs) from I.hok a _ d);exact eK s9 I.kIn ⟨o,g,j.1⟩ e (λz=>nomatch z) h
 |@ins a C L N d l B D k v =>
 cases (show u=bg a from f);obtain⟨M,O,_⟩:=mq I.hok d;obtain⟨G,J,_⟩:=O.look;exact eK (PySem.W.kitx_own (l.get _) l.hd B D k v) I.kIn J e (λz=>nomatch z) h
end
structure mX (k:Nat) (A:eB):Prop where
 hd:A.handled=ae
 dp:A.depth+3*k+5<rq
 un:A.units+16*k+200<cK
 gd:A.guards=ab []
theorem mX.mono (r:mX k A) (h:j<=k):mX j A:=⟨r.hd,by have:=r.dp;omega,by have:=r.un;omega,r.gd⟩
theorem mX.deeper (r:mX (k+1) A) (env:t5):mX k (A.deeper env) :=
 ⟨r.hd,by have:=r.dp;show A.depth+1+3*k+5<_;omega,by have:=r.un;show A.units+3+16*k+200<_;omega,r.gd⟩
theorem wL {A:eB}:(A.under (.builtin "type.__call__" ⟨.ref C::us,a⟩)).depth=A.depth+1:=by
 first | rfl | simp [kg,Code.weight,Code.isCreation,Code.isGuard,Code.isCaller,Code.frames,Code.isFrame,guardIds]
theorem wM {A:eB}:(A.under (.builtin "type.__call__" ⟨.ref C::us,a⟩)).units=A.units+1:=by
 first | rfl | simp [kg,Code.cUnits,Code.frames,Code.isFrame]
theorem mX.make (r:mX (k+1) A) (C:am) (us:List av) (a:List (ai × av)):mX k (A.under (.builtin "type.__call__" ⟨.ref C::us,a⟩)) :=
 ⟨r.hd,by have:=r.dp;rw[wL];omega,by have:=r.un;rw[wM];omega,by first | exact r.gd | (simp [kg,Code.guards,Code.isGuard,guardIds,pushGuards,r.gd])⟩
theorem mX.depth (r:mX k A):A.depth<rq:=by have:=r.dp;omega
def Ys:TA:=λ_ H Q=>Q [] H
def U3 (c:TE) (b:TA):TA:=λa H Q=>c a H λx e=>b a e λxs d=>Q (x::xs) d
theorem Qm:PA X [] Ys:=λ_ _ _ _ H Q I h=>aam ⟨[],H,I,.nil,h⟩
theorem Iv (j:PE X e te) (k:PA X es t) (l:ax (e::es) X.env=(ah,br e X.env)::ax es X.env:=by rfl):PA X (e::es) (U3 te t):=by
 intro b a s c H Q I h;rw[l];show aE _ _ (hO ((ah,br e X.env)::bt b (ax es X.env))) _ _ s;refine Z4 (My (j a s c H _ I h) λu g ⟨x,q,d,m,i⟩=>?_);exact My (k b a g c q _ d i) λus r ⟨xs,o,n,f,p⟩=>⟨x::xs,o,n,.cons m f,p⟩
def Yt (t:TA):TE:=λb H Q=>t b H λxs a=>xs.length<=ap/\∀p,a p=ae->Q (.ref p) (upd a p (.tup xs))
def Yu (t:TA):TE:=λb H Q=>t b H λxs a=>xs.length<=ap/\∀p,a p=ae->Q (.ref p) (upd a p (.lst xs))
theorem Qn (h:PA X es t):PE X (.Tuple es x1 pos) (Yt t):=by
 intro a s g H Q I j;refine wpAny_Tuple_spliced (My (h pos a s g H _ I j) λus c ⟨xs,f,d,r,z,q⟩=>⟨by rw[<- r.length];exact z,?_⟩);have i:f c.heap.objs.size=ae:=d.hok.fresh (m_ _);refine⟨.ref c.heap.objs.size,upd f c.heap.objs.size (.tup xs),d.laid (t':=c.toks) (λb u e=>h_ _ e) (m_ _) ?_,rfl,q _ i⟩;exact⟨z,us,r,⟨_,G_ _ rfl,rfl,_,rfl,rfl⟩⟩
theorem Qo (h:PA X es t):PE X (.List es pos) (Yu t):=by
 intro a s g H Q I j;refine wpAny_List_spliced (My (h pos a s g H _ I j) λus c ⟨xs,f,d,r,z,q⟩=>⟨by rw[<- r.length];exact z,?_⟩);have i:f c.heap.objs.size=ae:=d.hok.fresh (m_ _);refine⟨.ref c.heap.objs.size,upd f c.heap.objs.size (.lst xs),d.laid (t':=c.toks) (λb u e=>h_ _ e) (m_ _) ?_,rfl,q _ i⟩;exact⟨z,us,0,r,G_ _ rfl⟩
abbrev Sp:=List V->Hp->VK->XK->Prop
abbrev CXT:=List t5->Hp->aI->XK->av->aI->Prop
structure adR (P:bE) (w:bS) (K:a8) (mg:ai->Option av) (base:cv) (A:eB) (outer:List t5) (s:aI) (H:Hp):Prop where
 frames:A.frames=ab outer
 mod:Mod K mg base
 bs:∀b o,base.get? b=ab o->s.heap.get? b=ab o/\H b=ae
 bsz:base.objs.size<=s.heap.objs.size
 funs:s.heap.FunFrames base outer
 frf:∀b∈frs outer,H b=ae
 hok:HOk P w H s.heap
 bare:ij s.gens
def CE (a:List t5) (P:bE) (w:bS) (H:Hp) (s:aI) (Q:VK) (u:av) (s':aI):Prop :=
 ∃v H',s'.os=s.os/\ij s'.gens/\Un (frs a) [] H H' s.heap s'.heap/\HOk P w H' s'.heap/\RelV v u/\Q v H'
def CR (CX:CXT) (a:List t5) (P:bE) (w:bS) (H:Hp) (s:aI) (Q:VK) (E:XK) (r:Result) (s':aI):Prop :=
 match r with
 |.ok (.ret u)=>CE a P w H s Q u s'
 |.ok _=>False
 |.error e=>CX a H s E e s'
structure adq (P:bE) (w:bS) (K:a8) (mg:ai->Option av) (base:cv) (CX:CXT) (k:Nat) (f:am) (fd:dk) (ps:List ai) (sp:Sp):Prop where
 len:∀vs H Q E,sp vs H Q E->vs.length=ps.length
 run:∀(A:eB) (outer:List t5) (s:aI) (H:Hp) (args:Args) (us:List av) (vs:List V) (Q:VK) (E:XK),mX k A->adR P w K mg base A outer s H->oj s fd args (ps.zip us)->Vals vs us->sp vs H Q E ->
  dP (ay P w) A (.call (.ref f) args) (CR CX outer P w H s Q E) s
theorem adR.make {K:a8} (e:adR P w K b base A a s H) (C:am) (us:List av) (c:List (ai × av)):
  adR P w K b base (A.under (.builtin "type.__call__" ⟨.ref C::us,c⟩)) a s H:=⟨by first | exact e.frames | (simpa [kg,Code.envs,Code.isFrame,pushEnvs] using e.frames),e.mod,e.bs,e.bsz,e.funs,e.frf,e.hok,e.bare⟩
section
variable {X:Cx}{pins:List (am × dL)}{σ:St}
theorem Inv.env0 (I:Inv X pins σ H s):adR X.prog X.w X.K X.mg X.base X.A X.stack s H :=
 ⟨I.ok.frames,I.ok.mod,I.bs,W_ I.ok.bsz I.sz,I.stack,I.stkFree,I.hok,I.bare⟩
theorem Inv.after (I:Inv X pins σ H s) (h:CE X.stack X.prog X.w H s Q u s'):EP X pins σ Q u s':=by
 obtain⟨v,H',i,a,j,c,r,q⟩:=h;obtain⟨f,g,d,t,e⟩:=s';obtain rfl:e=s.os:=i;exact⟨v,H',I.call (h':=f) (g':=g) (d':=d) (t':=t) (ch:=[]) j c a (λb z=>ach z adE),r,q⟩
end
def U4 (sp:Sp) (dvs:List V) (E:XK) (t:TA):TE:=λb H Q=>t b H λvs a=>sp (vs++dvs) a Q E
def U5 (C:am) (m:ai) (sp:Sp) (dvs:List V) (E:XK) (f:TE) (t:TA):TE:=λd H Q=>f d H λx c=>∃a e b,x=.ref a/\c a=ab (.ins C e b)/\b.lookup m=ae /\
 t d c λvs g=>sp (x::(vs++dvs)) g Q E
def U6 (C:am) (sp:Sp) (dvs:List V) (E:XK) (t:TA):TE:=λd H Q=>t d H λvs b=>∀x a,b x=ae->b a=ae->a≠x ->
 sp (.ref x::(vs++dvs)) (upd (upd b a (.own x)) x (.ins C a [])) (λv c=>v=.non/\Q (.ref x) c) E
def Binds (K:a8) (b:dk) (ps:List ai) (a:List av):Prop :=
 ∀(s:aI) (us:List av),K.In s.heap->(us++a).length=ps.length->oj s b ⟨us,[]⟩ (ps.zip (us++a))
theorem Binds.all {K:a8} (h:∀us:List av,us.length=ps.length->cy b ⟨us,[]⟩=a5 (ps.zip us)):Binds K b ps []:=λs us _ a=>by
 rw[P_] at a |-;exact .of_eq (h us a)
def kj (CX:CXT) (X:Cx) (E:XK):Prop:=∀(a:List (am × dL)) (b:St) (H:Hp) (s:aI) (e:av) (s':aI),Inv X a b H s->CX X.stack H s E e s'->X.xe e s'
section
variable {X:Cx}{CX:CXT}{p pos apos:ka}
theorem CZ {c:St} (F:adq X.prog X.w X.K X.mg X.base CX k f fd ps sp) (j:mX k X.A) (m:Binds X.K fd ps ds) (g:Vals dvs ds) (i:kj CX X E) (I:Inv X a c H s) (r:Vals vs us) (h:sp (vs++dvs) H Q E):aE (ay X.prog X.w) X.A (oI (.ref f) us) (EP X a c Q) X.xe s:=by
 have d:Vals (vs++dvs) (us++ds):=r.append g;have l:(us++ds).length=ps.length:=by rw[<- d.length];exact F.len _ _ _ _ h
 refine rc (abH (F.run X.A X.stack s H ⟨us,[]⟩ (us++ds) (vs++dvs) Q E j I.env0 (m s us I.kIn l) d h) λr s' b=>?_);cases r with
 |error e=>exact i a c H s e s' I b
 |ok n =>
 cases n with
 |ret u=>exact I.after b
 |next=>exact cx b
 |brk=>exact cx b
 |cont=>exact cx b
theorem Iw (F:adq X.prog X.w X.K X.mg X.base CX k f fd ps sp) (u:mX k X.A) (j:Gl X x) (l:X.mg x=ab (.ref f)) (y:jv X.K (.ref f)=ag) (v:Binds X.K fd ps ds) (i:Vals dvs ds) (n:kj CX X E)
  (m:PA X (e::es) t) (c:(x==("__debug__":ai))=ah:=by decide) (o:ax (e::es) X.env=(ah,br e X.env)::ax es X.env:=by rfl) (b:(bt pos (ax es X.env)).any (·.1)=ah:=by rfl) :
  PE X (.Call (.Name x p) (e::es) [] pos) (U4 sp dvs E t):=by
 intro a s g H Q I h;refine ZZ (yF I j l ?_ c);refine mE (h₀:=X.base) I.ok.mod.kin y (My (m pos a s g H _ I h) λus z ⟨vs,B,d,r,q⟩=>⟨d.kIn,?_⟩) o b;exact CZ F u v i n d r q
theorem Iz {pl:k0 Bool}(M:PE X o ta) (c:Cls X.K C) (n:Meth X.K C m f) (F:adq X.prog X.w X.K X.mg X.base CX k f fd ps sp) (D:mX k X.A) (N:Binds X.K fd ps ds) (v:Vals dvs ds) (L:kj CX X E) (B:PA X (e::es) t)
  (d:ax (e::es) X.env=(ah,br e X.env)::ax es X.env:=by rfl) (g:(bt pos (ax es X.env)).any (·.1)=ah:=by rfl)
  (z:br (.Call (.Attribute o m apos) (e::es) [] pos) X.env=(do
   let ov <- br o X.env
   ny apos.atName
   let (f,first) <- fg [ov] (oB ov m pl)
   callWith pos f first (bt pos (ax (e::es) X.env)) (nN pos (hP [] X.env))):=by rfl) :
  PE X (.Call (.Attribute o m apos) (e::es) [] pos) (U5 C m sp dvs E ta t):=by
 intro b s j H Q I h;refine PySem.W.methodCall_KW (pl:=pl) (My (M b s j H _ I h) λu R ⟨x,P,i,y,a,U,V,G,J,l,q⟩=>?_) z;subst G;obtain rfl:u=bg a:=y;refine wJ i J c n l ?_;refine mE (first:=[.ref a]) (h₀:=X.base) I.ok.mod.kin n.kp (My (B pos b R j P _ i q) λus S ⟨vs,T,p,r,O⟩=>⟨p.kIn,?_⟩) d g;exact CZ (us:=.ref a::us) (vs:=.ref a::vs) F D N v L p (.cons rfl r) O
structure Mk (K:a8) (C f:am):Prop where
 makes:makesIn K C=ag
 init:f8 K (.ref C) "__init__"=ab (ab (.ref f))
 fn:isFn K (.ref f)=ag
 kp:jv K (.ref C)=ag
theorem Dd {d:St} (M:Mk X.K C f) (F:adq X.prog X.w X.K X.mg X.base CX k f fd ps sp) (p:mX (k+1) X.A) (y:Binds X.K fd ps ds) (l:Vals dvs ds) (o:kj CX X E) (I:Inv X b d H s) (r:Vals vs us) (h:∀x dx,H x=ae->H dx=ae->dx≠x->sp (.ref x::(vs++dvs)) (upd (upd H dx (.own x)) x (.ins C dx [])) (λv H2=>v=.non/\Q (.ref x) H2) E):
  aE (ay X.prog X.w) X.A (oI (.ref C) us) (EP X b d Q) X.xe s:=by
 have i:=h (s.heap.objs.size+1) s.heap.objs.size (I.hok.fresh (h6 _)) (I.hok.fresh (m_ _)) (Zk (aa5 _));have c:=Inv.made (C:=C) I;have g:Vals (V.ref (s.heap.objs.size+1)::(vs++dvs)) (bg (s.heap.objs.size+1)::(us++ds)):=.cons rfl (r.append l);have q:(bg (s.heap.objs.size+1)::us++ds).length=ps.length:=by have e:=g.length;rw[F.len _ _ _ _ i] at e;exact e.symm
 refine rc (CW (f:=f) I.kIn M.makes M.init (aa0.mp M.fn) (abH (F.run _ X.stack _ _ ⟨bg (s.heap.objs.size+1)::us,[]⟩ (bg (s.heap.objs.size+1)::(us++ds)) _ _ E (p.make C us [])
  (c.env0.make C us []) (y _ (bg (s.heap.objs.size+1)::us) c.kIn q) g i) λr s' a=>?_))
 cases r with
 |error e=>exact o b d _ _ e s' c a
 |ok t =>
 cases t with
 |ret u=>obtain⟨v,H',n,z,j,m⟩:=c.after a;subst j;exact⟨z,⟨V.ref (s.heap.objs.size+1),H',n,rfl,m⟩⟩
 |next=>exact cx a
 |brk=>exact cx a
 |cont=>exact cx a
theorem IK (M:Mk X.K C f) (F:adq X.prog X.w X.K X.mg X.base CX k f fd ps sp) (u:mX (k+1) X.A) (j:Gl X x) (l:X.mg x=ab (.ref C)) (v:Binds X.K fd ps ds) (i:Vals dvs ds) (n:kj CX X E)
  (m:PA X (e::es) t) (c:(x==("__debug__":ai))=ah:=by decide) (o:ax (e::es) X.env=(ah,br e X.env)::ax es X.env:=by rfl) (b:(bt pos (ax es X.env)).any (·.1)=ah:=by rfl) :
  PE X (.Call (.Name x p) (e::es) [] pos) (U6 C sp dvs E t):=by
 intro a s g H Q I h;refine ZZ (yF I j l ?_ c);refine mE (h₀:=X.base) I.ok.mod.kin M.kp (My (m pos a s g H _ I h) λus z ⟨vs,y,d,r,q⟩=>⟨d.kIn,?_⟩) o b;exact Dd M F u v i n d r q
end
structure eG (N P:List ai) (sc:Scope):Prop where
 kind:sc.kind=.function
 co:sc.isCoroutine=ah
 gen:sc.isGenerator=ah
 nd:N.Nodup
 pre:N.take P.length=P
 par:∀x∈P,sc.names.lookup x=ab .local\/sc.names.lookup x=ab .cell
 nofree:∀y∈sc.names,y.2≠.free
theorem p7:∀{a:List (ai × av)}{m:ai->Option av},(∀v,(x,v)∉a)->r3 b a m x=m x
 |[],_,_=>rfl
 | (n,v)::r,m,h=>by
  unfold r3
  rw[p7 λw c=>h w (u_ _ c)]
  split
  ·
   have:x≠n:=by rintro rfl;exact h v k_
   simp [this]
  ·
   rfl
theorem p8:∀{a:List (ai × av)}{m:ai->Option av},(∀v,(x,v)∉a)->r6 b a m x=m x
 |[],_,_=>rfl
 | (n,v)::r,m,h=>by
  unfold r6
  rw[p8 λw c=>h w (u_ _ c)]
  split
  ·
   rfl
  ·
   have:x≠n:=by rintro rfl;exact h v k_
   simp [this]
theorem qb:∀{P:List ai}{vs:List av}{i:Nat}{m:ai->Option av},P.Nodup->P[i]?=ab x->vs[i]?=ab v->a x=ab .local ->
  r3 a (P.zip vs) m x=ab v
 |[],_,_,_,_,h,_,_=>by simp at h
 |_::_,[],_,_,_,_,h,_=>by simp at h
 |p::P,w::vs,0,m,nd,h1,h2,hk=>by
  simp at h1 h2;subst h1;subst h2
  show r3 a ((p,w)::P.zip vs) m p=_
  unfold r3
  rw[p7 λv b=>(ZV.mp nd).1 (kt b).1,aca hk]
  simp
 |p::P,w::vs,i+1,m,nd,h1,h2,hk=>by
  show r3 a ((p,w)::P.zip vs) m x=_
  unfold r3
  exact qb (i:=i) (ZV.mp nd).2 (by simpa using h1) (by simpa using h2) hk
theorem qd:∀{P:List ai}{vs:List av}{i:Nat}{m:ai->Option av},P.Nodup->P[i]?=ab x->vs[i]?=ab v->a x≠ab .local ->
  r6 a (P.zip vs) m x=ab v
 |[],_,_,_,_,h,_,_=>by simp at h
 |_::_,[],_,_,_,_,h,_=>by simp at h
 |p::P,w::vs,0,m,nd,h1,h2,hk=>by
  simp at h1 h2;subst h1;subst h2
  show r6 a ((p,w)::P.zip vs) m p=_
  unfold r6
  rw[p8 λv b=>(ZV.mp nd).1 (kt b).1,ace hk]
  simp
 |p::P,w::vs,i+1,m,nd,h1,h2,hk=>by
  show r6 a ((p,w)::P.zip vs) m x=_
  unfold r6
  exact qd (i:=i) (ZV.mp nd).2 (by simpa using h1) (by simpa using h2) hk
def start (N:List ai) (vs:List V):St:=vs.map ab++a4 (N.length - vs.length) ae
def wN (CX:CXT) (P:bE) (w:bS) (K:a8) (mg:ai->Option av) (base:cv) (N:List ai) (a:ai) (scope:Scope) (f:am) (c:av) (A:eB) (outer:List t5) (s:aI) (H:Hp) (E:XK):Cx where
 prog:=P
 w:=w
 K:=K
 mg:=mg
 base:=base
 A:=A.deeper (iq a scope s.heap.objs.size f c)
 N:=N
 s₀:=s
 H₀:=H
 env:=iq a scope s.heap.objs.size f c
 outer:=outer
 stack:=iq a scope s.heap.objs.size f c::outer
 ex:=[]
 calm:=ag
 fn:=λ_=>ag
 pn:=[]
 xe:=λe s'=>aE (ay P w) (A.deeper (iq a scope s.heap.objs.size f c)) (leaving (iq a scope s.heap.objs.size f c) e) (λ_ b=>CX outer H s E e b) (λd b=>CX outer H s E d b) s'
theorem jK {a:Scope} (h:a.names.lookup x=ab .cell):∃c,(ba n a.names []).lookup x=ab c:=by
 have q:=kT a.names n [] (.inl h);exact abK.mp q
theorem Bj {K:a8} (S:eG N ps scope) (M:A.handled=ae) (l:adR P w K G base A d s H) (U:vs.length=ps.length) (r:Vals vs us) (x:InCallC s s.heap.objs.size (r3 (iq g scope s.heap.objs.size f F).kindOf (ps.zip us) λ_=>ae) (ba (s.heap.objs.size+1) scope.names []) (r6 (iq g scope s.heap.objs.size f F).kindOf (ps.zip us) λ_=>ae) L):
  Inv (wN CX P w K G base N g scope f F A d s H E) [] (start N vs) H L:=by
 have R:ps.length<=N.length:=by have:=T_ aT S.pre;rw[Zm] at this;omega
 obtain⟨C,tk,rfl,J⟩:=x.done;have o:∀b:am,b∉(wN CX P w K G base N g scope f F A d s H E).ex:=λb z=>ach (show b∈([]:List am) from z) adE;refine⟨⟨l.mod,S.kind,rfl,rfl,m_ _,λy z c C j=>?_,λy m=>?_,λy c _ h=>?_,λ_=>M,Around.frames_deeper l.frames,.inr ⟨rfl,rfl⟩,λb z=>ach z (o b),l.bs,l.bsz,λb _ _=>o b,λb z=>ach z (o b),l.funs,l.frf⟩,
  rfl,l.bare,Un.kept J,⟨_,x.toInCall.ns,λi y v C j T=>?_⟩,λy c h=>⟨_,x.cell y c h⟩,l.hok.fresh (m_ _),λy c h=>?_,λp t=>ach (show p∈([]:List (am × dL)) from t) adE,l.hok.kept J,?_⟩
 .exact name_of_addr x.apart (mem_of_lookup C) (mem_of_lookup j)
 .have m:scope.names.lookup y=ab .cell\/scope.names.lookup y=ab .free:=m;rcases m with m | m
  .exact jK m
  exact ach rfl (S.nofree _ (mem_of_lookup m))
 .exact aai (x.above y c (mem_of_lookup h))
 .have D:i<vs.length:=by
   unfold start at j;by_cases D:i<vs.length
   .exact D
   rw[H_ (by simpa using D)] at j;rw[aa6] at j;split at j <;> cases j
  have Q:vs[i]?=ab v:=by
   unfold start at j;rw[Y_ (by simpa using D),J_] at j;cases e:vs[i]? with
   |none=>rw[e] at j;cases j
   |some a=>rw[e] at j;cases j;rfl
  obtain⟨u,I,O⟩:=r.get Q;have t:ps[i]?=ab y:=by rw[<- S.pre,List.getElem?_take_of_lt adC];exact C
  have B:ps.Nodup:=by rw[<- S.pre];exact S.nd.sublist (h7 _ _)
  refine⟨u,O,?_⟩;rcases S.par y (ZC t) with k | k
  .exact .inl ⟨k,qb B t I k⟩
  obtain⟨c,e⟩:=jK (n:=s.heap.objs.size+1) k;refine .inr ⟨.inl k,c,e,?_⟩;have q:=x.cell y c e;rw[qd B t I (by show scope.names.lookup y≠_;rw[k];decide)] at q;exact q
 .exact l.hok.fresh (aai (x.above y c (mem_of_lookup h)))
 unfold start;show _=N.length;rw[a_,b_,abq];omega
theorem U7 {K:a8}{dV kV z Z d T oc:av} (lk:K.lookup f=ab ⟨oc,od,.func (mx name c g h scope dV kV z Z U d T),M⟩) (R:oC K d c=ag) (S:eG N ps scope) (p:∀vs H Q E,sp vs H Q E->vs.length=ps.length) (l:∀(A:eB) (a:List t5) (s:aI) (H:Hp) (vs:List V) (Q:VK) (E:XK),mX k (A.deeper (iq c scope s.heap.objs.size f d))->sp vs H Q E ->
   ∃t,PSs (wN CX P w K F base N c scope f d A a s H E) h t/\t { nx:=λ_ H'=>Q .non H',rt:=Q} (start N vs) H):
  adq P w K F base CX (k+1) f (mx name c g h scope dV kV z Z U d T) ps sp:=by
 refine⟨p,λA a s H Y us vs Q E O C hb r D=>?_⟩;have hl:=p _ _ _ _ D;have X:K.In s.heap:=C.mod.kin.keeps λb o e=>(C.bs b o e).1;have G:s.heap.NoLimit:=C.mod.nolimit.keeps λb o e=>(C.bs b o e).1;have j:∀y∈ps.zip us,scope.names.lookup y.1=ab .local\/(scope.names.lookup y.1=ab .cell/\((ba (s.heap.objs.size+1) scope.names []).lookup y.1).isSome=ag):=λ⟨n,v⟩ hy=>by
  rcases S.par n (kt hy).1 with q | q
  .exact .inl q
  exact .inr ⟨q,kT _ _ _ (.inl q)⟩
 refine codeAny_call_function O.depth (X _ _ lk) rfl S.co S.gen rfl (PySem.W.codeRec_of X R) (hb _ _ _ _ ?_);refine wpAny_newFunctionEnv_cells S.kind j λenv he s1 x=>?_;subst he;refine⟨G.keeps x.toInCall.keep,codeAny_func ?_⟩;obtain⟨t,ht,hq⟩:=l A a s H vs Q E (O.deeper _) D;have I:Inv (wN CX P w K F base N c scope f d A a s H E) [] (start N vs) H s1:=Bj S O.hd C hl r x;refine aad (ht [] s1 (start N vs) H _ I hq) (λfl s' m=>?_) λe s' m=>m;have B:∀{i:St} {H':Hp} {v:V} {u:av},Inv (wN CX P w K F base N c scope f d A a s H E) [] i H' s'->RelV v u->Q v H'->CE a P w H s Q u s' :=
  λ{i H' v u} J L q=>⟨v,H',J.os,J.bare,J.base,J.hok,L,q⟩
 cases fl with
 |ret u=>obtain⟨v,i,H',J,L,q⟩:=m;exact B J L q
 |next=>obtain⟨i,H',J,q⟩:=m;exact B (v:=V.non) (u:=d3) J rfl q
 |brk=>obtain⟨_,_,_,q⟩:=m;exact cx q
 |cont =>
 obtain⟨_,_,_,q⟩:=m;exact cx q
section
variable {p pos:ka}{id T:String}
def tCB (r:List V->Hp->VK->Prop) (t:TA):TE:=λb H Q=>t b H λvs a=>r vs a Q
theorem De (u:acj X (.builtin id) r) (g:Gl X x) (j:X.mg x=ae) (k:bb x=ab (.builtin id)) (l:PA X (e::es) t) (m:x≠"__name__":=by decide) (c:(x==("__debug__":ai))=ah:=by decide)
  (n:ax (e::es) X.env=(ah,br e X.env)::ax es X.env:=by rfl) (b:(bt pos (ax es X.env)).any (·.1)=ah:=by rfl):PE X (.Call (.Name x p) (e::es) [] pos) (tCB r t):=by
 intro a s d H Q I h;refine ZZ (eQ I g j k ?_ m c);exact fe (My (l pos a s d H _ I h) λus v ⟨vs,q,f,o,i⟩=>u a v d q vs us Q f o i) n b
theorem Bk (u:acj X (.type T) r) (g:Gl X x) (j:X.mg x=ae) (k:bb x=ab (.type T)) (l:PA X (e::es) t) (m:x≠"__name__":=by decide) (c:(x==("__debug__":ai))=ah:=by decide)
  (n:ax (e::es) X.env=(ah,br e X.env)::ax es X.env:=by rfl) (b:(bt pos (ax es X.env)).any (·.1)=ah:=by rfl):PE X (.Call (.Name x p) (e::es) [] pos) (tCB r t):=by
 intro a s d H Q I h;refine ZZ (eQ I g j k ?_ m c);exact ZD (My (l pos a s d H _ I h) λus v ⟨vs,q,f,o,i⟩=>u a v d q vs us Q f o i) n b
end
end L2
namespace HT
open PySem PyProof.Rows
section
open PySem.SeqAt
open PySem.AutoSeq1 (wpAny_loadPart')
open PySem.MeetsSeq PySem.MeetsSeq2 PySem.MeetsSeq3
theorem afa (v:vF s.heap t vs.toArray) (x:vF s.heap b ws.toArray) (p:vs≠[]) (u:ws=[]->Q (.ref t) s) (y:ws≠[]->Q (.ref s.heap.objs.size) { s with heap:=s.heap.push { cls:=.type "tuple",data:=.seq (vs++ws).toArray}}) (hsz:vs.length+ws.length<=ap):aE (ay prog w) A (bp .Add (.ref t) (.ref b)) Q E s:=by
 obtain⟨⟨cls,o,data,r⟩,i,q,n,k⟩:=id v;obtain⟨⟨m,c,j,d⟩,a,f,l,g⟩:=id x;simp only at q k f g;subst q k f g;have e:vs.toArray++ws.toArray=(vs++ws).toArray:=adE
 by_cases h:ws=[]
 .exact nL ⟨_,i,rfl⟩ ⟨_,a,rfl⟩ iL mf e5 eT (abL _ _)
   (tuple_addW1 t b vs.toArray ws.toArray n l o c r d (by simpa using p) (by simp [h])) ⟨i,a,u h⟩
 refine nL ⟨_,i,rfl⟩ ⟨_,a,rfl⟩ iL mf e5 eT (abL _ _)
  (tuple_addW2 t b vs.toArray ws.toArray n l o c r d (by simpa using p) (by simpa using h) (by rw[z_,z_];exact hsz)) ⟨i,a,?_⟩
 rw[e];exact y h
def sIx (n d:Nat):Option Int->Nat
 |none=>d
 |some v=>if v<0 then (v+(n:Int)).toNat else min v.toNat n
theorem aeB (n d:Nat):sIx n d ae=d:=rfl
theorem ad1 (n d k:Nat):sIx n d (ab (k:Int))=min k n:=by
 show (if (k:Int)<0 then ((k:Int)+(n:Int)).toNat else min (k:Int).toNat n)=min k n;rw[ace adC,aaw]
theorem Qp (n d:Nat) (b:d<=n) (o:Option Int):sIx n d o<=n:=by
 cases o with
 |none=>exact b
 |some v =>
  show (if v<0 then (v+(n:Int)).toNat else min v.toNat n)<=n
  by_cases a:v<0
  ·
   rw[aca a];omega
  ·
   rw[ace a];exact Nat.min_le_right _ _
theorem yH (v:Int) (n d:Nat):(if v<0 then max (v+(n:Int)) 0 else min v (n:Int))=((sIx n d (ab v):Nat):Int):=by
 show (if v<0 then max (v+(n:Int)) 0 else min v (n:Int))=(((if v<0 then (v+(n:Int)).toNat else min v.toNat n):Nat):Int);by_cases a:v<0
 .simp only[aca a];omega
 simp only[ace a];omega
theorem wO (b a:Option Int) (n:Nat):eu b a 1 (n:Int)=(((sIx n 0 b:Nat):Int),((sIx n n a:Nat):Int)):=by
 have c:¬((1:Int)<0):=adC
 unfold eu;simp only[c,Zj];refine i4 ?_ ?_
 .cases b with
  |none=>rfl
  |some v=>exact yH v n 0
 cases a with
 |none=>rfl
 |some v=>exact yH v n n
theorem wQ (i j:Nat):cS (i:Int) (j:Int) 1=j - i:=by
 unfold cS;have a:(1:Int)>0:=adC
 simp only[a,if_true,Int.ediv_one];split <;> omega
theorem mW (p:nh v o) (h:Q o s):aE (ay prog w) A (Builtin.Slice.slicePartIndex v) Q E s:=by
 cases p with
 |none=>exact rh h
 |int i t=>exact slicePart_int h
theorem km {Q:Int × Int × Nat->aI->Prop} (k:s.heap.IsSliceOf g f e .none) (pl:nh f a) (j:nh e c) (h:Q (((sIx n 0 a:Nat):Int),1,sIx n n c - sIx n 0 a) s):aE (ay prog w) A (gN (.ref g) (a5 (n:Int))) Q E s:=by
 obtain⟨l,b,i,d⟩:=id k;unfold gN Builtin.Slice.sliceFields;refine d_ (d_ (pi b d (x:=f) rfl (d_ (pi b d (x:=e) rfl (d_ (pi b d (x:=.none) rfl (o_ ?_)))))));refine d_ (rh ?_);show aE _ _ (if ((1:Int)==0)=ag then _ else _) _ _ s;rw[ace adD];refine d_ (mW pl (d_ (mW j (d_ (o_ ?_)))));show aE _ _ (match eu a c 1 (n:Int) with | (a,c)=>a5 (a,(1:Int),cS a c 1)) _ _ s;rw[wO a c n];show aE _ _ (a5 (((sIx n 0 a:Nat):Int),(1:Int),cS ((sIx n 0 a:Nat):Int) ((sIx n n c:Nat):Int) 1)) _ _ s;rw[wQ];exact o_ h
theorem Df (xs : Array av) (i k : Nat) : ((af k).filterMap λ(m : Nat) => xs[((i : Int) + (m : Int) * 1).toNat]?).toArray = ((xs.toList.drop i).take k).toArray:=by
 have e:(λ(m:Nat)=>xs[((i:Int)+(m:Int)*1).toNat]?)=λm=>xs[i+m]?:=by
  funext m;have:((i:Int)+(m:Int)*1).toNat=i+m:=by omega
  rw[this]
 rw [e];have:=pick_run xs i k;rw [List.filterMap_map] at this;have a : ((λx => xs[x]?) ∘ λx => i + x) = λm => xs[i + m]?:=rfl;rw [a] at this;rw [this]
theorem ac7 (e:vF s.heap t a) (o:s.heap.IsSliceOf k l n .none) (pl:nh l c) (u:nh n d) (r:¬(sIx a.size 0 c=0/\sIx a.size a.size d=a.size)) (h:Q (.ref s.heap.objs.size) { s with heap:=s.heap.push { cls:=.type "tuple",data:=.seq ((a.toList.drop (sIx a.size 0 c)).take (sIx a.size a.size d - sIx a.size 0 c)).toArray}}) (hsz:a.size<=ap):aE (ay prog w) A (jI (.ref t) (.ref k)) Q E s:=by
 have b:sizeOk (.seq ((a.toList.drop (sIx a.size 0 c)).take (sIx a.size a.size d - sIx a.size 0 c)).toArray):=by show ((a.toList.drop (sIx a.size 0 c)).take (sIx a.size a.size d - sIx a.size 0 c)).toArray.size<=ap;rw[z_,Zm,Zr,K_];omega
 have x:sIx a.size a.size d<=a.size:=Qp _ _ (m_ _) d;obtain⟨p,g,j,v⟩:=id o;have i:s.TypeIs (.ref k) "slice":=⟨p,g,j⟩;unfold jI;try with_reducible refine aau ?_
 first | refine d_ (o_ ?_) | skip
 refine d_ (wpAny_sequenceKey e.typeIs adD ?_);refine d_ (eR (name:=ee "__getitem__") e.typeIs aa1
  (aaN aa1 e.typeIs entry_tuple_getitem ?_ (args_tuple_getitem _ _)))
 show aE _ _ (Builtin.Tuple.tupleItemsOf (.ref t) >>= _) _ _ s;refine d_ (tupleItemsOf_ e ?_);refine d_ (ja i ?_);rw[aca adD];refine d_ (km o pl u ?_);have f:¬((((sIx a.size 0 c:Nat):Int)==0&&(1:Int)==1&&(sIx a.size a.size d - sIx a.size 0 c)==a.size)=ag):=by intro q;rw[Zx,Zx] at q;have y:((sIx a.size 0 c:Nat):Int)=0:=eq_of_beq q.1.1;have z:sIx a.size a.size d - sIx a.size 0 c=a.size:=eq_of_beq q.2;exact r ⟨adC,adC⟩
 show aE _ _ (if (((sIx a.size 0 c:Nat):Int)==0&&(1:Int)==1&&(sIx a.size a.size d - sIx a.size 0 c)==a.size)=ag then _ else _) _ _ s;rw[ace f,Df];first
  |exact d_ (m:=da _) (aan (o_ ⟨_,rfl,o_ h⟩) b)
  |exact d_ (m:=da _) (aan (d_ (o_ (o_ ⟨_,rfl,o_ h⟩))) b)
  |exact d_ (d_ (m:=da _) (aan (o_ (o_ ⟨_,rfl,o_ h⟩)) b))
  |exact d_ (d_ (m:=da _) (aan (o_ ⟨_,rfl,o_ h⟩) b))
end
end HT
namespace L2
abbrev TO:=St->Hp->(Option Int->Hp->Prop)->Prop
def PO (X:Cx) (e:Option Expr) (t:TO):Prop :=
 ∀(a:List (am × dL)) (s:aI) (b:St) (H:Hp) (Q:Option Int->Hp->Prop),Inv X a b H s->t b H Q ->
  aE (ay X.prog X.w) X.A (evalPart e X.env) (λu s'=>∃o H',Inv X a b H' s'/\nh u o/\Q o H') X.xe s
def IV:TO:=λ_ H Q=>Q ae H
def U8 (t:TE):TO:=λb H Q=>t b H λx a=>∃i,x=.int i/\Q (ab i) a
section
variable {lo hi:Option Expr}
theorem IW:PO X ae IV:=by
 intro a s b H Q I h;rw[mh];exact o_ ⟨ae,H,I,.none,h⟩
theorem Ja (h:PE X e te):PO X (ab e) (U8 te):=by
 intro a s c H Q I f;rw[evalPart_some];refine My (h a s c H _ I f) λu k ⟨x,j,b,g,d⟩=>?_;obtain⟨i,rfl,q⟩:=d;obtain⟨t,rfl⟩:=g;exact⟨ab i,j,b,.int i t,q⟩
def SlR (X:Cx) (r:V->Option Int->Option Int->Hp->VK->Prop):Prop :=
 ∀(a:List (am × dL)) (s:aI) (g:St) (H:Hp) (x:V) (v f e:av) (d c:Option Int) (b:am) (Q:VK),Inv X a g H s->RelV x v->s.heap.IsSliceOf b f e .none->nh f d->nh e c->r x d c H Q ->
  ∃T id,ms (.type T) "__getitem__"=a5 (ab (.builtin id))/\s.TypeIs v T/\aE (ay X.prog X.w) X.A (jI v (.ref b)) (EP X a g Q) X.xe s
theorem SlR.or (h:SlR X r) (h':SlR X j):SlR X (λx c b H Q=>r x c b H Q\/j x c b H Q):=by
 intro a s l H x v k d c b f Q I g i pl e q;rcases q with q | q
 .exact h a s l H x v k d c b f Q I g i pl e q
 exact h' a s l H x v k d c b f Q I g i pl e q
def tSl (r:V->Option Int->Option Int->Hp->VK->Prop) (te:TE) (b c:TO):TE:=λa H Q=>te a H λx e=>b a e λl d=>c a d λu H3=>r x l u H3 Q
theorem Dg (p:SlR X r) (E:PE X e te) (G:PO X lo tl) (j:PO X hi th):PE X (.Subscript e (.Slice lo hi ae p2) pos) (tSl r te tl th):=by
 intro a s c H Q I h;refine mM (My (E a s c H _ I h) λv z ⟨x,K,m,y,D⟩=>?_);refine wpAny_Slice (My (G a z c K _ m D) λd g ⟨l,B,F,pl,J⟩=>My (j a g c B _ F J) λf s3 ⟨u,H3,i,n,L⟩=>?_);rw[mh];refine o_ ?_;have t:Inv X a c H3 { s3 with heap:=s3.heap.push { cls:=.type "slice",data:=.fields #[d,f,.none]}}:=i.kept (t':=s3.toks) λb M q=>h_ _ q;obtain⟨T,id,C,k,o⟩:=p a { s3 with heap:=s3.heap.push { cls:=.type "slice",data:=.fields #[d,f,.none]}} c H3 x v d f l u s3.heap.objs.size Q t y (Heap.IsSliceOf.new ..) pl n L;show aE (ay X.prog X.w) X.A (ip e (.Slice lo hi ae p2) v (.ref s3.heap.objs.size)) (EP X a c Q) X.xe { s3 with heap:=s3.heap.push { cls:=.type "slice",data:=.fields #[d,f,.none]}};exact tJ (ops:=[.ref s3.heap.objs.size,v]) k C o (by with_unfolding_all rfl)
def ue (xs:List V) (a b:Option Int):List V:=(xs.drop (HT.sIx xs.length 0 a)).take (HT.sIx xs.length xs.length b - HT.sIx xs.length 0 a)
theorem lE (xs:List V) (b a:Option Int):(ue xs b a).length<=xs.length:=by
 unfold ue;rw[Zm,Zr];omega
def Yv (K:a8):V->Option Int->Option Int->Hp->VK->Prop:=λx c b H Q=>∃a xs,x=.ref a/\SqT K H a xs /\
 ¬(HT.sIx xs.length 0 c=0/\HT.sIx xs.length xs.length b=xs.length)/\∀p,H p=ae->Q (.ref p) (upd H p (.tup (ue xs c b)))
theorem afK:SlR X (Yv X.K):=by
 intro i s y H x v w t d e u Q I k n pl j h;obtain⟨a,xs,rfl,l,m,q⟩:=h;cases k;obtain⟨f,r,g,hz⟩:=I.tuple l;have c:f.toArray.size=xs.length:=by rw[z_];exact r.length.symm
 refine⟨"tuple",_,aa1.lookup,g.typeIs,?_⟩;refine HT.ac7 g n pl j (by rw[c];exact m) ?_ (by rw[c];exact hz);rw[c];refine⟨.ref s.heap.objs.size,_,I.laid (t':=s.toks) (o:=.tup (ue xs d e)) (λb p q=>h_ _ q) (m_ _) ?_,rfl,q _ (I.hok.fresh (m_ _))⟩;exact⟨W_ (lE xs d e) hz,_,(r.drop (HT.sIx xs.length 0 d)).take (HT.sIx xs.length xs.length e - HT.sIx xs.length 0 d),adA.new _ _⟩
def U9 (K:a8):R2:=λx y H Q=>∃a b xs c,x=.ref a/\y=.ref b/\SqT K H a xs/\SqT K H b c/\xs≠[]/\xs.length+c.length<=ap /\
 (c=[]->Q (.ref a) H)/\(c≠[]->∀p,H p=ae->Q (.ref p) (upd H p (.tup (xs++c))))
theorem Vals.nil_iff (r:Vals xs us):us=[]↔xs=[]:=by
 cases r with
 |nil=>simp
 |cons _ _=>simp
theorem ae3:OpR X (bp .Add) (U9 X.K):=by
 intro e s C H x y v u Q I j n h;obtain⟨a,b,xs,p,rfl,rfl,k,r,l,hz,i,t⟩:=h;cases j;cases n;obtain⟨m,d,A,_⟩:=I.tuple k;obtain⟨f,c,g,_⟩:=I.tuple r;refine HT.afa A g (λz=>l (d.nil_iff.mp z)) (λz=>⟨.ref a,H,I,rfl,i (c.nil_iff.mp z)⟩) (λz=>?_) (by rw[<- d.length,<- c.length];exact hz);refine⟨.ref s.heap.objs.size,_,I.laid (t':=s.toks) (o:=.tup (xs++p)) (λb B q=>h_ _ q) (m_ _) ?_,rfl,t (λw=>z (c.nil_iff.mpr w)) _ (I.hok.fresh (m_ _))⟩;exact⟨by rw[a_];exact hz,_,d.append c,adA.new _ _⟩
end
def ixN (n:Nat) (i:Int):Option Nat:=if 0<=i then (if i<n then ab i.toNat else ae) else if -(n:Int)<=i then ab (i+n).toNat else ae
def atI {a:Type}(xs:List a) (i:Int):Option a:=(ixN xs.length i).bind λj=>xs[j]?
theorem qX (h:ixN n i=ab j):sP i n=ab j/\j<n /\ -(n:Int)<=i/\i<n:=by
 unfold ixN at h;by_cases b:0<=i
 .rw[aca b] at h;by_cases a:i<n
  .rw[aca a] at h;have e:i.toNat=j:=Zg h;exact⟨by rw[pE b a,e],adC,adC,a⟩
  rw[ace a] at h;cases h
 rw[ace b] at h;by_cases a : -(n:Int)<=i
 .rw[aca a] at h;have e:(i+n).toNat=j:=Zg h;exact⟨by rw[nz adC a,e],adC,a,adC⟩
 rw[ace a] at h;cases h
theorem qY {xs:List a}{v:a} (h:atI xs i=ab v):∃j,sP i xs.length=ab j/\xs[j]?=ab v/\j<xs.length /\ -(xs.length:Int)<=i/\i<xs.length:=by
 unfold atI at h;cases e:ixN xs.length i with
 |none=>rw[e] at h;cases h
 |some j =>
 rw[e] at h;obtain⟨c,f,d,b⟩:=qX e;exact⟨j,c,h,f,d,b⟩
theorem bM {xs:List a}{j:Nat}{v:a} (h:xs[j]?=ab v):atI xs (j:Int)=ab v:=by
 have b:j<xs.length:=(Z2.mp h).1;have e:ixN xs.length (j:Int)=ab j:=by unfold ixN;rw[aca adC,aca adC];simp
 unfold atI;rw[e];exact h
theorem uf (xs:List a) (v:a):atI (xs++[v]) (-1)=ab v:=by
 have b:(xs++[v]).length=xs.length+1:=adE
 have e:ixN (xs++[v]).length (-1)=ab xs.length:=by unfold ixN;rw[b,ace adD,aca adC];congr 1;omega
 unfold atI;rw[e];show (xs++[v])[xs.length]?=ab v;simp
def yI (b:Expr):Prop:=∀o i,kG b ah o i=operate [o,i] (jI o i)
def IxR (X:Cx) (r:R2):Prop :=
 ∀(c a:Expr) (b:List (am × dL)) (s:aI) (d:St) (H:Hp) (x y:V) (v u:av) (Q:VK),Inv X b d H s->RelV x v->RelV y u->r x y H Q ->
  kG a ah v u=operate [v,u] (jI v u)->aE (ay X.prog X.w) X.A (ip c a v u) (EP X b d Q) X.xe s
def MtR (X:Cx) (id:String) (r:V->List V->Hp->VK->Prop):Prop :=
 ∀(a:List (am × dL)) (s:aI) (b:St) (H:Hp) (x:V) (xs:List V) (v:av) (us:List av) (Q:VK),Inv X a b H s->RelV x v->Vals xs us->r x xs H Q ->
  aE (ay X.prog X.w) X.A (oI (.builtin id) (v::us)) (EP X a b Q) X.xe s
section
variable {X:Cx}{a b:Expr}
theorem IxR.or (h:IxR X r) (h':IxR X g):IxR X (λx y H Q=>r x y H Q\/g x y H Q):=by
 intro b a c s i H x y v u Q I d e q f;rcases q with q | q
 .exact h b a c s i H x y v u Q I d e q f
 exact h' b a c s i H x y v u Q I d e q f
theorem Va (g:IxR X r) (f:PE X a ta) (i:PE X b tb) (j:yI b):PE X (.Subscript a b pos) (tOp r ta tb):=by
 intro c s n H Q I h;exact mM (P0 f i I h λv u e x y m l d k q=>g a b c e n m x y v u Q l d k q (j _ _))
def Vb (K:a8):R2:=λx y H Q=>∃p xs i v,x=.ref p/\y=.int i/\SqL K H p xs/\atI xs i=ab v/\Q v H
def Vc (K:a8):R2:=λx y H Q=>∃p xs i v,x=.ref p/\y=.int i/\SqT K H p xs/\atI xs i=ab v/\Q v H
def Vd:R2:=λx y H Q=>∃z i c,x=.str z/\y=.int i/\z.length<=ap/\atI z.cps.toList i=ab c/\Q (.str ⟨#[c]⟩) H
theorem afc:IxR X (Vb X.K):=by
 intro k f a s m H x y v u Q I B E h o;obtain⟨p,xs,i,z,rfl,rfl,D,G,q⟩:=h;cases B;obtain⟨t,rfl⟩:=E;obtain⟨g,r,pl,hz⟩:=I.list D;obtain⟨j,c,J,L,A,F⟩:=qY G;obtain⟨w,l,e⟩:=r.get J;have C:=r.length;have M:=jr;have b:EP X a m Q w s:=⟨z,H,I,e,q⟩;by_cases n:0<=i
 .have d:i.toNat=j:=by rw[pE n F] at c;exact Zg c
  exact item_listR pl.isList n adC (by rw[d];simpa using l) b o
 have d:(i+(g.toArray.size:Int)).toNat=j:=by rw[nz adC A] at c;rw[z_,<- C];exact Zg c
 exact jp (x:=w) pl.isList.typeIs slot_list_getitem.lookup
  (wpAny_getItem_list_neg (Q:=λr s'=>r=w/\EP X a m Q r s') pl.isList adC (by rw[z_] <;> omega) adC (by rw[d];simpa using l) ⟨rfl,b⟩) o
theorem afQ:IxR X (Vc X.K):=by
 intro e d a s f H x y v u Q I k o h C;obtain⟨p,xs,i,z,rfl,rfl,n,B,q⟩:=h;cases k;obtain⟨t,rfl⟩:=o;obtain⟨A,r,pl,hz⟩:=I.tuple n;obtain⟨j,g,D,F,E,J⟩:=qY B;obtain⟨w,m,c⟩:=r.get D;have l:=r.length;have G:=jr;have b:EP X a f Q w s:=⟨z,H,I,c,q⟩;exact jp (x:=w) pl.typeIs slot_tuple_getitem.lookup
  (getItem_tuple (j:=j) (Q:=λr s'=>r=w/\EP X a f Q r s') pl adC adC (by rw[z_,<- l];exact g) (by simpa using m) ⟨rfl,b⟩) C
theorem Qq:IxR X Vd:=by
 intro b a d s C H x y v u Q I k n h m;obtain⟨z,i,c,rfl,rfl,hz,l,q⟩:=h;obtain⟨t,rfl⟩:=k;obtain⟨t',rfl⟩:=n;obtain⟨j,e,o,B,f,r⟩:=qY l;have p:z.cps.toList.length=z.length:=by simp [Str.length]
 rw[p] at e f r;have A:=jr;exact tJ (re s z t) slot_str_getitem.lookup (getItem_str (c:=c) (by
  have w:decide (i < -(2^63:Int))=ah:=x_ adC
  have g:decide (i ≥ 2^63)=ah:=x_ adC
  rw[w,g,mn]) (by rw[e];simpa using o) ⟨.str ⟨#[c]⟩,H,I.tok _,⟨_,rfl⟩,q⟩) m
def rIx (K:a8):R2:=λx y H Q=>Vb K x y H Q\/Vc K x y H Q\/Vd x y H Q
theorem Qs:IxR X (rIx X.K):=afc.or (afQ.or Qq)
theorem wR (a:List av) (n j:Nat) (u:av):cn (·.setIfInBounds j u) { cls:=.type "list",data:=.seq a.toArray n}={ cls:=.type "list",data:=.seq (a.set j u).toArray n}:=by
 simp [cn]
theorem Inv.lst {b:List (am × dL)}{c:St}{H:Hp}{s:aI}{p:am}{xs:List V}(I:Inv X b c H s) (h:H p=ab (.lst xs)) :
  ∃(a:List av) (n:Nat),Vals xs a/\s.heap.get? p=ab { cls:=.type "list",data:=.seq a.toArray n}/\xs.length<=ap:=by
 obtain⟨z,a,n,r,e⟩:=I.hok p _ h;exact⟨a,n,r,e,z⟩
theorem Inv.lstUpd {a:List (am × dL)}{j:St}{c its':List av} (I:Inv X a j H s) (h:H p=ab (.lst xs)) (k:s.heap.get? p=ab { cls:=.type "list",data:=.seq c.toArray n}) (i:f { cls:=.type "list",data:=.seq c.toArray n}={ cls:=.type "list",data:=.seq its'.toArray d}) (r:Vals g its') (hz:g.length<=ap) (t:Nat):
  Inv X a j (upd H p (.lst g)) { s with heap:=s.heap.update p f,toks:=t}:=by
 have e:(s.heap.update p f).get? p=ab { cls:=.type "list",data:=.seq its'.toArray d}:=by rw[aaE f k (by rw[i] <;> rfl),i]
 refine I.write (x:=p) (e:=p) (by rw[h];trivial) (.inl rfl) (λb u l q=>(aax _ _ (a6 l)).trans q) ⟨_,e⟩ ?_;exact⟨hz,its',d,r,e⟩
def Ve:V->V->V->Hp->(Hp->Prop)->Prop:=λo i v H Q=>∃p xs k j,o=.ref p/\i=.int k/\H p=ab (.lst xs)/\ixN xs.length k=ab j/\Q (upd H p (.lst (xs.set j v)))
theorem set_list:adQ X Ve:=by
 intro a s B H o i v D G u Q I z C y h;obtain⟨p,xs,k,j,rfl,rfl,l,A,q⟩:=h;cases z;obtain⟨t,rfl⟩:=C;obtain⟨b,n,r,d,hz⟩:=I.lst l;obtain⟨c,F,m,g⟩:=qX A;have f:=r.length;have E:=jr;have w:Inv X a B (upd H p (.lst (xs.set j v))) { s with heap:=s.heap.update p (cn (·.setIfInBounds j u))} :=
  I.lstUpd l d (wR b n j u) (r.set y j) (by rw[qk];exact hz) s.toks
 by_cases x:0<=k
 .have e:k.toNat=j:=by rw[pE x g] at c;exact Zg c
  exact PySem.W.ki_setAt d x adC (by rw[z_,<- f];exact g) (by rw[e];exact⟨_,w,q⟩)
 have e:(k+(b.toArray.size:Int)).toNat=j:=by rw[nz adC m] at c;rw[z_,<- f];exact Zg c
 exact PySem.W.ki_setBack d adC (by rw[z_,<- f];exact m) adC (by rw[e];exact⟨_,w,q⟩)
theorem qZ (b a:Option Int) (n:Nat):(eS b a ae n).1=((HT.sIx n 0 b:Nat):Int)/\(eS b a ae n).2.1=((HT.sIx n n a:Nat):Int)/\(eS b a ae n).2.2=1:=by
 refine⟨?_,?_,rfl⟩
 .cases b with
  |none=>simp [eS,HT.sIx]
  |some i =>
  simp only[eS,HT.sIx,i5,show (1:Int)>0 by decide,if_true];by_cases h:i<0
  .simp only[h,if_true] <;> omega
  simp only[h,Zj] <;> omega
 cases a with
 |none=>simp [eS,HT.sIx]
 |some i =>
 simp only[eS,HT.sIx,i5,show (1:Int)>0 by decide,if_true];by_cases h:i<0
 .simp only[h,if_true] <;> omega
 simp only[h,Zj] <;> omega
theorem pF (a:List av) (b c:Option Int):slicePick a.toArray b c ae=((a.drop (HT.sIx a.length 0 b)).take (HT.sIx a.length a.length c - HT.sIx a.length 0 b)).toArray:=by
 obtain⟨d,f,e⟩:=qZ b c a.toArray.size;unfold slicePick;rw[d,f,e];simp only[sliceRange_one,pick_run,z_] <;> rfl
def Yw (K:a8):V->Option Int->Option Int->Hp->VK->Prop:=λx c b H Q=>∃a xs,x=.ref a/\SqL K H a xs/\∀p,H p=ae->Q (.ref p) (upd H p (.lst (ue xs c b)))
theorem ae5:SlR X (Yw X.K):=by
 intro g s w H x v u p d e t Q I j m pl i h;obtain⟨a,xs,rfl,k,q⟩:=h;cases j;obtain⟨l,r,f,hz⟩:=I.list k;have c:=r.length;refine⟨"list",_,slot_list_getitem.lookup,f.isList.typeIs,?_⟩;refine im f.isList m pl i .none adE ?_ (by rw[z_] <;> omega);rw[pF,<- c];refine⟨.ref s.heap.objs.size,_,I.laid (t':=s.toks) (o:=.lst (ue xs d e)) (λb n q=>h_ _ q) (m_ _) ?_,rfl,q _ (I.hok.fresh (m_ _))⟩;exact⟨W_ (lE xs d e) hz,_,0,(r.drop (HT.sIx xs.length 0 d)).take (HT.sIx xs.length xs.length e - HT.sIx xs.length 0 d),G_ _ rfl⟩
theorem ady:acj X (.builtin "len") (λxs H Q=>∃p b,xs=[.ref p]/\(SqL X.K H p b\/SqT X.K H p b)/\Q (.int b.length) H):=by
 intro f s j H xs us Q I r h;obtain⟨p,b,rfl,c,q⟩:=h;obtain⟨u,rfl,g⟩:=vals1 r;cases g;have i:=jr;rcases c with c | c
 .obtain⟨d,e,pl,hz⟩:=I.list c;have a:=e.length;exact Calls.call_len_list pl.isList (by simp only[z_] <;> omega) ⟨.int b.length,H,I.tok _,⟨s.toks+1,by rw[z_,a]⟩,q⟩
 obtain⟨d,e,pl,hz⟩:=I.tuple c;have a:=e.length;exact len_tuple pl (by simp only[z_] <;> omega) ⟨.int b.length,H,I.tok _,⟨s.toks+1,by rw[z_,a]⟩,q⟩
theorem q8:acj X (.builtin "len") (λxs H Q=>∃z,xs=[.str z]/\z.length<=ap/\Q (.int z.length) H):=by
 intro a s c H xs us Q I r h;obtain⟨z,rfl,hz,q⟩:=h;obtain⟨u,rfl,t,rfl⟩:=vals1 r;have b:=jr;exact len_str adC ⟨.int z.length,H,I.tok _,⟨_,rfl⟩,q⟩
theorem acj.or {r b:List V->Hp->VK->Prop} (h:acj X f r) (h':acj X f b):acj X f (λxs H Q=>r xs H Q\/b xs H Q):=by
 intro a s d H xs us Q I c q;rcases q with q | q
 .exact h a s d H xs us Q I c q
 exact h' a s d H xs us Q I c q
theorem q9:acj X (.type "list") (λxs H Q=>∃p d,xs=[.ref p]/\(SqL X.K H p d\/SqT X.K H p d)/\∀l,H l=ae->Q (.ref l) (upd H l (.lst d))):=by
 intro g s z H xs us Q I r h;obtain⟨p,d,rfl,j,q⟩:=h;obtain⟨u,rfl,A⟩:=vals1 r;cases A;have m:∀(a:List av),Vals d a->d.length<=ap->∀(h':cv) (c:Nat),(∀b y,s.heap.get? b=ab y->h'.get? b=ab y) ->
   h'.get? s.heap.objs.size=ab { cls:=.type "list",dict:=ae,data:=.seq a.toArray c,slots:=#[]}->EP X g z Q (.ref s.heap.objs.size) { s with heap:=h'}:=λa f hz h' c i e =>
  ⟨.ref s.heap.objs.size,_,I.laid (t':=s.toks) i (m_ _) (show xr X.prog X.w _ h' _ (.lst d) from ⟨hz,a,c,f,e⟩),rfl,q _ (I.hok.fresh (m_ _))⟩
 rcases j with j | j
 .obtain⟨a,f,pl,hz⟩:=I.list j;have k:=f.length;obtain⟨o,v,x,n,t⟩:=pl.isList;exact sD p (.inl rfl) v x t (λh' c i e=>m a f hz h' c i e) (by simp only[z_] <;> omega)
 obtain⟨a,f,pl,hz⟩:=I.tuple j;have k:=f.length;obtain⟨o,v,x,n,t⟩:=pl;exact sD p (.inr rfl) v x t (λh' c i e=>m a f hz h' c i e) (by simp only[z_] <;> omega)
theorem pG:acj X (.type "tuple") (λxs H Q=>∃p d,xs=[.ref p]/\((SqL X.K H p d/\∀l,H l=ae->Q (.ref l) (upd H l (.tup d)))\/(SqT X.K H p d/\Q (.ref p) H))):=by
 intro a s k H xs us Q I r h;obtain⟨p,d,rfl,h⟩:=h;obtain⟨u,rfl,n⟩:=vals1 r;cases n;rcases h with ⟨f,q⟩ | ⟨f,q⟩
 .obtain⟨c,g,pl,hz⟩:=I.list f;have j:=g.length;refine call_tuple_list pl.isList (λh' m=>?_) (by simp only[z_] <;> omega);have i:Inv X a k H { s with heap:=h'}:=I.kept (t':=s.toks) m;have t:Inv X a k (upd H h'.objs.size (.tup d)) { s with heap:=h'.push { cls:=.type "tuple",data:=.seq c.toArray}} :=
   i.laid (t':=s.toks) (λb o e=>h_ _ e) (m_ _) (show xr X.prog X.w _ _ _ (.tup d) from ⟨hz,c,g,adA.new _ _⟩)
  exact⟨.ref h'.objs.size,_,t,rfl,q _ (i.hok.fresh (m_ _))⟩
 obtain⟨c,g,pl,hz⟩:=I.tuple f;exact call_tuple_same pl ⟨.ref p,H,I,rfl,q⟩
def tyV (K:a8) (T:String) (x:V) (H:Hp):Prop:=match x with
 |.str _=>T="str"
 |.int _=>T="int"
 |.ref p=>(T="list"/\∃xs,SqL K H p xs)\/(T="tuple"/\∃xs,SqT K H p xs) \/
   (T="dict"/\((∃kvs,H p=ab (.dK kvs))\/∃kvs,H p=ab (.dT kvs)))\/(T="set"/\∃S n,H p=ab (.set S n))
 |_=>False
theorem Dh {u:St} (I:Inv X f u H s) (r:RelV x v) (j:tyV X.K T x H):
  s.TypeIs v T/\∀a,v=.ref a->∃m,s.heap.get? a=ab m/\m.dict=ae:=by
 cases x with
 |str z=>obtain⟨t,rfl⟩:=r;cases (show T="str" from j);exact⟨re s z t,λ_ e=>nomatch e⟩
 |int i=>obtain⟨t,rfl⟩:=r;cases (show T="int" from j);exact⟨rf s i t,λ_ e=>nomatch e⟩
 |ref p =>
  cases r;rcases j with ⟨rfl,xs,w⟩ | ⟨rfl,xs,b⟩ | ⟨rfl,b⟩ | ⟨rfl,S,n,b⟩
  .obtain⟨g,_,pl,_⟩:=I.list w;refine⟨pl.isList.typeIs,λa e=>?_⟩;cases e;obtain⟨o,n,e,c,h,_⟩:=pl;exact⟨o,e,h⟩
  .rcases b with b | ⟨o,g,n,b,l,h,_⟩
   .obtain⟨_,g,r,o,q,l,n,h,y⟩:=b.ok I.hok;refine⟨⟨o,q,l⟩,λa e=>?_⟩;cases e;exact⟨o,q,y⟩
   refine⟨⟨o,I.kIn p o b,l⟩,λa e=>?_⟩;cases e;exact⟨o,I.kIn _ o b,h⟩
  .have z:∃o,s.heap.get? p=ab o/\o.ExactDict:=by
    rcases b with ⟨kvs,b⟩ | ⟨kvs,b⟩
    .obtain⟨_,_,_,_,o,_,_,e,d,_⟩:=I.hok p _ b;exact⟨o,e,d⟩
    obtain⟨_,_,_,_,o,_,_,e,d,_⟩:=I.hok p _ b;exact⟨o,e,d⟩
   obtain⟨o,e,d⟩:=z;refine⟨⟨o,e,d.1⟩,λa k=>?_⟩;cases k;exact⟨o,e,d.2.1⟩
  obtain⟨o,_,_,_,e,d,_⟩:=I.hok p _ b;refine⟨⟨o,e,d.1⟩,λa k=>?_⟩;cases k;exact⟨o,e,d.2.1⟩
 |_=>exact cx j
def Yx (K:a8) (T:String) (r:V->List V->Hp->VK->Prop) (b:TE):TE:=λc H Q=>b c H λx a=>tyV K T x a/\r x [] a Q
def tBM (K:a8) (T:String) (r:V->List V->Hp->VK->Prop) (d:TE) (t:TA):TE:=λb H Q=>d b H λx a=>tyV K T x a/\t b a λxs c=>r x xs c Q
variable {apos cpos:ka}{T id:String}
theorem Qt (k:mN T) (d:vT T name id) (e:t9 (.builtin id)=a5 (.type "method_descriptor")) (p:MtR X id r) (l:PE X o to)
  (b:cq o name X.env (br o X.env)=br o X.env:=by rfl) (c:(apos.endLine==cpos.line)=ag:=by rfl):PE X (.Call (.Attribute o name apos) [] [] cpos) (Yx X.K T r to):=by
 intro a s g H Q I h;refine iF b c (My (l a s g H _ I h) λv u ⟨x,t,f,i,j,n⟩=>?_);obtain⟨m,q⟩:=Dh f i j;exact⟨T,id,k,d,e,m,q,abi rfl (l6 (p a u g t x [] v [] Q f i .nil n))⟩
theorem Vf (p:mN T) (g:vT T name id) (i:t9 (.builtin id)=a5 (.type "method_descriptor")) (B:MtR X id r) (A:PE X o to) (w:PA X (e::es) t)
  (c:cq o name X.env (br o X.env)=br o X.env:=by rfl)
  (f:((bt cpos (ax (e::es) X.env)).all (λx=>!x.1)&&(nN cpos (hP [] X.env)).all (λx=>x.1.isSome)
   && decide ((e::es).length+([]:List og).length+(if ([]:List og).isEmpty then 0 else 1)<30))=ag:=by rfl)
  (d:(apos.endLine==cpos.line)=ag:=by rfl) (F:ax (e::es) X.env=(ah,br e X.env)::ax es X.env:=by rfl) (b:(bt cpos (ax es X.env)).any (·.1)=ah:=by rfl) :
  PE X (.Call (.Attribute o name apos) (e::es) [] cpos) (tBM X.K T r to t):=by
 intro a s j H Q I h;refine wpAny_Call_method_late c f d rfl (My (A a s j H _ I h) λv L ⟨x,J,k,l,z,C⟩=>?_);obtain⟨q,D⟩:=Dh k l z;refine⟨T,id,p,g,i,q,D,?_⟩;have m:=w cpos a L j J _ k C;rw[F] at m |-;refine abi (by show (ah||(bt cpos (ax es X.env)).any (·.1))=ah;rw[b] <;> rfl) (lb ?_);exact My m λus u ⟨vs,y,E,n,G⟩=>B a u j y x vs v us Q E l n G
end
def MtM (X:Cx) (id:String) (r:V->List V->Hp->VK->Prop):Prop :=
 ∀(a:List (am × dL)) (s:aI) (b:St) (H:Hp) (x:V) (xs:List V) (v:av) (us:List av) (Q:VK),Inv X a b H s->RelV x v->Vals xs us->r x xs H Q ->
  aE (ay X.prog X.w) X.A (oI (.builtin id) (v::us)) (EP X a b Q) X.xe s
theorem Vals.one (r:Vals [x] us):∃u,us=[u]/\RelV x u:=vals1 r
theorem Vals.zero:∀{us:List av},Vals [] us->us=[]
 |_,.nil=>rfl
theorem Vals.dropLast (h:Vals xs us):Vals xs.dropLast us.dropLast:=by
 induction h with
 |nil=>exact .nil
 |cons r t a =>
 cases t with
 |nil=>exact .nil
 |cons q t'=>exact .cons r a
theorem Vals.eraseIdx:∀{xs:List V}{us:List av}(i:Nat),Vals xs us->Vals (xs.eraseIdx i) (us.eraseIdx i)
 |_,_,_,.nil=>.nil
 |_,_,0,.cons _ t=>t
 |_,_,i+1,.cons r t=>.cons r (Vals.eraseIdx i t)
theorem Vals.reverse (h:Vals xs us):Vals xs.reverse us.reverse:=by
 induction h with
 |nil=>exact .nil
 |cons r t a=>rw[abV,abV];exact Vals.append a (.cons r .nil)
theorem Vals.rep (h:Vals xs us):∀k:Nat,Vals (a4 k xs).flatten (a4 k us).flatten
 |0=>.nil
 |k+1=>by
  rw[aaB,aaB,aao,aao]
  exact Vals.append h (Vals.rep h k)
theorem wU {d:Type}(l:List d):l.eraseIdx (l.length - 1)=l.dropLast:=by
 induction l with
 |nil=>rfl
 |cons a r c =>
 cases r with
 |nil=>rfl
 |cons b r =>
  have e:(a::b::r).length - 1=((b::r).length - 1)+1:=by
   have f:(a::b::r).length=r.length+2:=rfl
   have g:(b::r).length=r.length+1:=rfl
   omega
  rw[e,List.eraseIdx_cons_succ,c]
  all_goals rfl
theorem qe {a:Type}:∀(l:List a) (i:Nat),(l.eraseIdx i).length<=l.length
 |[],_=>m_ _
 |_::_,0=>h6 _
 |_::r,i+1=>Nat.succ_le_succ (qe r i)
theorem foldl_rep (b:List av):∀(k:Nat) (a:List av),
  sj (λc f=>c++f) a.toArray (a4 k b.toArray)=(a++(a4 k b).flatten).toArray
 |0,a=>by simp
 |k+1,a=>by
  have e:a.toArray++b.toArray=(a++b).toArray:=adE
  have d:(a++b)++(a4 k b).flatten=a++(a4 (k+1) b).flatten:=by
   rw[aaB,aao,y_]
  rw[<- d,<- foldl_rep b k (a++b),<- e,aaB,qq]
section
variable {X:Cx}{pins:List (am × dL)}{σ:St}
theorem Inv.lset {a its':List av} (I:Inv X pins σ H s) (h:H l=ab (.lst xs)) (e:s.heap.get? l=ab { cls:=.type "list",data:=.seq a.toArray n}) (b:f a.toArray=its'.toArray) (c:Vals ys its') (hz:ys.length<=ap):
  Inv X pins σ (upd H l (.lst ys)) { s with heap:=s.heap.update l (cn f),toks:=t'}:=by
 have q:=PySem.IsL.update e f;rw[b] at q;refine I.write (x:=l) (e:=l) (by rw[h];exact trivial) (.inl rfl) (λi u g d=>(aax s.heap (cn f) (a6 g)).trans d) ⟨_,q⟩ ?_;exact⟨hz,its',_,c,q⟩
theorem Inv.lnew (I:Inv X pins σ H s) (b:Vals ys a) (hz:ys.length<=ap):
  Inv X pins σ (upd H s.heap.objs.size (.lst ys)) { s with heap:=s.heap.push { cls:=.type "list",data:=.seq a.toArray},toks:=t'} :=
 I.laid (λ_ _ q=>h_ _ q) (m_ _) ⟨hz,a,0,b,G_ _ rfl⟩
theorem Inv.fresh (I:Inv X pins σ H s):H s.heap.objs.size=ae:=I.hok.fresh (m_ _)
theorem Inv.lstM (I:Inv X pins σ H s) (b:H l=ab (.lst xs)):xs.length<=ap/\∃(a:List av) (n:Nat),Vals xs a/\xs.length=a.length/\s.heap.get? l=ab { cls:=.type "list",data:=.seq a.toArray n}:=by
 obtain⟨z,a,n,r,e⟩:=I.hok l _ b;exact⟨z,a,n,r,r.length,e⟩
theorem Di (h:n<=ap):eJ n=ah:=by
 unfold eJ;exact x_ adC
def Jb:V->List V->Hp->VK->Prop:=λx vs H Q=>∃l xs y,x=.ref l/\vs=[y]/\H l=ab (.lst xs)/\xs.length<ap/\Q .non (upd H l (.lst (xs++[y])))
theorem Bm:MtM X "list.append" Jb:=by
 intro b s j H x vs v us Q I d g h;obtain⟨l,xs,y,rfl,rfl,c,hz,q⟩:=h;cases d;obtain⟨u,rfl,f⟩:=g.one;obtain⟨z,a,n,r,i,e⟩:=I.lstM c;refine ab0 nk ⟨_,e,rfl⟩ l9 (k9 _ _) (list_append l a.toArray n u (by rw[z_];omega)) ⟨e,?_⟩;refine⟨.non,_,I.lset (its':=a++[u]) c e adE (r.append (.cons f .nil)) ?_,rfl,q⟩;rw[a_,M_];omega
def Yy:V->List V->Hp->VK->Prop:=λx vs H Q=>∃l xs y,x=.ref l/\vs=[]/\H l=ab (.lst xs)/\xs[xs.length - 1]?=ab y/\Q y (upd H l (.lst xs.dropLast))
theorem Qu:MtM X "list.pop" Yy:=by
 intro d s p H x vs v us Q I i o h;obtain⟨l,xs,y,rfl,rfl,f,g,q⟩:=h;cases i;have b:=o.zero;subst b;obtain⟨z,a,n,r,m,e⟩:=I.lstM f;obtain⟨u,j,k⟩:=r.get g;have c:a.toArray[a.toArray.size - 1]?=ab u:=by show a.toArray[a.length - 1]?=ab u;rw[<- Zu,<- m];exact j
 refine ab0 qs ⟨_,e,rfl⟩ pa (F.args_list_pop_1 _) (MeetsSeq.list_pop_last l a.toArray n u c (by rw[z_];omega)) ⟨e,?_⟩;refine⟨y,_,I.lset (its':=a.dropLast) f e ?_ r.dropLast ?_,k,q⟩
 .show a.toArray.eraseIdxIfInBounds (a.toArray.size - 1)=a.dropLast.toArray;rw[z_,e9,wU]
 rw[List.length_dropLast];omega
def Qv:V->List V->Hp->VK->Prop:=λx vs H Q=>∃l xs i k y,x=.ref l/\vs=[.int i]/\H l=ab (.lst xs) /\ -(2^63)<=i/\i<2^63/\sP i xs.length=ab k/\xs[k]?=ab y/\Q y (upd H l (.lst (xs.eraseIdx k)))
theorem Dj:MtM X "list.pop" Qv:=by
 intro c s D H x vs v us Q I j A h;obtain⟨l,xs,i,k,y,rfl,rfl,d,g,B,C,f,q⟩:=h;cases j;obtain⟨u,rfl,m⟩:=A.one;obtain⟨t,rfl⟩:=m;obtain⟨z,a,n,r,p,e⟩:=I.lstM d;obtain⟨w,o,b⟩:=r.get f;refine ab0 qs ⟨_,e,rfl⟩ pa (F.args_list_pop_2 _ _)
  (MeetsSeq.list_pop_at l a.toArray n i t k w (kQ g B) (by rw[z_,<- p];exact C) (by rw[<- Zu];exact o) (by rw[z_];omega)) ⟨e,?_⟩
 refine⟨y,_,I.lset (its':=a.eraseIdx k) d e ?_ (r.eraseIdx k) ?_,b,q⟩
 .show a.toArray.eraseIdxIfInBounds k=(a.eraseIdx k).toArray;rw[e9]
 have:=qe xs k;omega
def Yz:R2:=λx y H Q=>∃l b xs a,x=.ref l/\y=.ref b/\H l=ab (.lst xs)/\H b=ab (.lst a)/\xs.length+a.length<=ap/\∀p,H p=ae->Q (.ref p) (upd H p (.lst (xs++a)))
theorem afC:OpR X (bp .Add) Yz:=by
 intro d s C H x y v u Q I j o h;obtain⟨l,b,xs,t,rfl,rfl,p,k,hz,q⟩:=h;cases j;cases o;obtain⟨z,c,n,r,A,e⟩:=I.lstM p;obtain⟨w,a,B,f,m,i⟩:=I.lstM k;refine PySem.P.add_list e i ?_ (by rw[z_,z_];omega);have g:c.toArray++a.toArray=(c++a).toArray:=adE
 rw[g];exact⟨.ref _,_,I.lnew (t':=s.toks) (r.append f) (by rw[a_];omega),rfl,q _ I.fresh⟩
def YB:R2:=λx y H Q=>∃l k xs,x=.ref l/\y=.int k/\H l=ab (.lst xs) /\ -(2^63)<=k/\k<2^63/\xs.length*k.toNat<=ap /\
 ∀p,H p=ae->Q (.ref p) (upd H p (.lst (a4 k.toNat xs).flatten))
theorem len_rep {b:Type}(xs:List b) (k:Nat):(a4 k xs).flatten.length=k*xs.length:=by
 induction k with
 |zero=>simp
 |succ k a=>rw[aaB,aao,a_,a,Nat.succ_mul,Nat.add_comm]
theorem Qw:OpR X (bp .Mult) YB:=by
 intro p s K H x y v u Q I B C h;obtain⟨l,k,xs,rfl,rfl,G,A,E,hz,q⟩:=h;cases B;obtain⟨t,rfl⟩:=C;obtain⟨z,b,n,r,D,e⟩:=I.lstM G;have f:b.toArray.size*k.toNat<=ap:=by rw[z_,<- D];exact hz
 have g:¬b.toArray.size*k.toNat>(2^63 - 1) / 8:=by
  have:(ap:Nat)<=(2^63 - 1) / 8:=by decide
  omega
 have d:¬(!gS k)=ag:=by rw[kQ A E];exact B_
 have c:¬eJ (b.toArray.size*k.toNat)=ag:=by rw[Di f];exact B_
 have i:sj (λj o=>j++o) #[] (a4 (if b.toArray.isEmpty=ag then 0 else k.toNat) b.toArray)=(a4 k.toNat b).flatten.toArray:=by
  have w:∀m:Nat,sj (λj o=>j++o) #[] (a4 m b.toArray)=(a4 m b).flatten.toArray:=λm=>by have:=foldl_rep b m [];rw[aaS] at this;exact this
  rw[w];cases b with
  |nil=>simp
  |cons a J=>rw[ace adE]
 refine wpAny_binaryOp_repeat_ref (T:="list") (U:="int") adD ⟨_,e,rfl⟩ (λs'=>rf s' k t) noFill_list_mul F.fills_int_mul qA repeat_list F.slot_int_index.lookup
  (ab0 qA (rf s k t) F.entry_int_rmul (F.args_int_rmul_2 _ _) (int___rmul___int_list k t l b.toArray n)
   ⟨e,rfl,⟨_,e,rfl⟩,ab0 F.slot_list_mul ⟨_,e,rfl⟩ F.entry_list_mul (F.args_list_mul_2 _ _) (AutoListH.list___mul___list_int_3 l b.toArray n k t d g c) ⟨e,?_⟩⟩)
 rw[i];exact⟨.ref _,_,I.lnew (t':=s.toks) (r.rep k.toNat) (by rw[len_rep,Nat.mul_comm];exact hz),rfl,q _ I.fresh⟩
set_option maxRecDepth 100000 in
end
section
variable {κ:Type}[DecidableEq κ]
def fJ (kvs:List (κ × V)) (k:κ):Option V:=(kvs.find? λa=>decide (a.1=k)).map (·.2)
def putK (kvs:List (κ × V)) (k:κ) (v:V):List (κ × V) :=
 if (kvs.any λa=>decide (a.1=k))=ag then kvs.map (λa=>if a.1=k then (a.1,v) else a) else kvs++[(k,v)]
theorem fK {k:κ} (e:p.1=k):fJ (p::r) k=ab p.2:=by simp [fJ,aah,e]
theorem fL {k:κ} (e:¬p.1=k):fJ (p::r) k=fJ r k:=by simp [fJ,aah,e]
theorem ug (k:κ):∀kvs:List (κ × V),(kvs.any λa=>decide (a.1=k))=(fJ kvs k).isSome
 |[]=>rfl
 |p::r=>by
  rw[abM]
  by_cases e:p.1=k
  ·
   simp only[fK e,A_ e,Bool.true_or,abQ]
  ·
   rw[fL e,x_ e,mo];exact ug k r
theorem fZ (kvs:List (κ × V)) (k:κ) (v:V):(putK kvs k v).length<=kvs.length+1:=by
 unfold putK;split
 .rw[b_];omega
 rw[a_,i_,aaD];omega
theorem acP.isSome_eq (r:acP o u):o.isSome=u.isSome:=by
 cases o with
 |none=>cases u with
  |none=>rfl
  |some _=>exact (show False from r).elim
 |some _=>cases u with
  |none=>exact (show False from r).elim
  |some _=>rfl
theorem KV.val (r:KV kvs vs) (k:κ):acP (fJ kvs k) (lf vs k):=by
 unfold KV at r;induction r with
 |nil=>exact ci
 |@cons p q ps a h t f =>
 obtain⟨d,g⟩:=h;by_cases e:p.1=k
 .have c:q.1=k:=d.symm.trans e;have b:lf (q::a) k=ab q.2:=by simp [lf,aah,c]
  rw[fK e,b];exact g
 have c:¬q.1=k:=λz=>e (d.trans z);have b:lf (q::a) k=lf a k:=by simp [lf,aah,c]
 rw[fL e,b];exact f
theorem KV.any (r:KV kvs vs) (k:κ):(kvs.any λa=>decide (a.1=k))=vs.any λa=>decide (a.1=k):=by
 unfold KV at r;induction r with
 |nil=>rfl
 |cons h t b=>rw[abM,abM,b,h.1]
theorem KV.repl (r:KV kvs vs) (k:κ) (d:RelV y u):
  KV (kvs.map λa=>if a.1=k then (a.1,y) else a) (vs.map λa=>if a.1=k then (a.1,u) else a):=by
 unfold KV at r |-;induction r with
 |nil=>exact .nil
 |@cons p q ps g h t c =>
 rw[D_,D_];refine .cons ?_ c;obtain⟨b,f⟩:=h;by_cases e:p.1=k
 .rw[aca e,aca (b.symm.trans e)];exact⟨b,d⟩
 rw[ace e,ace (λz=>e (b.trans z))];exact⟨b,f⟩
theorem KV.put (r:KV kvs vs) (k:κ) (a:RelV y u):KV (putK kvs k y) (stored vs k u):=by
 unfold putK stored;rw[r.any k];by_cases e:(vs.any λb=>decide (b.1=k))=ag
 .rw[aca e,aca e];exact r.repl k a
 rw[ace e,ace e];exact k5 r ⟨rfl,a⟩
theorem KV.length {vs:List (κ × av)} (r:KV kvs vs):kvs.length=vs.length:=aaZ r
end
theorem mZ (r:RelV (kV k) u):(bV P w).is k u=ag:=by
 cases k with
 |inl i=>obtain⟨t,e⟩:=(show ∃t,u=dd i t from r);subst e;exact tX P w i t
 |inr x=>obtain⟨t,e⟩:=(show ∃t,u=lT x t from r);subst e;exact tY P w x t
theorem qg:∀{a:List Key}{us:List av},Vals (a.map kV) us->ItemsAre (bV P w) a us
 |[],_,r=>by rw[Z5] at r;cases r;exact .nil
 |k::a,_,r=>by
  rw[D_] at r
  cases r with
  |cons h t=>exact .cons (mZ h) (qg t)
abbrev KT (H:Hp):List (List Key × V)->List (List Key × am × av)->Prop:=gg λp q=>p.1=q.1/\H q.2.1=ab (.tup (p.1.map kV))/\RelV p.2 q.2.2
theorem KT.val (r:KT H kvs xs) (k:List Key):acP (fJ kvs k) ((pT xs k).map (·.2)):=by
 induction r with
 |nil=>exact ci
 |@cons p q ps a h t f =>
 obtain⟨d,_,g⟩:=h;by_cases e:p.1=k
 .have c:q.1=k:=d.symm.trans e;have b:pT (q::a) k=ab q.2:=by simp [pT,aah,c]
  rw[fK e,b];exact g
 have c:¬q.1=k:=λz=>e (d.trans z);have b:pT (q::a) k=pT a k:=by simp [pT,aah,c]
 rw[fL e,b];exact f
theorem KT.repl (r:KT H kvs xs) (k:List Key) (g:RelV y u):
  KT H (kvs.map λb=>if b.1=k then (b.1,y) else b) (xs.map (putAt k u)):=by
 induction r with
 |nil=>exact .nil
 |@cons p q ps i h t d =>
 rw[D_,D_];refine .cons ?_ d;obtain⟨a,c,f⟩:=h;unfold putAt;by_cases e:p.1=k
 .rw[aca e,aca (a.symm.trans e)];exact⟨a,c,g⟩
 rw[ace e,ace (λz=>e (a.trans z))];exact⟨a,c,f⟩
theorem KT.put (r:KT H kvs xs) (k:List Key) (c:H b=ab (.tup (k.map kV))) (a:RelV y u):
  KT H (putK kvs k y) (storedH xs k b u):=by
 have e:(kvs.any λd=>decide (d.1=k))=(pT xs k).isSome:=by rw[ug,(r.val k).isSome_eq,hY]
 unfold putK storedH;rw[e];by_cases q:(pT xs k).isSome=ag
 .rw[aca q,aca q];exact r.repl k a
 rw[ace q,ace q];exact k5 r ⟨rfl,c,a⟩
theorem KT.keeps (r:KT H kvs xs) (a:∀b ys,H b=ab (.tup ys)->H' b=ab (.tup ys)):KT H' kvs xs :=
 Paired.mapP r λ_ _ z=>⟨z.1,a _ _ z.2.1,z.2.2⟩
section
variable {P:bE}{w:bS}
theorem Mx (b:HOk P w H h) (e:Rd H a u):xr P w H h a u:=e.ok b
theorem qi (b:HOk P w H h) (e:Rd H a (.dK kvs)):kvs.length<=ap/\(a==dn)=ah/\∃vs,KV kvs vs/\h.DictOf (bV P w) a vs :=
 show xr P w H h a (.dK kvs) from Mx b e
theorem yJ (b:HOk P w H h) (e:H a=ab (.dK kvs)):kvs.length<=ap/\(a==dn)=ah/\∃vs,KV kvs vs/\h.DictOf (bV P w) a vs:=qi b (.inl e)
theorem m5 (g:HOk P w H h) (e:H a=ab (.tup (b.map kV))):(lh (bV P w)).is h b a:=by
 obtain⟨_,c,r,o,d,i,n,f,_⟩:=(show xr P w H h a (.tup (b.map kV)) from g a _ e);exact⟨o,c.toArray,n,d,i,f,by simpa using qg r⟩
theorem qj (f:HOk P w H h) (e:Rd H a (.dT kvs)):kvs.length<=ap/\(a==dn)=ah /\
  ∃xs,KT H kvs xs/\h.DictOfH (lh (bV P w)) a xs:=by
 obtain⟨z,y,xs,r,o,u,ep,j,n,k,g,s⟩:=(show xr P w H h a (.dT kvs) from Mx f e);refine⟨z,y,xs,r,o,u,ep,j,n,k,g,λx b=>?_,s⟩;have c:∀{l:List (List Key × V)} {m:List (List Key × am × av)},KT H l m->∀x∈m,(lh (bV P w)).is h x.1 x.2.1:=by
  intro l m q;induction q with
  |nil=>intro x b;exact nomatch b
  |@cons p q ps v d t i =>
  intro x b;rcases n_.mp b with e | b
  .subst e;exact m5 f (by rw[<- d.1];exact d.2.1)
  exact i x b
 exact c r x b
theorem Vg (b:HOk P w H h) (e:H a=ab (.dT kvs)):kvs.length<=ap/\(a==dn)=ah /\
  ∃xs,KT H kvs xs/\h.DictOfH (lh (bV P w)) a xs:=qj b (.inl e)
end
def acR (H:Hp) (a:am) (y:V) (r:Option V):Prop :=
 (∃kvs k,Rd H a (.dK kvs)/\y=kV k/\r=fJ kvs k)\/∃kvs k b,Rd H a (.dT kvs)/\y=.ref b/\H b=ab (.tup (k.map kV))/\r=fJ kvs k
def adN (H:Hp) (a:am) (y v:V) (H':Hp):Prop :=
 (∃kvs k,H a=ab (.dK kvs)/\y=kV k/\kvs.length<ap/\H'=upd H a (.dK (putK kvs k v))) \/
 ∃kvs k b,H a=ab (.dT kvs)/\y=.ref b/\H b=ab (.tup (k.map kV))/\kvs.length<ap/\H'=upd H a (.dT (putK kvs k v))
theorem acR.k {k:Key} (e:H a=ab (.dK kvs)):acR H a (kV k) (fJ kvs k):=.inl ⟨kvs,k,.inl e,rfl,rfl⟩
theorem acR.t {k:List Key} (e:H a=ab (.dT kvs)) (c:H b=ab (.tup (k.map kV))):acR H a (.ref b) (fJ kvs k):=.inr ⟨kvs,k,b,.inl e,rfl,c,rfl⟩
theorem adN.k {k:Key} (e:H a=ab (.dK kvs)) (b:kvs.length<ap):adN H a (kV k) v (upd H a (.dK (putK kvs k v))):=.inl ⟨kvs,k,e,rfl,b,rfl⟩
theorem adN.t {k:List Key} (e:H a=ab (.dT kvs)) (c:H b=ab (.tup (k.map kV))) (d:kvs.length<ap):
  adN H a (.ref b) v (upd H a (.dT (putK kvs k v))):=.inr ⟨kvs,k,b,e,rfl,c,d,rfl⟩
section
variable {X:Cx}{pins:List (am × dL)}{σ:St}
theorem Inv.big (I:Inv X pins σ H s):dn<s.heap.objs.size:=by
 have h:bv<s.heap.objs.size:=(I.mod.glob.keeps I.bk).lt;exact abj adD h
theorem Bo (x:A.units+1<cK) (I:Inv X pins σ H s) (g:acR H a y (ab v)) (q:RelV y u) (h:∀f s',Inv X pins σ H s'->RelV v f->Q f s'):
  aE (ay X.prog X.w) A (jI (.ref a) u) Q E s:=by
 rcases g with ⟨kvs,k,e,n,l⟩ | ⟨kvs,k,b,e,n,B,l⟩
 .subst n;obtain⟨z,r,vs,c,i⟩:=qi I.hok e;obtain⟨f,m,d⟩:=acP.some_of (v:=v) (o:=lf vs k) (by rw[l];exact c.val k);exact wpAny_getItem_of (mZ q) i.mapOf m (h f _ (I.tok _) d)
 subst n;cases (show u=bg b from q);obtain⟨z,r,xs,c,i⟩:=qj I.hok e;obtain⟨f,m,d⟩:=acP.some_of (v:=v) (o:=(pT xs k).map (·.2)) (by rw[l];exact c.val k);obtain⟨p,t,j⟩:=Option.map_eq_some_iff.mp m;refine wpAny_getItem_heap (abR x) (m5 I.hok B) i t ?_;rw[j];exact h f _ (I.tok _) d
theorem YC (m:A.units+1<cK) (I:Inv X pins σ H s) (g:acR H a y o) (j:RelV y u) (h:∀s',Inv X pins σ H s'->Q (.bool o.isSome) s'):
  aE (ay X.prog X.w) A (be .In u (.ref a)) Q E s:=by
 rcases g with ⟨kvs,k,e,i,l⟩ | ⟨kvs,k,b,e,i,n,l⟩
 .subst i;obtain⟨z,d,vs,c,f⟩:=qi I.hok e;refine wpAny_in_of (mZ j) d f.mapOf ?_;rw[<- (c.val k).isSome_eq,<- l];exact h _ (I.tok _)
 subst i;cases (show u=bg b from j);obtain⟨z,d,xs,c,f⟩:=qj I.hok e;refine wpAny_in_heap (abR m) (m5 I.hok n) d f ?_;have q:=(c.val k).isSome_eq;rw[hY] at q;rw[<- q,<- l];exact h _ (I.tok _)
theorem Jc (m:A.units+1<cK) (I:Inv X pins σ H s) (g:acR H a y o) (j:RelV y u) (h:∀s',Inv X pins σ H s'->Q (.bool (!o.isSome)) s'):
  aE (ay X.prog X.w) A (be .NotIn u (.ref a)) Q E s:=by
 rcases g with ⟨kvs,k,e,i,l⟩ | ⟨kvs,k,b,e,i,n,l⟩
 .subst i;obtain⟨z,d,vs,c,f⟩:=qi I.hok e;refine wpAny_notIn_of (mZ j) d f.mapOf ?_;rw[<- (c.val k).isSome_eq,<- l];exact h _ (I.tok _)
 subst i;cases (show u=bg b from j);obtain⟨z,d,xs,c,f⟩:=qj I.hok e;refine wpAny_notIn_heap (abR m) (m5 I.hok n) d f ?_;have q:=(c.val k).isSome_eq;rw[hY] at q;rw[<- q,<- l];exact h _ (I.tok _)
theorem my (I:Inv X pins σ H s) (mu:Mut (H a)) (g:eh a s.heap h') (f:∃q,h'.get? a=ab q) (d:xr X.prog X.w (upd H a c) h' a c):
  Inv X pins σ (upd H a c) { s with heap:=h',toks:=t'} :=
 I.write (x:=a) (e:=a) mu (.inl rfl) (λb q h z=>(g.2 b h).trans z) f d
theorem wV (z:kvs.length<=ap) (d:(a==dn)=ah) (b:KV kvs vs) (c:h'.DictOf (bV P w) a vs):
  xr P w H' h' a (.dK kvs):=⟨z,d,vs,b,c⟩
theorem Bp (G:A.units+1<cK) (I:Inv X pins σ H s) (g:adN H a y v H') (C:RelV y u) (x:RelV v r) (h:∀s',Inv X pins σ H' s'->Q () s'):
  aE (ay X.prog X.w) A (tj (.ref a) u r) Q E s:=by
 rcases g with ⟨kvs,k,e,p,l,n⟩ | ⟨kvs,k,b,e,p,D,l,n⟩
 .subst p n;obtain⟨z,j,vs,d,o⟩:=yJ I.hok e;have hz:vs.length<=ap:=by rw[<- d.length];exact z
  have m:(putK kvs k v).length<=ap:=by have:=fZ kvs k v;omega
  refine wpAny_setItem_pairs (hsz:=hz) (mZ C) o λh' f t=>h _ ?_;have M:∃q,h'.get? a=ab q:=let ⟨q,_,_,i,_⟩:=f;⟨q,i⟩;exact my I (by rw[e];exact ci) t M (wV m j (d.put k x) f)
 subst p n;cases (show u=bg b from C);obtain⟨z,j,xs,d,o⟩:=Vg I.hok e;have hz:xs.length<=ap:=by rw[<- aaZ d];exact z
 have m:(putK kvs k v).length<=ap:=by have:=fZ kvs k v;omega
 refine wpAny_setItem_heap (hsz:=hz) (abR G) (m5 I.hok D) o λh' f t=>h _ ?_;obtain⟨q,K,ep,i,N,J,F,_,L⟩:=f;refine my I (by rw[e];exact ci) t ⟨q,i⟩ ⟨m,j,_,(d.put k D x).keeps λc O B=>?_,q,K,ep,i,N,J,F,L⟩;rw[bu (Uj B e (λz=>nomatch z))];exact B
end
def Jd (i:Expr):Prop:=∀a b,kG i ah a b=operate [a,b] (jI a b)
theorem Je {T id:String} (n:ms (.type T) "__getitem__"=a5 (ab (.builtin id))) (p:Jd a) (h:aE (ay prog w) A (br b env) (λo f=>aE (ay prog w) A (br a env) (λi c=>c.TypeIs o T/\aE (ay prog w) A (jI o i) Q E c) E f) E s):
  aE (ay prog w) A (br (.Subscript b a l) env) Q E s:=by
 refine mM (aad h (λo f j=>aad j (λi c d=>?_) λ_ _ x=>x) λ_ _ x=>x);obtain⟨m,d⟩:=d;unfold ip;refine d_ ?_;rw[getitemInPython_of_ne m.not_modules];refine d_ (fr m n ?_);have g:aE (ay prog w) A (kG a ah o i) (λr e=>aE (ay prog w) A (letTemporaryGo b o r >>= λ_=>a5 r) Q E e) E c:=by rw[p o i];exact wpAny_operating (aad d (λr e k=>d_ (wpAny_letTemporaryGo (o_ k))) λ_ _ x=>x)
 first
  |exact o_ (d_ g)
  |exact d_ (o_ (d_ g))
  |exact d_ g
theorem uh {f:St} (I:Inv X c f H s) (g:acR H a y o):s.TypeIs (.ref a) "dict":=by
 rcases g with ⟨kvs,k,e,_,_⟩ | ⟨kvs,k,b,e,_,_,_⟩
 .obtain⟨_,_,vs,_,d⟩:=qi I.hok e;exact d.typeIs
 obtain⟨_,_,xs,_,d⟩:=qj I.hok e;exact d.typeIs
def Vh (d e:TE):TE:=λc H Q=>d c H λx f=>e c f λy b=>∃a v,x=.ref a/\acR b a y (ab v)/\Q v b
def YD (e d:TE):TE:=λc H Q=>e c H λy f=>d c f λx b=>∃a o,x=.ref a/\acR b a y o/\Q (.bl o.isSome) b
def Jf (e d:TE):TE:=λc H Q=>e c H λy f=>d c f λx b=>∃a o,x=.ref a/\acR b a y o/\Q (.bl (!o.isSome)) b
def Vi (d e f:TE):TS:=λD b H=>f b H λv h=>d b h λx g=>e b g λy H3=>∃a c,x=.ref a/\adN H3 a y v c/\D.nx b c
theorem yK (k:X.A.units+1<cK) (q:PE X o td) (j:PE X i ty) (z:Jd i):PE X (.Subscript o i pos) (Vh td ty):=by
 intro b s d H Q I h;refine Je PySem.F.slot_dict_getitem.lookup z (My (q b s d H _ I h) λu n ⟨x,C,m,f,w⟩=>My (j b n d C _ m w) λJ D ⟨y,p,e,r,a,v,t,g,B⟩=>?_);subst t;obtain rfl:u=bg a:=f;exact⟨uh e g,Bo k e g r λE G l c=>⟨v,p,l,c,B⟩⟩
theorem Qx (f:X.A.units+1<cK) (e:PE X i ty) (n:PE X o td):PC X .In i o (YD ty td):=by
 intro b s c H Q I h;refine My (e b s c H _ I h) λC z ⟨y,w,l,p,r⟩=>My (n b z c w _ l r) λu B ⟨x,m,t,d,a,j,q,g,v⟩=>?_;subst q;obtain rfl:u=bg a:=d;exact YC f t g p λD k=>⟨.bl j.isSome,m,k,rfl,v⟩
theorem ql (f:X.A.units+1<cK) (e:PE X i ty) (n:PE X o td):PC X .NotIn i o (Jf ty td):=by
 intro b s c H Q I h;refine My (e b s c H _ I h) λC z ⟨y,w,l,p,r⟩=>My (n b z c w _ l r) λu B ⟨x,m,t,d,a,j,q,g,v⟩=>?_;subst q;obtain rfl:u=bg a:=d;exact Jc f t g p λD k=>⟨.bl (!j.isSome),m,k,rfl,v⟩
theorem yL (j:X.A.units+1<cK) (t:PE X o td) (f:PE X i ty) (w:PE X value tv) (G:dt value (ab (.Subscript o i pos')) pos.line X.env=a5 ah) :
  PS X (.Assign [.Subscript o i pos'] value pos) (Vi td ty tv):=by
 intro b s c H D I h;refine wpAny_Assign_Subscript (My (w b s c H _ I h) λr L ⟨v,K,n,m,C⟩=>My (t b L c K _ n C) λu e ⟨x,q,F,d,J⟩=>My (f b e c q _ F J) λM O ⟨y,H3,k,z,a,E,B,g,l⟩=>?_) G;subst B;obtain rfl:u=bg a:=d;exact Bp j k g z m λN p=>⟨c,E,p,l⟩
theorem ul (h:cv) (a:dn<h.objs.size):xr P w H (h.push { cls:=.type "dict",data:=.dict #[]}) h.objs.size (.dK []) :=
 ⟨aae _,aak.mpr (a6 (Zk a)),[],.nil,Heap.DictOf.new h⟩
def Qy:TE:=λ_ H Q=>∀p,H p=ae->Q (.ref p) (upd H p (.dK []))
theorem um:PE X (.Dict [] [] pos) Qy:=λb s c H Q I h =>
 wpAny_Dict_empty ⟨.ref s.heap.objs.size,_,I.laid (a:=s.heap.objs.size) (o:=.dK []) (t':=s.toks) (λ_ _ q=>h_ _ q) (m_ _) (ul s.heap I.big),rfl,h _ (I.hok.fresh (m_ _))⟩
def wW:List (TE × TE)->St->Hp->(List (V × V)->Hp->Prop)->Prop
 |[],_,H,Q=>Q [] H
 | (tk,tv)::r,σ,H,Q=>tk σ H λx b=>tv σ b λy a=>wW r σ a λps H3=>Q ((x,y)::ps) H3
abbrev VV:List (V × V)->List (av × av)->Prop:=gg λp q=>RelV p.1 q.1/\RelV p.2 q.2
def PPs (X:Cx) (e:ka) (c:List (Option Expr)) (a:List Expr) (d:List (TE × TE)):Prop :=
 ∀(b:List (am × dL)) (s:aI) (f:St) (H:Hp) (Q:List (V × V)->Hp->Prop),Inv X b f H s->wW d f H Q ->
  aE (ay X.prog X.w) X.A (evalPairs (pairTrees c a X.env e)) (λvs s'=>∃ps H',Inv X b f H' s'/\VV ps vs/\Q ps H') X.xe s
theorem yM:PPs X a [] [] []:=λb s c H Q I h=>pairTrees_nil_walk ⟨[],H,I,.nil,h⟩
theorem uo (t:PE X k tk) (q:PE X v g) (o:PPs X c f vs b):
  PPs X c (ab k::f) (v::vs) ((tk,g)::b):=λa s d H Q I h =>
 pairTrees_cons_walk (My (t a s d H _ I h) λu C ⟨x,B,n,i,w⟩=>My (q a C d B _ n w) λD j ⟨y,p,z,r,A⟩ =>
  My (o a j d p _ z A) λws E ⟨ps,H3,l,e,m⟩=>⟨(x,y)::ps,H3,l,.cons ⟨i,r⟩ e,m⟩)
def jt (kvs a:List (Key × V)):List (Key × V):=a.foldl (λb c=>putK b c.1 c.2) kvs
theorem KV.merge:∀{a:List (Key × V)}{b:List (Key × av)}{kvs:List (Key × V)}{vs:List (Key × av)},KV a b->KV kvs vs->KV (jt kvs a) (merged vs b):=by
 intro a b kvs vs r;unfold KV at r;induction r generalizing kvs vs with
 |nil=>intro q;exact q
 |@cons p q ps f h t c =>
 intro d;have e:KV (putK kvs p.1 p.2) (stored vs q.1 q.2):=by have:=d.put p.1 h.2;rw[<- h.1];exact this
 exact c e
theorem jn:∀(a kvs:List (Key × V)),(jt kvs a).length<=kvs.length+a.length
 |[],kvs=>by show kvs.length<=kvs.length+0;omega
 |p::r,kvs=>by
  have b:=jn r (putK kvs p.1 p.2)
  have c:=fZ kvs p.1 p.2
  show (jt (putK kvs p.1 p.2) r).length<=_
  rw[i_];omega
theorem m6:∀{kvs:List (Key × V)}{ws:List (av × av)},VV (kvs.map λe=>(kV e.1,e.2)) ws->∃d,Carries (bV P w) ws d/\KV kvs d
 |[],_,r=>by rw[Z5] at r;cases r;exact⟨[],ci,.nil⟩
 |p::kvs,_,r=>by
  rw[D_] at r
  cases r with
  |@cons a b j g h t =>
   obtain⟨d,c,q⟩:=m6 (P:=P) (w:=w) t
   obtain⟨i,f⟩:=b
   exact⟨(p.1,f)::d,⟨mZ h.1,rfl,c⟩,.cons ⟨rfl,h.2⟩ q⟩
def Vj (a:List (TE × TE)):TE:=λd H Q=>∀p,H p=ae->wW a d (upd H p (.dK [])) λps b=>b p=ab (.dK [])/\∃kvs:List (Key × V),ps=kvs.map (λc=>(kV c.1,c.2))/\kvs.length<=15/\Q (.ref p) (upd b p (.dK (jt [] kvs)))
theorem yN (h:PPs X k b d g) (j:b.all (·.isSome)=ag) (t:b.length=d.length) (C:b≠[]) (l:b.length<=15):PE X (.Dict b d k) (Vj g):=by
 intro f s x H Q I q;have v:=I.hok.fresh (m_ s.heap.objs.size);have u:=I.laid (a:=s.heap.objs.size) (o:=.dK []) (h':=s.heap.push { cls:=.type "dict",data:=.dict #[]}) (t':=s.toks) (λ_ _ q=>h_ _ q) (m_ _) (ul s.heap I.big);refine wpAny_Dict_walk (knd:=bV X.prog X.w) j t C l (My (h f _ x _ _ u (q _ v)) λws K ⟨ps,L,n,m,e,kvs,ep,M,G⟩=>?_);subst ep;obtain⟨B,c,J⟩:=m6 (P:=X.prog) (w:=X.w) m;obtain⟨z,p,E,A,y⟩:=yJ n.hok e;cases A;refine⟨B,c,y,λh' i F=>⟨.ref s.heap.objs.size,_,?_,rfl,G⟩⟩;have hz:(jt [] kvs).length<=ap:=by have r:=jn kvs [];rw[aaD] at r;rw[pz];omega
 have D:∃q,h'.get? s.heap.objs.size=ab q:=let ⟨q,_,_,hq,_⟩:=i;⟨q,hq⟩;exact my n (by rw[e];exact ci) F D (wV hz p (J.merge .nil) i)
structure M2 (X:Cx) (o:Expr) (m:ai) (apos:ka) (e f:Expr) (cpos:ka):Prop where
 base:cq o m X.env (br o X.env)=br o X.env
 few:((bt cpos (ax [e,f] X.env)).all (λx=>!x.1)&&(nN cpos (hP [] X.env)).all (λx=>x.1.isSome)
  && decide (([e,f]:List Expr).length+([]:List og).length+(if ([]:List og).isEmpty then 0 else 1)<30))=ag
 line:(apos.endLine==cpos.line)=ag
 trees:bt cpos (ax [e,f] X.env)=[(ah,br e X.env),(ah,br f X.env)]
def IsD (H:Hp) (a:am):Prop:=(∃kvs,Rd H a (.dK kvs))\/∃kvs,Rd H a (.dT kvs)
theorem Dk {k:St} (I:Inv X f k H s) (d:IsD H a):
  s.TypeIs (.ref a) "dict"/\(∀b,bg a=.ref b->∃c,s.heap.get? b=ab c/\c.dict=ae)/\(a==dn)=ah:=by
 rcases d with ⟨kvs,e⟩ | ⟨kvs,e⟩
 .obtain⟨_,h,vs,_,g⟩:=qi I.hok e;refine⟨g.typeIs,λb q=>?_,h⟩;cases q;obtain⟨c,_,_,i,j,_⟩:=g;exact⟨c,i,j.2.1⟩
 obtain⟨_,h,xs,_,g⟩:=qj I.hok e;refine⟨g.typeIs,λb q=>?_,h⟩;cases q;obtain⟨c,_,_,i,j,_⟩:=g;exact⟨c,i,j.2.1⟩
end L2
namespace Att
open PySem PySem.W PySem.Calls PyProof.Rows
theorem lR:∀(ns:List Int) (vs:List av),WellAll P h vs (ns.map WData.int)->ef vs ns:=by
 intro ns;induction ns with
 |nil=>intro vs w;rw[Z5] at w;cases w;exact .nil
 |cons n ns c =>
 intro vs w;rw[D_] at w;cases w with
 |cons a b =>
 cases a;exact .cons _ _ (c _ b)
theorem Bq {l:OpenLaw} (t:l.most=ab n) (b:l.row.toRowW.claim.pre args=ag) (k:WellAll P h c args):
  ∃a vs ns,c=[bg a]/\args=[WData.list (ns.map WData.int)]/\h.get? a=ab { cls:=.type "list",data:=.seq vs.toArray}/\ef vs ns/\ns.length<=n:=by
 have j:WShape.hasAll [] args [.list .int]=ag:=(pre_splitW b).1;have m:l.pre.holds [] { args:=args}=ag:=(pre_splitW b).2;obtain⟨d,r,rfl,p,w⟩:=hasAllW_cons j;obtain rfl:=hasAllW_nil w;obtain⟨xs,rfl,u⟩:=hasW_list p;obtain⟨ns,rfl⟩:=items_int u;have e:ns.length<=n:=by
  unfold OpenLaw.pre at m;have g:(WTm.not (.lt (.lit (.int (n:Int))) (.len (.arg 0)))).holds [] { args:=[.list (ns.map .int)]}=ag:=by have g:=(holds_andW m).1;rw[t] at g;exact g
  have i:=condW_of g (w_not (w_lt w_lit (w_len_list (w_arg rfl))));rw[b_] at i;refine Nat.le_of_not_lt λq=>?_;have x:(n:Int)<((ns.length:Nat):Int):=adC
  first
   | (rw[A_ x] at i;exact ach i adD)
   | (simp at i;omega)
 cases k with
 |cons o v =>
 cases v;cases o with
 |list s f=>exact⟨_,_,ns,rfl,rfl,s,lR ns _ f,e⟩
theorem Br (l:OpenLaw) (args:List WData):l.row.toRowW.claim.post args (.bool ag) args=ag :=
 postW_of (r:=l.row.toRowW) (X:=(ag==ag))
  (show WShape.has [] (.bool ag) .bool=ag by first | rfl | decide | simp [WShape.has,WShape.arms,WShape.armsAll])
  (show (WTm.eq .res (.lit (.bool ag))).value [] { args:=args,res:=ab (.bool ag),after:=args}=ab (.bool (ag==ag)) from w_eq_bool (w_res rfl) w_lit) rfl
theorem adL {l:OpenLaw} (K:l.most=ab n) (t:d.params.defaults=[]) (i:∀(w:bS) (c b:aI) (p x:ai->Option av) (m:am) (o:dL) (z s g:av) (a:am) (vs:List av) (ns:List Int),
   Ground q loose [] XP w c p x b.heap->YP w b.heap ->
   b.heap.get? m=ab o->o.data=.func (docDef d.name d.params d.body d.scope z s g)->b.heap.CodeRec s d.name->p d.name=ab (.ref m) ->
   b.heap.get? a=ab { cls:=.type "list",data:=.seq vs.toArray}->ef vs ns->ns.length<=n->b.gens=#[] ->
   dP (ay l.prog w) lP (.call (.ref m) ⟨[.ref a],[]⟩) (λr s'=>r=.ok (.ret (.bool ag))/\OldK b.heap s'.heap/\s'.os=b.os/\ij s'.gens) b):
  WalkO q loose XP YP l.row.toRowW d [] (λf vs=>r_ f vs):=by
 intro w c b p x G Y m o z s g P kV M F y C v J A B R k D L u O;obtain rfl:P=.none:=Dflts.none C t;obtain rfl:kV=.none:=Dflts.noKw C;obtain⟨a,vs,ns,rfl,rfl,h,e,j⟩:=Bq K k u;refine enter_call (abH (i w c b p x m o z s g a vs ns G Y M (fd_plain F) y v h e j J) λr s' I=>?_);obtain⟨rfl,Q,H,E⟩:=I;exact⟨.inl ⟨.bool ag,.bool ag,[],rfl,λ_=>rfl,.bool ag,Br l _,λ_=>⟨ic,λ_ N=>(nomatch N)⟩⟩,Q,H,E⟩
def ledger (h : cv) (L d : am) : List (am × dL):=(af h.objs.size).filterMap λa => if a = L \/ a = d then ae else (h.get? a).map λo => (a,o)
end Att
namespace L2
theorem qm:∀{vs:List av}{ns:List Int},ef vs ns->Vals (ns.map V.int) vs
 |_,_,.nil=>.nil
 |_,_,.cons n t h=>.cons ⟨t,rfl⟩ (qm h)
def Only (H:Hp):Prop:=∀b,H b=ae\/∃o xs,H b=ab (.frz o (.lst xs))
theorem Dl {K:a8} (KX:K.In c.heap) (G:c.heap.Ns bv D) (g:c.heap.Ns mI L) (T:∀x:ai,x≠"__name__"->L x=bb x) (E:c.heap.NoLimit) (hg:c.gens=#[]) (J:c.heap.get? a=ab { cls:=.type "list",data:=.seq vs.toArray}) (U:ef vs ns) (W:ns.length<=ap) (hr:mX k lP) (F:∀base:cv,K.In base->base.Ns bv D->adq P w K D base CX k S fd [x] sp) (l:∀(s:aI) (u:av),oj s fd ⟨[u],[]⟩ [(x,u)]) (O:∀H:Hp,Only H->SqL K H a (ns.map V.int)->sp [.ref a] H (λv _=>v=.bl ag) λ_ _ _=>False) (R:∀H e s',CX [] H c (λ_ _ _=>False) e s'->False):
  dP (ay P w) lP (.call (.ref S) ⟨[.ref a],[]⟩) (λr s'=>r=.ok (.ret (.bool ag))/\OldK c.heap s'.heap/\s'.os=c.os/\ij s'.gens) c:=by
 have Y:=qm U;have t:=U.length
 have j:∀H:Hp,Only H->SqL K H a (ns.map V.int)->HOk P w H c.heap->(∀b,H b≠ae->b=a)->(H a≠ae->K.lookup a=ae) ->
   dP (ay P w) lP (.call (.ref S) ⟨[.ref a],[]⟩) (λr s'=>r=.ok (.ret (.bool ag))/\OldK c.heap s'.heap/\s'.os=c.os/\ij s'.gens) c:=by
  intro H X hS B hA hK
  have f:∀{b:am} {o:dL},c.heap.get? b=ab o->H b=ae->(qU c.heap H).get? b=ab o:=λe n=>CG e n
  have Q:∀{b:am} {o:dL} {C:Array l5} {ep:Nat},c.heap.get? b=ab o->o.data=.dict C ep->H b=ae:=λ{b o C ep} e d=>by
   cases q:H b with
   |none=>rfl
   |some u =>
    have M:b=a:=hA b (by rw[q];simp)
    subst M
    rw[J] at e;cases e
    have d':Data.seq vs.toArray _=Data.dict C ep:=d
    cases d'
  have i:∀{b:am} {m:ai->Option av},c.heap.Ns b m->(qU c.heap H).Ns b m:=λ{b m} ⟨o,C,ep,e,d,r⟩=>⟨o,C,ep,f e (Q e d),d,r⟩
  have I:K.In (qU c.heap H):=λb o e=>f (KX b o e) (by
   cases q:H b with
   |none=>rfl
   |some u =>
    have M:b=a:=hA b (by rw[q];simp)
    subst M
    rw[hK (by rw[q];simp)] at e;cases e)
  have hM:Mod K D (qU c.heap H):=⟨I,i G,⟨L,i g,T⟩,let ⟨mc,h1,h2⟩:=E;⟨mc,i h1,h2⟩⟩
  have e0:adR P w K D (qU c.heap H) lP [] c H:=⟨rfl,hM,λb o e=>HR e,abh (Az _ _),adF,λb g=>ach (show b∈([]:List am) from g) adE,B,.of_eq hg⟩
  refine abH ((F _ I (i G)).run lP [] c H ⟨[.ref a],[]⟩ [.ref a] [.ref a] _ _ hr e0 (l c (.ref a)) (.cons rfl .nil) (O H X hS)) λr s' h=>?_
  cases r with
  |error e=>exact (R H e s' h).elim
  |ok fl =>
   cases fl with
   |next=>exact cx h
   |brk=>exact cx h
   |cont=>exact cx h
   |ret u =>
    obtain⟨v,H',os,p,un,A,r',q⟩:=h
    have q':v=.bl ag:=q
    subst q'
    obtain rfl:u=eP ag:=r'
    refine⟨rfl,OldK.of_keep λb o e=>?_,os,p⟩
    cases q:H b with
    |none=>exact un.keep b o e q (by intro z;exact ach (show b∈([]:List am) from z) adE) adE
    |some u =>
     rcases X b with z | ⟨ob,xs,z⟩
     ·
      rw[q] at z;cases z
     ·
      have z2:=un.frzs b ob _ z
      obtain⟨Z,_⟩:=B b _ z
      obtain⟨e2,_⟩:=A b _ z2
      rw[e] at Z;cases Z
      exact e2
 cases N:K.lookup a with
 |some o =>
  have e:=KX a o N
  rw[J] at e
  cases e
  refine j (λ_=>ae) (λ_=>.inl rfl) (.inr ⟨_,vs.toArray,_,N,rfl,rfl,rfl,by rw[z_,t];exact W,by simpa using Y⟩) (λb u z=>by have y:(ae:Option HO)=ab u:=z;cases y) (λb z=>ach rfl z) λz=>ach rfl z
 |none =>
 refine j (λb=>if b=a then ab (.frz { cls:=.type "list",data:=.seq vs.toArray} (.lst (ns.map V.int))) else ae) (λb=>?_) (.inl (.inr ⟨{ cls:=.type "list",data:=.seq vs.toArray},aca rfl⟩)) (λb u z=>?_) (λb z=>?_) λ_=>N
 .by_cases g:b=a
  .exact .inr ⟨_,_,aca g⟩
  exact .inl (ace g)
 .by_cases g:b=a
  .have y:=(aca g).symm.trans z;cases y;subst g;exact⟨J,by rw[b_];exact W,vs,_,Y,J⟩
  have y:=(ace g).symm.trans z;cases y
 by_cases g:b=a
 .exact g
 exact ach (ace g) z
abbrev KOf {K:a8}{h:cv}(_:K.In h):a8:=K
theorem afh {l:PySem.W.OpenLaw}{K:mP->a8}{CX:bS->CXT}{sp:bS->Sp} (O:l.most=ab n) (z:n<=ap) (t:d.params.defaults=[]) (P:mX k lP) (L:∀(w:bS) (h:cv),YP w h->(K w.params).In h) (F:∀(w:bS) (j:ai->Option av) (r:am) (h:cv),(K w.params).In h->h.Ns bv j->j d.name=ab (.ref r) ->
   ∃C:dk,(∀(s:aI) (u:av),oj s C ⟨[u],[]⟩ [(x,u)]) /\
    ∀base:cv,(K w.params).In base->base.Ns bv j->adq l.prog w (K w.params) j base (CX w) k r C [x] (sp w)) (A:∀(w:bS) (H:Hp) (a:am) (ns:List Int),ns.length<=n->Only H->SqL (K w.params) H a (ns.map V.int)->sp w [.ref a] H (λv _=>v=.bl ag) λ_ _ _=>False) (B:∀(w:bS) (H:Hp) (s:aI) (e:av) (s':aI),CX w [] H s (λ_ _ _=>False) e s'->False):
  sL q loose XP YP l.row.toRowW d [] (λf vs=>r_ f vs):=by
 refine Att.adL O t λw D p j X r o pm cd I a vs ns G Y Z U R y m i c M=>?_;have E:=L w _ Y;obtain⟨C,S,Q⟩:=F w j r _ E G.T.g y;exact Dl E G.T.g G.T.b G.T.builtins G.T.nolimit M m i (W_ c z) P Q S (λH J N=>A w H a ns c J N) λH e s'=>B w H p e s'
end L2
namespace L2
abbrev CX0:CXT:=λ_ _ _ _ _ _=>False
abbrev E0:XK:=λ_ _ _=>False
theorem Dm:kj CX0 X E0:=λ_ _ _ _ _ _ _ h=>h.elim
structure Fun (K:a8) (x qual:ai) (st:eD) (f:am) (fd:dk):Prop where
 ex:∃(oc:av) (od:Option am) (kV doc pm:av) (an:Option am) (cdv ct:av) (osl:Array (Option av)),
  fd=mx x qual (cV st) (cF st) (aB st) .none kV doc pm an cdv ct/\K.lookup f=ab ⟨oc,od,.func fd,osl⟩/\oC K cdv qual=ag
 kp:jv K (.ref f)=ag
section
variable {P:bE}{w:bS}{K:a8}
theorem Fun.ok {st:eD} (F:Fun K x b st f j) (S:eG N ps (aB st)) (i:∀vs H Q E,sp vs H Q E->vs.length=ps.length) (d:∀(c:av) (A:eB) (a:List t5) (s:aI) (H:Hp) (vs:List V) (Q:VK) (E:XK),mX k (A.deeper (iq b (aB st) s.heap.objs.size f c))->sp vs H Q E ->
   ∃t,PSs (wN CX0 P w K mg base N b (aB st) f c A a s H E).nox (cF st) t/\t { nx:=λ_ H'=>Q .non H',rt:=Q} (start N vs) H):adq P w K mg base CX0 (k+1) f j ps sp:=by
 obtain⟨p,r,kV,m,v,y,c,u,o,rfl,n,g⟩:=F.ex;refine U7 n g S i λA a s H vs Q E l e=>?_;obtain⟨t,h,q⟩:=d c A a s H vs Q E l e;exact⟨t,h.nox,q⟩
theorem Fun.binds {st:eD} (F:Fun K x a st f i) (h:∀(kV c d:av) (g:Option am) (b e:av) (us:List av),us.length=ps.length->cy (mx x a (cV st) (cF st) (aB st) .none kV c d g b e) ⟨us,[]⟩=a5 (ps.zip us)):Binds K i ps []:=by
 obtain⟨l,m,kV,c,d,g,b,e,k,rfl,n,j⟩:=F.ex;exact .all (h kV c d g b e)
theorem Do {st:eD}{kV d g b h:av} (l:K.lookup f=ab ⟨j,m,.func (mx x a (cV st) (cF st) (aB st) .none kV d g i b h),e⟩) (c:oC K b a=ag) (k:jv K (.ref f)=ag):Fun K x a st f (mx x a (cV st) (cF st) (aB st) .none kV d g i b h):=⟨⟨j,m,kV,d,g,i,b,h,e,rfl,l,c⟩,k⟩
variable {X:Cx}
theorem pv (i:Nat) {b:ka} (e:X.N[i]?=ab x:=by rfl) (d:Vis X.env.scope x:=by first | exact gs rfl | exact e6 (gs rfl) | exact e6 (e6 rfl)) (c:(x==("__debug__":ai))=ah:=by decide) (a:(x==("__classdict__":ai))=ah:=by decide):PE X (.Name x b) (Uk i):=Ph e d c a
end
theorem YF {A B:Prop}(h:B):if ah=ag then A else B:=by
 rw[ace B_];exact h
theorem YG {A B:Prop}(h:A):if ag=ag then A else B:=by
 rw[aca rfl];exact h
section
variable {κ:Type}[DecidableEq κ]
theorem iW:∀{l:List κ}{k:κ},l.Nodup->¬k∈l->(l++[k]).Nodup
 |[],k,_,_=>by simp
 |a::r,k,h,hk=>by
  obtain⟨b,c⟩:=ZV.mp h
  show (a::(r++[k])).Nodup
  refine ZV.mpr ⟨λm=>?_,iW c λm=>hk (n_.mpr (e6 m))⟩
  rcases t_.mp m with q | q
  ·
   exact b q
  ·
   exact hk (n_.mpr (gs (e_.mp q).symm))
end
theorem lF {F:ai × d4->ai × d4} (b:∀p,(F p).1=p.1):∀{a:List (ai × d4)},a.lookup x=ab k->(a.map F).lookup x=ab (F (x,k)).2
 |[],h=>by cases h
 | (m,q)::r,h=>by
  have d:=b (m,q)
  rw[D_,show F (m,q)=(m,(F (m,q)).2) from i4 d rfl]
  by_cases e:x=m
  ·
   subst e
   rw[List.lookup_cons_self] at h |-
   cases h
   rfl
  ·
   have c:(x==m)=ah:=aak.mpr e
   simp only[d5,c] at h |-
   exact lF b h
theorem jk {env:t5}{a:List (ai × d4)} (h:a.lookup x=ab .free):
  (a.map λ(n,k)=>if (k==cr&&env.scope.kind==.function&&env.kindOf n==ab .cell) then (n,dA) else (n,k)).lookup x=ab .cell \/
  (a.map λ(n,k)=>if (k==cr&&env.scope.kind==.function&&env.kindOf n==ab .cell) then (n,dA) else (n,k)).lookup x=ab .free:=by
 rw[lF (F:=λ(n,k)=>if (k==cr&&env.scope.kind==.function&&env.kindOf n==ab .cell) then (n,dA) else (n,k)) (λp=>by dsimp only;split <;> rfl) h];dsimp only;split
 .exact .inl rfl
 exact .inr rfl
theorem m7 (h:∀y∈scope.names,y.2=.free->∃c,env.cells.lookup y.1=ab c):
  ∃d,closureFor scope env=a5 d/\(∀x c,d.lookup x=ab c->env.cells.lookup x=ab c)/\∀y∈scope.names,y.2=.free->∃c,d.lookup y.1=ab c:=by
 have w:∀(b:List (ai × d4)) (g:List (ai × am)),(∀y∈b,y.2=.free->∃c,env.cells.lookup y.1=ab c)->(∀x c,g.lookup x=ab c->env.cells.lookup x=ab c) ->
   ∃d:List (ai × am),(iO b g (λ(x:ai × d4) (r:List (ai × am))=>(do
    if x.2==.free then do
     let a <- tF env x.1
     a5 (b9 ((x.1,a)::r))
    else a5 (b9 r):k0 (ForInStep (List (ai × am))))):k0 (List (ai × am)))=a5 d/\(∀x c,d.lookup x=ab c->env.cells.lookup x=ab c) /\
    (∀x c,g.lookup x=ab c->∃p,d.lookup x=ab p)/\∀y∈b,y.2=.free->∃c,d.lookup y.1=ab c:=by
  intro b
  induction b with
  |nil=>intro g _ u;exact⟨g,rfl,u,λx c e=>⟨c,e⟩,λy f=>nomatch f⟩
  |cons y r A =>
   intro g v u
   obtain⟨n,k⟩:=y
   by_cases z:k=.free
   ·
    subst z
    obtain⟨c,B⟩:=v (n,.free) k_ rfl
    have i:tF env n=a5 c:=by unfold tF;rw[B]
    obtain⟨d,e,l,s,o⟩:=A ((n,c)::g) (λy f=>v y (u_ _ f)) (λx p q=>by
     simp only[aaj] at q
     cases j:x==n with
     |true=>rw[j] at q;cases q;rw[eq_of_beq j];exact B
     |false=>rw[j] at q;exact u x p q)
    refine⟨d,?_,l,λx p q=>?_,λy f t=>?_⟩
    ·
     rw[qo]
     show ((if (cr==cr)=ag then (tF env n >>= λa=>a5 (b9 ((n,a)::g))) else a5 (b9 g)) >>= _)=_
     rw[i]
     exact e
    ·
     cases j:x==n with
     |true=>exact s x c (by simp only[aaj,j])
     |false=>exact s x p (by simp only[aaj,j];exact q)
    ·
     rcases n_.mp f with rfl | f
     ·
      exact s n c (by simp [aaj])
     ·
      exact o y f t
   ·
    obtain⟨d,e,l,s,o⟩:=A g (λy f=>v y (u_ _ f)) u
    have C:(k==cr)=ah:=by simpa using z
    refine⟨d,?_,l,s,λy f t=>?_⟩
    ·
     rw[qo]
     show ((if (k==cr)=ag then (tF env n >>= λa=>a5 (b9 ((n,a)::g))) else a5 (b9 g)) >>= _)=_
     rw[C]
     exact e
    ·
     rcases n_.mp f with rfl | f
     ·
      exact ach t z
     ·
      exact o y f t
 obtain⟨d,e,l,_,o⟩:=w scope.names [] h (λx c q=>by simp at q);refine⟨d,?_,l,o⟩;unfold closureFor;exact T_ (λm=>m >>= λr=>a5 r) e
def bY (X:Cx) (N':List ai) (scope:Scope) (c:List (ai × am)) (a:List (am × dL)) (s:aI) (H:Hp) (C:am) (b:List am):Cx where
 prog:=X.prog
 w:=X.w
 K:=X.K
 mg:=X.mg
 base:=X.base
 A:=X.A
 N:=N'
 s₀:=s
 H₀:=H
 env:=compEnvC scope c C X.env
 outer:=X.stack
 stack:=X.stack
 ex:=b
 fn:=λx=>scope.names.lookup x==ab .cell
 calm:=X.calm
 pn:=X.pn++a
 xe:=λ_ _=>False
def PIf (X:Cx) (b:List Expr) (t:TT):Prop :=
 ∀(a:List (am × dL)) (s:aI) (d:St) (H:Hp) (Q:Bool->Hp->Prop),Inv X a d H s->t d H Q ->
  aE (ay X.prog X.w) X.A (iO b ag λc r=>if r=ag then do let e <- isTrue c X.env (br c X.env);a5 (b9 e) else a5 (b9 r)) (TP X a d Q) X.xe s
def YH:TT:=λ_ H Q=>Q ag H
theorem Jg:PIf X [] YH:=λ_ _ _ H _ I h=>wpAny_tests_nil ⟨H,I,h⟩
theorem Jh (h:PT X c t):PIf X [c] t:=λa s b H Q I d=>wpAny_tests_one (h a s b H Q I d)
theorem rm (I:Nat->aI->Prop) (E:∀n s,I n s->aE (ay prog w) A (kK it) (λr d=>match r with | .none=>R (.ok .next) d | .some v=>aE (ay prog w) A (fz a it v) (λ_ e=>aE (ay prog w) A (f_ a env v) (λ_ f=>aE (ay prog w) A (iO u ag λc r=>if r=ag then do let B <- isTrue c env (br c env);a5 (b9 B) else a5 (b9 r)) (λB b=>if B=ag then aE (ay prog w) A (br t env) (λx p=>aE (ay prog w) A (oI (.builtin "list.append") [q,x]) (λ_ k=>∃m,m<n/\I m k) (λ_ _=>False) p) (λ_ _=>False) b else ∃m,m<n/\I m b) (λ_ _=>False) f) (λ_ _=>False) e) (λ_ _=>False) d) (λ_ _=>False) s) (n:Nat) (h:I n s):dP (ay prog w) A (.compLoop (.ListComp t [⟨a,i,u,0⟩] scope F) 0 it q env) R s:=by
 refine codeAny_loop rfl I (λj g G=>?_) n h;show aE _ A ((compTurn (.ListComp t [⟨a,i,u,0⟩] scope F) 0 it q env).onRaise (λx=>do noteFrame x env;theTreesLotGoes x)) _ _ g;refine wpAny_noted ?_;rw[compTurn_list];refine d_ (ma (d_ (aad (E j g G) (λr d o=>?_) λ_ _ h'=>h'.elim)));cases r with
 |none=>exact o_ o
 |some v =>
 refine d_ (aad o (λ_ e y=>?_) λ_ _ h'=>h'.elim);refine d_ (aad y (λ_ f C=>d_ (aad C (λB b l=>?_) λ_ _ h'=>h'.elim)) λ_ _ h'=>h'.elim);cases B with
 |false=>exact (o_ (And.intro rfl l))
 |true =>
 exact d_ (d_ (aad l (λx p z=>d_ (aad z (λ_ k D=>o_ (o_ ⟨rfl,D⟩)) λ_ _ h'=>h'.elim)) λ_ _ h'=>h'.elim))
def yO (J:It) (g:TG) (tt:TT) (te:TE) (h:List V->Hp->Prop) (c:St) (e:Hp):Prop :=
 ∃W:Nat->Nat->List V->St->Hp->Prop,(∃m,W 0 m [] c e)/\∀i m d j H,W i m d j H ->
  (J.stop i H/\d.length<=ap/\h d H) \/
  (J.go i H/\∀x H',J.yld i H x H'->g x j H' λa l=>tt a l λb H3=>if b=ag then te a H3 λy k=>d.length<ap/\∃f,f<m/\W (i+1) f (d++[y]) a k else ∃f,f<m/\W (i+1) f d a H3)
def pH (nt:Nat) (cap:List Nat) (a:St):St:=a4 nt ae++cap.map λj=>(a[j]?).getD ae
structure acK (X:Cx) (N':List ai) (nt:Nat) (cap:List Nat) (scope:Scope):Prop where
 kind:scope.kind=.function
 cells:∀y∈scope.names,y.2=.cell->scope.names.lookup y.1=ab .cell
 names:∀x∈scope.names,x.2=.local->scope.names.lookup x.1=ab .local
 free:∀y∈scope.names,y.2=.free->X.env.kindOf y.1=ab .cell\/X.env.kindOf y.1=ab .free
 len:N'.length=nt+cap.length
 caps:∀(j:Nat) (x:ai),N'[nt+j]?=ab x->∃i,cap[j]?=ab i/\X.N[i]?=ab x/\scope.names.lookup x=ab .free
theorem lU (e:s.heap.get? l=ab { cls:=.type "list",data:=.seq a.toArray n}) (hz:a.length<ap) (h:∀h' n',h'.get? l=ab { cls:=.type "list",data:=.seq (a++[u]).toArray n'}->(∀b o,b≠l->s.heap.get? b=ab o->h'.get? b=ab o)->Q .none { s with heap:=h'}):
  aE (ay P w) A (oI (.builtin "list.append") [.ref l,u]) Q E s:=by
 refine ab0 nk ⟨_,e,rfl⟩ l9 (k9 _ _) (list_append l a.toArray n u (by rw[z_];omega)) ⟨e,?_⟩;have q:=PySem.IsL.update e (·.push u);rw[List.push_toArray] at q;exact h _ _ q (λb o c d=>(aax s.heap _ (a6 c)).trans d)
theorem cg:∀(b:List (ai × d4)) (n:Nat) (a:List (ai × am)),ba n b a=ba n b []++a
 |[],_,_=>rfl
 | (x,k)::r,n,a=>by
  unfold ba
  split
  ·
   rw[cg r (n+1) ((x,n)::a),cg r (n+1) [(x,n)],y_]
   rfl
  ·
   exact cg r n a
theorem dR {a:Type}(x:ai):∀(l m:List (ai × a)),(l++m).lookup x=(l.lookup x).or (m.lookup x)
 |[],_=>rfl
 | (y,v)::r,m=>by
  rw[aa7,aaj,aaj,dR x r m]
  cases x==y <;> rfl
theorem gR (h:(ba n a b).lookup x=ab c):(ba n a []).lookup x=ab c\/((ba n a []).lookup x=ae/\b.lookup x=ab c):=by
 rw[cg,dR] at h;cases e:(ba n a []).lookup x with
 |some d=>rw[e] at h;exact .inl h
 |none=>rw[e] at h;exact .inr ⟨rfl,h⟩
theorem ju:∀{a:List (ai × d4)}{n:Nat}{b:List (ai × am)},(x,c)∈ba n a b->(x,dA)∈a\/(x,c)∈b
 |[],_,_,h=>.inr h
 | (y,k)::r,n,b,h=>by
  unfold ba at h
  split at h
  ·
   rename_i d
   rcases ju h with q | q
   ·
    exact .inl (u_ _ q)
   ·
    rcases n_.mp q with q | q
    ·
     cases q
     have:k=.cell:=by simpa using d
     subst this
     exact .inl k_
    ·
     exact .inr q
  ·
   rcases ju h with q | q
   ·
    exact .inl (u_ _ q)
   ·
    exact .inr q
theorem Ji (g:Q (newEnv scope s.heap.objs.size b (ba (s.heap.objs.size+1) scope.names a) c ae .none (ab env) mI) { s with heap:=lI (s.heap.push { cls:=.type "dict",data:=.dict #[]}) scope.names}):
  aE M A (kM scope b a [] c ae .none (ab env)) Q E s:=by
 simp only[kM,abQ,if_true];refine d_ (wpAny_alloc ?_);refine d_ (wpAny_layCells _ (λname d f=>by cases e:d==dA <;> simp [e]) _ _ _ _ ?_);rw[show ({ s with heap:=s.heap.push { cls:=.type "dict",data:=.dict #[]}}:aI).heap.objs.size=s.heap.objs.size+1 from aaH ..];refine d_ ?_;rw[List.forIn_nil];exact o_ (o_ g)
theorem Dp {P:St}{U:List am}{C:am} (S:acK X N' nt cap scope) (I:Inv X g P H s) (R:∀x c,l.lookup x=ab c->X.env.cells.lookup x=ab c) (D:∀y∈scope.names,y.2=.free->∃c,l.lookup y.1=ab c) (hf:∀b∈U,pC X g H b) (Q:∀b∈U,b<s.heap.objs.size) (w:s.heap.objs.size<C) (hn:h'.Ns C λ_=>ae) (J:∀b o,s.heap.get? b=ab o->h'.get? b=ab o) (hp:∀p∈pl,h'.get? p.1=ab p.2/\s.heap.objs.size=p.1/\∀v,p.2.data≠.cell v) (t:CellsOk h' (C+1) (ba (C+1) scope.names [])):
  Inv (bY X N' scope (ba (C+1) scope.names l) g s H C U) pl (pH nt cap P) H { s with heap:=h',toks:=tk}:=by
 have h:∀x c,(ba (C+1) scope.names l).lookup x=ab c->(C+1<=c/\(ba (C+1) scope.names []).lookup x=ab c)\/X.env.cells.lookup x=ab c:=λx c e=>by
  rcases gR e with q | q
  .exact .inl ⟨(t.empty x c (mem_of_lookup q)).2,q⟩
  exact .inr (R x c q.2)
 have M:∀x c,X.env.cells.lookup x=ab c->c<s.heap.objs.size:=λx c e=>by obtain⟨v,q⟩:=I.cell x c e;exact q.lt
 have hok:(bY X N' scope (ba (C+1) scope.names l) g s H C U).Ok:=by
  refine⟨I.ok.mod,S.kind,I.ok.glob,I.ok.blt,aai w,λx y c e1 r=>?_,λx hx=>?_,λx c z e=>?_,I.ok.hd,I.ok.frames,.inl rfl,λb B=>?_,I.bs,W_ I.ok.bsz I.sz,λb o e B=>?_,λb B z=>?_,I.stack,I.stkFree⟩
  .rcases h x c e1 with ⟨V,p1⟩ | V
   .rcases h y c r with ⟨K,p2⟩ | K
    .exact name_of_addr t.apart (mem_of_lookup p1) (mem_of_lookup p2)
    exact ach (V_ (aay (abj (M y c K) w)) V) (ZK _)
   rcases h y c r with ⟨K,p2⟩ | K
   .exact ach (V_ (aay (abj (M x c V) w)) K) (ZK _)
   exact I.ok.inj x y c V K
  .have hx':(nE scope X.env).names.lookup x=ab .cell\/(nE scope X.env).names.lookup x=ab .free:=hx;have hm:∃k,(x,k)∈(nE scope X.env).names/\(k=.cell\/k=.free):=by
    rcases hx' with z | z
    .exact⟨_,mem_of_lookup z,.inl rfl⟩
    exact⟨_,mem_of_lookup z,.inr rfl⟩
   obtain⟨k,hm,J⟩:=hm;obtain⟨⟨n,W⟩,O,e⟩:=l_.mp hm;have E:(if (W==cr&&X.env.scope.kind==.function&&X.env.kindOf n==ab .cell)=ag then (n,dA) else (n,W))=(x,k):=e;by_cases G:W=.free
   .subst G;have en:n=x:=by split at E <;> exact T_ Prod.fst E
    subst en;obtain⟨c,ec⟩:=D (n,.free) O rfl;show ∃c,(ba (C+1) scope.names l).lookup n=ab c;rw[cg,dR,ec];cases (ba (C+1) scope.names []).lookup n with
    |none=>exact⟨c,rfl⟩
    |some d=>exact⟨d,rfl⟩
   have B:(W==cr)=ah:=by simpa using G
   rw[B] at E;simp only[gT,I_,Zj] at E;cases E;rcases J with rfl | rfl
   .obtain⟨c,ec⟩:=jK (n:=C+1) (S.cells _ O rfl);refine⟨c,?_⟩;show (ba (C+1) scope.names l).lookup _=ab c;rw[cg,dR,ec];rfl
   exact ach rfl G
  .have z':scope.names.lookup x=ab .cell:=by simpa [bY] using z
   obtain⟨d,ed⟩:=jK (n:=C+1) z';have E:(ba (C+1) scope.names l).lookup x=ab c:=e;rw[cg,dR,ed] at E;cases E;have:=(t.empty x _ (mem_of_lookup ed)).2;show s.heap.objs.size<=_;omega
  .obtain⟨f0,f1,f2,Z,f4,f5⟩:=hf b B;refine⟨λz=>ach (Q b B) (abC.mpr (by rw[show b=C from z];exact aai w)),λx c e=>?_⟩;rcases h x c e with ⟨q,_⟩ | q
   .intro z;rw[z] at q;exact ach (V_ (aay (abj (Q b B) w)) q) (ZK _)
   exact f4 x c q
  .obtain⟨f0,f1,f2,Z,f4,f5⟩:=hf b B;rcases Z with q | q
   .exact I.ok.noex b o e q
   exact ach (L_ (I.ok.bs b o e).1) (abC.mpr q)
  obtain⟨f0,f1,f2,Z,f4,f5⟩:=hf b B;rcases n_.mp (I.stkSub b z) with q | q
  .exact f1 q
  exact f2 q
 obtain⟨m,hnm,hl⟩:=id I.loc;refine⟨hok,rfl,I.bare,Un.kept J,⟨_,hn,λi x v e1 r e3=>?_⟩,λx c e=>?_,I.hok.fresh (aai w),λx c e=>?_,λp hp'=>?_,I.hok.kept J,?_⟩
 ·-- a name of the block: one that it takes from around
  unfold pH at r;by_cases hi:i<nt
  .rw[Y_ (by simpa using hi),aa6] at r;split at r <;> cases r
  obtain⟨j,rfl⟩:∃j,i=nt+j:=⟨i - nt,adC⟩;obtain⟨k,ck,hN,f⟩:=S.caps j x e1;rw[H_ adE,abq,Nat.add_sub_cancel_left,J_,ck] at r;have A:(P[k]?).getD ae=ab v:=Zg r;have L:P[k]?=ab (ab v):=by
   cases q:P[k]? with
   |none=>rw[q] at A;cases A
   |some z=>rw[q] at A;exact T_ ab A
  have T:=S.free (x,.free) (mem_of_lookup f) rfl;obtain⟨u,ru,lk⟩:=hl k x v hN L (.inr T);refine⟨u,ru,.inr ⟨jk f,?_⟩⟩;rcases lk with ⟨kl,_⟩ | ⟨_,c,hc,F⟩
  .rcases T with z | z <;> (rw[kl] at z;cases z)
  obtain⟨c',N⟩:=D (x,.free) (mem_of_lookup f) rfl;have e:=R x c' N;rw[hc] at e;cases e;obtain⟨o,ho,Y⟩:=F;refine⟨c,?_,o,J _ _ ho,Y⟩;show (ba (C+1) scope.names l).lookup x=ab c;rw[cg,dR];cases q:(ba (C+1) scope.names []).lookup x with
  |none=>exact N
  |some d =>
  rcases ju (mem_of_lookup q) with z | z
  .have:=S.cells _ z rfl;rw[f] at this;cases this
  cases z
 .rcases h x c e with ⟨_,q⟩ | q
  .exact⟨ae,(t.empty x c (mem_of_lookup q)).1⟩
  obtain⟨v,o,ho,Y⟩:=I.cell x c q;exact⟨v,o,J _ _ ho,Y⟩
 .rcases h x c e with ⟨q,_⟩ | q
  .exact I.hok.fresh (aai (V_ (aay w) q))
  exact I.freeC x c q
 .rcases t_.mp hp' with z | z
  .obtain⟨e,n,n1,n2,d⟩:=I.pin p z;refine⟨J _ _ e,n,λq=>?_,λq=>?_,d⟩
   .exact ach (L_ e) (abC.mpr (by rw[show p.1=C from q];exact aai w))
   rcases n_.mp (I.stkSub p.1 q) with q | q
   .exact n1 q
   exact n2 q
  obtain⟨e,n,d⟩:=hp p z;refine⟨e,I.hok.fresh adC,λq=>?_,λq=>?_,d⟩
  .exact ach (n.trans (show p.1=C from q)) (Zk w)
  have:=I.stkSub p.1 q;rcases n_.mp this with q | q
  .exact ach I.lt (abC.mpr (by rw[<- q,n];exact m_ _))
  exact I.nofs adC q
 unfold pH;show _=N'.length;rw[a_,abq,b_,S.len]
theorem HOk.track (x:HOk P w H h) (i:H a=ae) (l:H C=ae) (k:∀b u,b≠C->h.get? b=ab u->h'.get? b=ab u) (f:xr P w (upd H a o) h' a o):HOk P w (upd H a o) h':=λb u e=>by
 by_cases j:b=a
 .subst j;rw[cu] at e;cases e;exact f
 rw[bu j] at e;have g:∀c z,H c=ab z->c≠C:=λc z q r=>by rw[r,l] at q;cases q
 refine (x b u e).stay (λc v d q=>k c v ?_ q) (λc q=>by rw[bu (cD q i)];exact q) λc xs q=>by rw[bu (cD q i)];exact q
 rcases d with rfl | d
 .exact g c u e
 exact g c _ d
theorem uq {σ:St}{RR:av->am->Result->aI->Prop} (hc:X.calm=ag) (S:acK X N' nt cap scope) (hcl:∀x c,L.lookup x=ab c->X.env.cells.lookup x=ab c) (hclh:∀y∈scope.names,y.2=.free->∃c,L.lookup y.1=ab c) (hX:∀L a s H C l,PG (bY X N' scope L a s H C l) tg g/\PIf (bY X N' scope L a s H C l) ifs tt/\PE (bY X N' scope L a s H C l) elt te) (I:Inv X a σ f s₂) (T:Turn X.prog X.w X.K tg J l it tn) (st:tn 0 s₂.heap) (hf:∀b∈l,pC X a f b) (hw:yO J g tt te fin (pH nt cap σ) f) (hRR:∀(D C:am) (s₄:aI) (m:ai->Option av) (U:List V) (H':Hp),s₄.heap.Ns C m->s₂.heap.objs.size<=D->s₂.heap.objs.size<=C->C≠D->H' D=ae->H' C=ae->U.length<=ap->fin U H' ->
   (∀h',(∀b o,b≠C->s₄.heap.get? b=ab o->h'.get? b=ab o)->Inv X a σ (upd H' D (.lst U)) { s₄ with heap:=h'})->RR (.ref D) C (.ok .next) s₄):
  aE (ay X.prog X.w) X.A (newList []) (λacc G=>aE (ay X.prog X.w) X.A (kM scope X.env.globals L [] X.env.qual ae .none (ab X.env)) (λcenv s₄ =>
   dP (ay X.prog X.w) X.A (.compStart (.ListComp elt [⟨tg,iter,ifs,0⟩] scope pos) 0 (.ref it) acc { cenv with scope:=nE scope X.env}) (RR acc cenv.locals) s₄) E G) E s₂:=by
 refine aan (Ji ?_);dsimp only;generalize hH2:s₂.heap.push { cls:=.type "list",dict:=ae,data:=.seq ([]:List av).toArray}=B;generalize Z:s₂.heap.objs.size=D;have hB:B.objs.size=D+1:=by rw[<- hH2,aaH,Z]
 have F:CellsOk (lI (B.push { cls:=.type "dict",data:=.dict #[]}) scope.names) (B.objs.size+1) (ba (B.objs.size+1) scope.names []):=by have:=cellsFrom_ok scope.names (B.push { cls:=.type "dict",data:=.dict #[]}) (B.objs.size+1) [] ⟨λ_ _ hm=>(nomatch hm),ic⟩ (by rw[aaH];exact m_ _);rw[aaH] at this;exact this
 have t:(lI (B.push { cls:=.type "dict",data:=.dict #[]}) scope.names).Ns B.objs.size λ_=>ae:=(Heap.Ns.new B (.type "dict")).keeps (qa _ _);have M:∀b o,B.get? b=ab o->(lI (B.push { cls:=.type "dict",data:=.dict #[]}) scope.names).get? b=ab o:=λb o e=>qa _ _ b o (h_ _ e);generalize hCe:B.objs.size=C at t F |-;generalize lI (B.push { cls:=.type "dict",data:=.dict #[]}) scope.names=P at t F M |-;have hCD:C=D+1:=hCe.symm.trans hB;have hDC:D≠C:=by rw[hCD];exact Zk (aa5 _)
 have Q:s₂.heap.objs.size<C:=by rw[Z,hCD];exact aa5 _
 have below:∀b o,s₂.heap.get? b=ab o->b≠C/\b≠D:=λb o e=>by have:=L_ e;rw[Z] at this;exact⟨by rw[hCD];exact Zk (aay this),Zk this⟩
 have old:∀b o,s₂.heap.get? b=ab o->P.get? b=ab o:=λb o e=>M b o (hH2▸h_ _ e);have hacc:P.get? D=ab { cls:=.type "list",data:=.seq ([]:List av).toArray 0}:=M _ _ (hH2▸Z▸G_ _ rfl);have N:tn 0 P:=T.keep _ _ _ st λb j o e=>old b o e;have hfl:∀b∈l,b<s₂.heap.objs.size:=λb j=>by obtain⟨o,e,_⟩:=T.obj _ _ st b j;exact L_ e
 obtain⟨W,⟨m0,w0⟩,turn⟩:=hw;obtain⟨hg,hi,he⟩:=hX (ba (C+1) scope.names L) a s₂ f C l;have stat:∀{H':Hp} {k:Nat} {h:List av},(∀b∈l,H' b=ae)->∀b∈l,pC (bY X N' scope (ba (C+1) scope.names L) a s₂ f C l) [(D,{ cls:=.type "list",data:=.seq h.toArray k})] H' b:=λ{H' k h} hn b j=>by
  obtain⟨f0,f1,f2,f3,f4,f5⟩:=hf b j;have hlt:=hfl b j;refine⟨hn b j,λz=>?_,λz=>?_,.inl j,λx c e=>?_,λp hp=>?_⟩
  .rw[show b=C from z] at hlt;exact ach hlt (abC.mpr (aai Q))
  .rcases n_.mp (I.stkSub b z) with q | q
   .exact f1 q
   exact f2 q
  .rcases gR e with q | q
   .have:=(F.empty x c (mem_of_lookup q)).2;intro z;rw[z] at this;exact ach (V_ (aay (abj hlt Q)) this) (ZK _)
   exact f4 x c (hcl x c q.2)
  rcases t_.mp hp with z | z
  .exact f5 p z
  rw[e_.mp z];intro e;rw[<- (show D=b from e),Z] at hlt;exact ZK _ hlt
 have loop:∀G:aI,G={ s₂ with heap:=P}->dP (ay X.prog X.w) X.A (.compLoop (.ListComp elt [⟨tg,iter,ifs,0⟩] scope pos) 0 (.ref it) (.ref D) (compEnvC scope (ba (C+1) scope.names L) C X.env)) (RR (.ref D) C) G:=by
  rintro G rfl;refine rm (λn s'=>∃i U h k σ' H',Inv (bY X N' scope (ba (C+1) scope.names L) a s₂ f C l) [(D,{ cls:=.type "list",data:=.seq h.toArray k})] σ' H' s'/\Vals U h/\tn i s'.heap/\(∀b∈l,H' b=ae)/\W i n U σ' H'/\U.length<=ap) ?_ m0
   ⟨0,[],[],0,pH nt cap σ,f,Dp (tk:=s₂.toks) S I hcl hclh hf hfl Q t old (λp hp=>?_) F,.nil,N,λb j=>(hf b j).1,w0,aae _⟩
  .rintro n s3 ⟨i,U,h,k,σ3,H3,I3,rv,st3,fr3,w3,hz⟩;have pD:=I3.pin (D,{ cls:=.type "list",data:=.seq h.toArray k}) (Ze _ (e_.mpr rfl));rcases turn i n U σ3 H3 w3 with ⟨stop,hz',hfin⟩ | ⟨go,step⟩
   .refine My (T.done (bY X N' scope (ba (C+1) scope.names L) a s₂ f C l) rfl rfl rfl hc i _ s3 σ3 H3 (λ_ _=>False) I3 (stat fr3) st3 stop) λr s4 ⟨hr,I4⟩=>?_;subst hr;obtain⟨m4,hn4,_⟩:=I4.loc;have pD4:=I4.pin (D,{ cls:=.type "list",data:=.seq h.toArray k}) (Ze _ (e_.mpr rfl));refine hRR D C s4 m4 U H3 hn4 (by rw[Z];exact m_ _) (aai Q) (a6 hDC) pD4.2.1 I4.free hz' hfin λh' k'=>?_;have nD:∀b u,H3 b=ab u->b≠D:=λb u e z=>by rw[z,pD4.2.1] at e;cases e
    have nDs:∀b o,s₂.heap.get? b=ab o->b≠D/\b≠C:=λb o e=>⟨(below b o e).2,(below b o e).1⟩;have B4:=I4.base;refine I.call' (s':={ s4 with heap:=h'}) (ch:=l) I4.os ⟨λb o e n j hx=>k' b o (nDs b o e).2 (B4.keep b o e n j hx),λb o e n j hx=>?_,λb o e n hx=>?_,λb o e hx=>?_,λb xs e=>?_,λb o u e=>?_,λb ps e=>?_⟩ ?_ I4.bare λb j=>?_
    .obtain⟨sl,q⟩:=B4.slot b o e n j hx;exact⟨sl,k' b _ (nDs b o e).2 q⟩
    .rw[bu (nDs b o e).1];exact B4.free b o e n hx
    .obtain⟨o',q⟩:=B4.there b o e hx;exact⟨o',k' b _ (nDs b o e).2 q⟩
    .have q:=B4.tups b xs e;rw[bu (nD _ _ q)];exact q
    .have q:=B4.frzs b o u e;rw[bu (nD _ _ q)];exact q
    .obtain⟨more,q⟩:=B4.tbls b ps e;exact⟨more,by rw[bu (nD _ _ q)];exact q⟩
    .exact I4.hok.track pD4.2.1 I4.free k' ⟨hz',h,k,rv,k' D _ hDC pD4.1⟩
    obtain⟨f0,f1,f2,f3,f4,f5⟩:=hf b j;exact⟨f3,f1,f4,f5⟩
   refine My (T.item (bY X N' scope (ba (C+1) scope.names L) a s₂ f C l) rfl rfl rfl hc i _ s3 σ3 H3 (λ_ _=>False) I3 (stat fr3) st3 go) λr s4 ⟨u,hr,h4⟩=>?_;subst hr;refine My h4 λ_ s5 ⟨x,H5,I5,r5,y5,st5,fr5⟩=>?_;have I5':=I5.pinned (stat fr5) (T.obj _ _ st5);refine My (hg _ s5 σ3 H5 x u _ I5' r5 (step x H5 y5)) λ_ s6 ⟨Y,H6,I6,q6⟩=>?_;refine My (hi _ s6 Y H6 _ I6 q6) λok s7 ⟨H7,I7,q7⟩=>?_;have O:∀{σ8:St} {H8:Hp} {s8:aI},Inv (bY X N' scope (ba (C+1) scope.names L) a s₂ f C l) ([(D,{ cls:=.type "list",data:=.seq h.toArray k})]++mR l s5.heap) σ8 H8 s8->tn (i+1) s8.heap/\∀b∈l,H8 b=ae:=λ{σ8 H8 s8} I8 =>
    ⟨T.keep _ _ _ st5 λb j o e=>(I8.pin (b,o) (Ze _ (Ze _ (gP j e)))).1,λb j=>by
     obtain⟨o,e,d⟩:=T.obj _ _ st5 b j
     exact (I8.pin (b,o) (Ze _ (Ze _ (gP j e)))).2.1⟩
   cases ok with
   |false=>rw[ace B_] at q7 |-;obtain⟨m',hm,w7⟩:=q7;exact⟨m',hm,i+1,U,h,k,Y,H7,I7.unpinned,rv,(O I7).1,(O I7).2,w7,hz⟩
   |true =>
   rw[aca rfl] at q7 |-;refine My (he _ s7 Y H7 _ I7 q7) λuy s8 ⟨y,H8,I8,ry,hz8,m',hm,w8⟩=>?_;have R:=I8.pin (D,{ cls:=.type "list",data:=.seq h.toArray k}) (Ze _ (Zq _ (e_.mpr rfl)));have hl:=rv.length;refine lU R.1 adC λh' k' e' kk=>?_;have I9:Inv (bY X N' scope (ba (C+1) scope.names L) a s₂ f C l) [] Y H8 { s8 with heap:=h'}:=by
    refine Inv.turned (t':=s8.toks) (it:=D) (I8.pins_of (pins':=[]) (λp hp=>nomatch hp)) (λb o j e=>kk b o j e) R.2.1 R.2.2.1 (.inr (by show s₂.heap.objs.size<=D;rw[Z];exact m_ _)) (λx c e z=>?_) (λp hp z=>?_)
    .rcases gR e with q | q
     .have:=(F.empty x c (mem_of_lookup q)).2;rw[z,hCD] at this;omega
     obtain⟨v,q⟩:=I.cell x c (hcl x c q.2);have:=q.lt;rw[z,Z] at this;exact ZK _ this
    rw[P_] at hp;have:=L_ (I.pin p hp).1;rw[z,Z] at this;exact ZK _ this
   refine⟨m',hm,i+1,U++[y],h++[uy],k',Y,H8,I9.pins_of λp hp=>?_,rv.append (.cons ry .nil),?_,(O I8).2,w8,?_⟩
   .rw[e_.mp hp];exact⟨e',R.2.1,R.2.2.1,R.2.2.2.1,λv z=>by cases z⟩
   .refine T.keep _ _ _ (O I8).1 λb j o e=>kk b o (λz=>?_) e;have:=hfl b j;rw[z,Z] at this;exact ZK _ this
   rw[a_,M_];omega
  rw[e_.mp hp];exact⟨hacc,Z,λv z=>by cases z⟩
 exact codeAny_compStart_list (loop _ rfl) (T.self _ 0 _ _ _ N (loop _ rfl))
def Vk (c:TI) (g:TG) (tt:TT) (te:TE) (nt:Nat) (cap:List Nat):TE:=λa H Q=>c a H λJ b=>yO J g tt te (λd H'=>∀p,H' p=ae->Q (.ref p) (upd H' p (.lst d))) (pH nt cap a) b
theorem Jj (W:X.calm=ag) (S:acK X N' nt cap scope) (K:PI X r c E) (V:∀n a s H C p,PG (bY X N' scope n a s H C p) r g/\PIf (bY X N' scope n a s H C p) i tt/\PE (bY X N' scope n a s H C p) f te) (L:∀x,c8 c X.env x=a5 x:=by intro _;rfl):PE X (.ListComp f [⟨r,c,i,0⟩] scope z) (Vk E g tt te nt cap):=by
 intro a s F H Q I h;rw[eval_ListComp];obtain⟨n,d,u,j⟩:=m7 (scope:=scope) (env:=X.env) λy O Y=>I.ok.has y.1 (S.free y O Y);refine io (use:=ae) rfl L d S.kind S.names (My (K a s F H _ I h) λv s1 G=>My G λN s2 h2=>?_);obtain⟨it,p,tn,J,H2,rfl,I2,T,B,Z,M⟩:=h2;refine uq (RR:=λq C=>compPost (ay X.prog X.w) X.A X.xe ae (EP X a F Q) q C) W S u j V I2 T B Z M λD C s4 m ys H' P hD hC R U nC hz l k=>?_;refine⟨m,P,λh' t=>?_⟩;exact⟨.ref D,_,k h' λb o hb e=>t.extBut b o hb e,rfl,l D U⟩
def Dq (c:TI) (g:TG) (tt:TT) (te:TE) (nt:Nat) (cap:List Nat) (i:Nat):TS:=λD a H=>c a H λJ b=>yO J g tt te (λd H'=>∀p,H' p=ae->D.nx (a.set i (ab (.ref p))) (upd H' p (.lst d))) (pH nt cap a) b
theorem Jk {u j r:ka} (hc:X.calm=ag) (hN:X.N.Nodup) (W:X.N[i]?=ab x) (hx:Loc X.env.scope x) (S:acK X N' nt cap scope) (hi:PI X B f wi) (hX:∀M d s H C P,PG (bY X N' scope M d s H C P) B g/\PIf (bY X N' scope M d s H C P) n tt/\PE (bY X N' scope M d s H C P) l te) (R:dt (.ListComp l [⟨B,f,n,0⟩] scope u) (ab (.Name x j)) r.line X.env=a5 ag:=by rfl) (hs:∀x,c8 f X.env x=a5 x:=by intro _;rfl) (hf:X.fn x=ag\/X.env.scope.names.lookup x=ab .local:=by first | exact .inl rfl | exact .inr rfl | assumption):
  PS X (.Assign [.Name x j] (.ListComp l [⟨B,f,n,0⟩] scope u) r) (Dq wi g tt te nt cap i):=by
 intro d s σ H Dn I h;rw[exec_Assign_Name_used _ _ _ _ R];obtain⟨M,t,hcl,F⟩:=m7 (scope:=scope) (env:=X.env) λy hy hf=>I.ok.has y.1 (S.free y hy hf);refine d_ (ma (d_ ?_));show aE _ X.A (do let _ <- comprehension (.ListComp l [⟨B,f,n,0⟩] scope u) scope X.env _ (newList []) ah (br f X.env) (ab (f_ (.Name x j) X.env))) _ _ s;refine d_ (aad (io (use:=ab (f_ (.Name x j) X.env)) (Q:=λ_ s'=>SP X d Dn .next s') rfl hs t S.kind S.names
  (My (hi d s σ H _ I h) λv s1 h1=>My h1 λitv s2 h2=>?_)) (λ_ s' hq=>o_ (o_ hq)) λ_ _ e=>e)
 obtain⟨it,P,tn,J,H2,rfl,L,T,st2,f2,hw⟩:=h2;refine uq (RR:=λU C=>compPost (ay X.prog X.w) X.A X.xe (ab (f_ (.Name x j) X.env)) (λ_ s'=>SP X d Dn .next s') U C) hc S hcl F hX L T st2 f2 hw λD C s4 m ys H' hn hD O Z nD nC hz G k=>?_;show aE _ X.A (f_ (.Name x j) X.env (.ref D)) _ _ s4;have I4:=k s4.heap λb o _ e=>e;have K:C≠X.env.locals:=λz=>by have:=L.lt;rw[<- z] at this;exact ach this (abC.mpr O)
 have E:∀y c,X.env.cells.lookup y=ab c->c≠C:=λy c e z=>by obtain⟨v,q⟩:=L.cell y c e;have:=q.lt;rw[z] at this;exact ach this (abC.mpr O)
 refine nw (pZ I4 hN W hx (show RelV (.ref D) (.ref D) from rfl) (λs5 I5 ⟨a,sb,Y⟩=>?_) hf);have V:C≠a:=by
  rcases Y with rfl | Y
  .exact K
  exact λz=>E x a Y z.symm
 refine⟨m,hn.sameBut sb V,λh' hs'=>⟨_,_,Inv.turned (t':=s5.toks) (it:=C) I5 (λb o hb e=>hs'.extBut b o hb e) (by rw[bu Z];exact nC) K (.inr (W_ L.sz O)) E (λp hp z=>?_),G D nD⟩⟩;have:=L_ (L.pin p hp).1;rw[z] at this;exact ach this (abC.mpr O)
def exP (e C:am) (d:Option am) (b:Bool) (h:cv):Prop:=∃vs a,h.get? e=ab ⟨.ref C,d,.fields vs,a⟩/\(b=ag->vs[1]?=ab .none)
def exO (e C:am) (d:Option am) (a:Bool):HO:=.ext (exP e C d a)
def dxP (c:am) (b:List (ai × V)) (h:cv):Prop:=∃a,h.Ns1 c a/\(∀f,acP (b.lookup f) (a f))/\j3 a (b.map (·.1))
def dxO (b:am) (a:List (ai × V)):HO:=.ext (dxP b a)
end L2
set_option maxHeartbeats 1000000
namespace L3
open L2
inductive T where
 |non | bl (b:Bool) | int (i:Int) | str (x:ai) | tup (ts:List T) | ref (a:am) | ty (n:String)
mutual
def Rep (K:a8) (H:Hp):T->V->Prop
 |.non,v=>v=.non
 |.bl b,v=>v=.bl b
 |.int i,v=>v=.int i
 |.str x,v=>v=.str x
 |.tup ts,v=>∃a xs,v=.ref a/\SqT K H a xs/\fY K H ts xs
 |.ref a,v=>v=.ref a
 |.ty n,v=>v=.ty n
def fY (K:a8) (H:Hp):List T->List V->Prop
 |[],xs=>xs=[]
 |t::ts,xs=>∃x r,xs=x::r/\Rep K H t x/\fY K H ts r
end
def jj (K:a8) (H H':Hp):Prop:=∀a xs,SqT K H a xs->SqT K H' a xs
theorem jj.refl {K:a8}:jj K H H:=λ_ _ h=>h
theorem jj.trans {K:a8} (a:jj K H e) (b:jj K e d):jj K H d:=λc xs h=>b c xs (a c xs h)
mutual
theorem Rep.mono {K:a8} (b:jj K H H'):∀{t:T}{v:V},Rep K H t v->Rep K H' t v
 |.non,_,h=>by simp only[Rep] at h |-;exact h
 |.bl _,_,h=>by simp only[Rep] at h |-;exact h
 |.int _,_,h=>by simp only[Rep] at h |-;exact h
 |.str _,_,h=>by simp only[Rep] at h |-;exact h
 |.ref _,_,h=>by simp only[Rep] at h |-;exact h
 |.ty _,_,h=>by simp only[Rep] at h |-;exact h
 |.tup ts,_,h=>by
  simp only[Rep] at h |-
  obtain⟨a,xs,e,s,r⟩:=h
  exact⟨a,xs,e,b a xs s,fY.mono b r⟩
theorem fY.mono {K:a8} (c:jj K H H'):∀{ts:List T}{xs:List V},fY K H ts xs->fY K H' ts xs
 |[],_,h=>by simp only[fY] at h |-;exact h
 |t::ts,_,h=>by
  simp only[fY] at h |-
  obtain⟨x,r,e,a,b⟩:=h
  exact⟨x,r,e,Rep.mono c a,fY.mono c b⟩
end
section
variable {K:a8}
theorem fY.nil:fY K H [] []:=by simp only[fY]
theorem fY.cons (a:Rep K H t v) (b:fY K H ts vs):fY K H (t::ts) (v::vs):=by simp only[fY];exact⟨v,vs,rfl,a,b⟩
theorem fY.inv (h:fY K H (t::ts) vs):∃v r,vs=v::r/\Rep K H t v/\fY K H ts r:=by simp only[fY] at h;exact h
theorem fY.inv0 (h:fY K H [] vs):vs=[]:=by simp only[fY] at h;exact h
theorem fY.length:∀{ts:List T}{vs:List V},fY K H ts vs->ts.length=vs.length
 |[],_,h=>by rw[h.inv0];rfl
 |t::ts,_,h=>by obtain⟨v,r,rfl,_,b⟩:=h.inv;simp [fY.length b]
theorem fY.get:∀{ts:List T}{vs:List V}{i:Nat}{t:T},fY K H ts vs->ts[i]?=ab t->∃v,vs[i]?=ab v/\Rep K H t v
 |[],_,_,_,_,e=>by simp at e
 |a::ts,_,0,t,h,e=>by obtain⟨v,r,rfl,q,_⟩:=h.inv;simp at e;subst e;exact⟨v,rfl,q⟩
 |a::ts,_,i+1,t,h,e=>by obtain⟨v,r,rfl,_,b⟩:=h.inv;simpa using fY.get b (by simpa using e)
theorem fY.get':∀{ts:List T}{vs:List V}{i:Nat}{v:V},fY K H ts vs->vs[i]?=ab v->∃t,ts[i]?=ab t/\Rep K H t v
 |[],_,_,_,h,e=>by rw[h.inv0] at e;simp at e
 |a::ts,_,0,v,h,e=>by obtain⟨x,r,rfl,q,_⟩:=h.inv;simp at e;subst e;exact⟨a,rfl,q⟩
 |a::ts,_,i+1,v,h,e=>by obtain⟨x,r,rfl,_,b⟩:=h.inv;simpa using fY.get' b (by simpa using e)
theorem fY.append:∀{ts us:List T}{xs c:List V},fY K H ts xs->fY K H us c->fY K H (ts++us) (xs++c)
 |[],_,_,_,h,h'=>by rw[h.inv0];exact h'
 |t::ts,_,_,_,h,h'=>by obtain⟨v,r,rfl,a,b⟩:=h.inv;exact .cons a (fY.append b h')
theorem fY.take:∀{ts:List T}{xs:List V}(n:Nat),fY K H ts xs->fY K H (ts.take n) (xs.take n)
 |[],_,n,h=>by rw[h.inv0];simp only[sM];exact .nil
 |t::ts,_,0,h=>.nil
 |t::ts,_,n+1,h=>by obtain⟨v,r,rfl,a,b⟩:=h.inv;exact .cons a (fY.take n b)
theorem fY.drop:∀{ts:List T}{xs:List V}(n:Nat),fY K H ts xs->fY K H (ts.drop n) (xs.drop n)
 |[],_,n,h=>by rw[h.inv0];simp only[List.drop_nil];exact .nil
 |t::ts,_,0,h=>h
 |t::ts,_,n+1,h=>by obtain⟨v,r,rfl,a,b⟩:=h.inv;exact fY.drop n b
theorem fY.set:∀{ts:List T}{xs:List V}{t:T}{v:V}(n:Nat),fY K H ts xs->Rep K H t v->fY K H (ts.set n t) (xs.set n v)
 |[],_,_,_,n,h,r=>by rw[h.inv0];exact .nil
 |t::ts,_,_,_,0,h,q=>by obtain⟨v,r,rfl,a,b⟩:=h.inv;exact .cons q b
 |t::ts,_,_,_,n+1,h,q=>by obtain⟨v,r,rfl,a,b⟩:=h.inv;exact .cons a (fY.set n b q)
theorem fY.reverse (h:fY K H ts xs):fY K H ts.reverse xs.reverse:=by
 induction ts generalizing xs with
 |nil=>rw[h.inv0];exact .nil
 |cons t ts c=>obtain⟨v,r,rfl,a,b⟩:=h.inv;simp only[abV];exact (c b).append (.cons a .nil)
theorem fY.eraseIdx:∀{ts:List T}{xs:List V}(n:Nat),fY K H ts xs->fY K H (ts.eraseIdx n) (xs.eraseIdx n)
 |[],_,n,h=>by rw[h.inv0];exact .nil
 |t::ts,_,0,h=>by obtain⟨v,r,rfl,a,b⟩:=h.inv;exact b
 |t::ts,_,n+1,h=>by obtain⟨v,r,rfl,a,b⟩:=h.inv;exact .cons a (fY.eraseIdx n b)
theorem Rep.non (h:Rep K H .non v):v=.non:=by simp only[Rep] at h;exact h
theorem Rep.bl (h:Rep K H (.bl b) v):v=.bl b:=by simp only[Rep] at h;exact h
theorem Rep.int (h:Rep K H (.int i) v):v=.int i:=by simp only[Rep] at h;exact h
theorem Rep.str (h:Rep K H (.str x) v):v=.str x:=by simp only[Rep] at h;exact h
theorem Rep.ref (h:Rep K H (.ref a) v):v=.ref a:=by simp only[Rep] at h;exact h
theorem Rep.ty (h:Rep K H (.ty n) v):v=.ty n:=by simp only[Rep] at h;exact h
theorem Rep.tup (h:Rep K H (.tup ts) v):∃a xs,v=.ref a/\SqT K H a xs/\fY K H ts xs:=by simp only[Rep] at h;exact h
theorem Rep.ofNon:Rep K H .non .non:=by simp only[Rep]
theorem Rep.ofBl:Rep K H (.bl b) (.bl b):=by simp only[Rep]
theorem Rep.ofInt:Rep K H (.int i) (.int i):=by simp only[Rep]
theorem Rep.ofStr:Rep K H (.str x) (.str x):=by simp only[Rep]
theorem Rep.ofRef:Rep K H (.ref a) (.ref a):=by simp only[Rep]
theorem Rep.ofTy:Rep K H (.ty n) (.ty n):=by simp only[Rep]
theorem Rep.ofTup (h:SqT K H a xs) (r:fY K H ts xs):Rep K H (.tup ts) (.ref a):=by simp only[Rep];exact⟨a,xs,rfl,h,r⟩
end
inductive O3 where
 |lst (ts:List T) | rol (ts:List T) | dct (kvs:List (ai × T)) | dcp (kvs:List (List Key × T))
 |exc (C:am) (d:Option am) | xdt (fs:List (ai × T))
 |dci (kvs:List (Int × T)) | dif (o:dL) (kvs:List (Int × T)) | ins (C:am) (fs:List (ai × T))
abbrev eH:=am->Option O3
def aY (H:eH) (a:am) (o:O3):eH:=λb=>if b=a then ab o else H b
theorem aA:aY H a o a=ab o:=by unfold aY;rw[aca rfl]
theorem aD (h:b≠a):aY H a o b=H b:=by unfold aY;rw[ace h]
theorem yP:aY (aY H a o) a u=aY H a u:=by funext b;unfold aY;split <;> rfl
def ac9 (K:a8) (H:Hp):List (ai × T)->List (Key × V)->Prop:=gg λ(p:ai × T) (q:Key × V)=>q.1=cf p.1/\Rep K H p.2 q.2
def aeY (K:a8) (H:Hp):List (List Key × T)->List (List Key × V)->Prop:=gg λ(p:List Key × T) (q:List Key × V)=>q.1=p.1/\Rep K H p.2 q.2
def adt (K:a8) (H:Hp):List (ai × T)->List (ai × V)->Prop:=gg λ(p:ai × T) (q:ai × V)=>q.1=p.1/\Rep K H p.2 q.2
def ada (K:a8) (H:Hp):List (Int × T)->List (Key × V)->Prop:=gg λ(p:Int × T) (q:Key × V)=>q.1=ce p.1/\Rep K H p.2 q.2
def afd (K:a8) (H:Hp) (a:am):O3->Prop
 |.lst ts=>∃xs,H a=ab (.lst xs)/\fY K H ts xs
 |.rol ts=>∃xs,Rd H a (.lst xs)/\fY K H ts xs
 |.dct kvs=>∃vs,H a=ab (.dK vs)/\ac9 K H kvs vs
 |.dcp kvs=>∃vs,H a=ab (.dT vs)/\aeY K H kvs vs
 |.exc C d=>H a=ab (exO a C d ah)
 |.xdt b=>∃vs,H a=ab (dxO a vs)/\adt K H b vs
 |.dci kvs=>∃vs,H a=ab (.dK vs)/\ada K H kvs vs
 |.dif o kvs=>∃vs,H a=ab (.frz o (.dK vs))/\ada K H kvs vs
 |.ins C b=>∃c vs,H a=ab (.ins C c vs)/\adt K H b vs
def mz (K:a8) (H3:eH) (H:Hp):Prop:=∀a o,H3 a=ab o->afd K H a o
abbrev St3:=List (Option T)
structure acr (K:a8) (H:Hp) (σ3:St3) (σ:L2.St):Prop where
 len:σ3.length=σ.length
 at':∀(i:Nat) (t:T),σ3[i]?=ab (ab t)->∃v,σ[i]?=ab (ab v)/\Rep K H t v
section
variable {K:a8}{H3:eH}
theorem acr.mono (s:acr K H σ3 σ) (a:jj K H H'):acr K H' σ3 σ:=⟨s.len,λi t e=>let ⟨v,e',r⟩:=s.at' i t e;⟨v,e',r.mono a⟩⟩
theorem acr.set (s:acr K H σ3 σ) (r:Rep K H t v):acr K H (σ3.set i (ab t)) (σ.set i (ab v)):=by
 refine⟨by simp [s.len],λj u e=>?_⟩;by_cases b:i=j
 .subst b;by_cases a:i<σ3.length
  .rw[abg a] at e;have c:t=u:=Zg (Zg e);subst c;exact⟨v,by rw[abg (by rw[<- s.len];exact a)],r⟩
  rw[Zf (by simpa using a)] at e;cases e
 rw[abB b] at e;rw[abB b];exact s.at' j u e
theorem ac9.mono (h:ac9 K H kvs vs) (c:jj K H H'):ac9 K H' kvs vs:=Paired.mapP h λ_ _ ⟨a,b⟩=>⟨a,b.mono c⟩
theorem adt.mono (h:adt K H kvs vs) (c:jj K H H'):adt K H' kvs vs:=Paired.mapP h λ_ _ ⟨a,b⟩=>⟨a,b.mono c⟩
theorem ada.mono (h:ada K H kvs vs) (c:jj K H H'):ada K H' kvs vs:=Paired.mapP h λ_ _ ⟨a,b⟩=>⟨a,b.mono c⟩
theorem aeY.mono (h:aeY K H kvs vs) (c:jj K H H'):aeY K H' kvs vs:=Paired.mapP h λ_ _ ⟨a,b⟩=>⟨a,b.mono c⟩
theorem ne3 (h:H3 a=ab o) (h':H3 b=ab u) (d:o≠u):a≠b:=by
 intro e;subst e;rw[h] at h';exact d (Zg h')
theorem bf (h:H3 a=ab o) (h':H3 b=ae):a≠b:=by
 intro e;subst e;rw[h] at h';cases h'
theorem aV (b:H p=ae):jj K H (upd H p o):=λa xs h=>by
 rcases h with (h | ⟨c,h⟩) | h
 .exact .inl (.inl (by rw[bu (cD h b)];exact h))
 .exact .inl (.inr ⟨c,by rw[bu (cD h b)];exact h⟩)
 exact .inr h
theorem bN (c:Mut (H p)):jj K H (upd H p o):=λa xs h=>by
 have b:∀u,H a=ab u->¬Mut (ab u)->a≠p:=λu e nm z=>by subst z;rw[e] at c;exact nm c
 rcases h with (h | ⟨d,h⟩) | h
 .exact .inl (.inl (by rw[bu (b _ h λz=>z)];exact h))
 .exact .inl (.inr ⟨d,by rw[bu (b _ h λz=>z)];exact h⟩)
 exact .inr h
theorem afd.stay (h:afd K H a o) (c:jj K H H') (b:∀u,H a=ab u->H' a=ab u):afd K H' a o:=by
 cases o with
 |lst ts=>obtain⟨xs,e,r⟩:=h;exact⟨xs,b _ e,r.mono c⟩
 |rol ts =>
  obtain⟨xs,e,r⟩:=h;refine⟨xs,?_,r.mono c⟩;rcases e with e | ⟨f,e⟩
  .exact .inl (b _ e)
  exact .inr ⟨f,b _ e⟩
 |dct kvs=>obtain⟨vs,e,r⟩:=h;exact⟨vs,b _ e,r.mono c⟩
 |dcp kvs=>obtain⟨vs,e,r⟩:=h;exact⟨vs,b _ e,r.mono c⟩
 |exc C d=>exact b _ h
 |xdt g=>obtain⟨vs,e,r⟩:=h;exact⟨vs,b _ e,r.mono c⟩
 |dci kvs=>obtain⟨vs,e,r⟩:=h;exact⟨vs,b _ e,r.mono c⟩
 |dif o kvs=>obtain⟨vs,e,r⟩:=h;exact⟨vs,b _ e,r.mono c⟩
 |ins C g=>obtain⟨d,vs,e,r⟩:=h;exact⟨d,vs,b _ e,r.mono c⟩
theorem mz.new (s:mz K H3 H) (b:H p=ae):mz K H3 (upd H p o):=λa u e =>
 (s a u e).stay (aV b) λw q=>by rw[bu (cD q b)];exact q
theorem mz.fresh (s:mz K H3 H) (a:H p=ae):H3 p=ae:=by
 cases e:H3 p with
 |none=>rfl
 |some o =>
  have q:=s p o e
  cases o with
  |lst ts=>obtain⟨xs,z,_⟩:=q;rw[a] at z;cases z
  |dct ts=>obtain⟨xs,z,_⟩:=q;rw[a] at z;cases z
  |dcp ts=>obtain⟨xs,z,_⟩:=q;rw[a] at z;cases z
  |exc C b=>have z:H p=_:=q;rw[a] at z;cases z
  |xdt ts=>obtain⟨xs,z,_⟩:=q;rw[a] at z;cases z
  |dci ts=>obtain⟨xs,z,_⟩:=q;rw[a] at z;cases z
  |dif o ts=>obtain⟨xs,z,_⟩:=q;rw[a] at z;cases z
  |ins C ts=>obtain⟨b,xs,z,_⟩:=q;rw[a] at z;cases z
  |rol ts =>
   obtain⟨xs,z,_⟩:=q
   rcases z with z | ⟨c,z⟩
   ·
    rw[a] at z;cases z
   ·
    rw[a] at z;cases z
end
abbrev sy:=T->eH->Prop
abbrev vy:=St3->eH->sy->Prop
abbrev TT3:=St3->eH->(Bool->eH->Prop)->Prop
abbrev TA3:=St3->eH->(List T->eH->Prop)->Prop
structure aeF where
 nx:St3->eH->Prop
 rt:sy
 bk:St3->eH->Prop:=λ_ _=>False
 ct:St3->eH->Prop:=λ_ _=>False
abbrev TS3:=aeF->St3->eH->Prop
abbrev TG3:=T->St3->eH->(St3->eH->Prop)->Prop
abbrev pI:=List T->St3->eH->(St3->eH->Prop)->Prop
abbrev R3:=T->T->eH->sy->Prop
section
variable (K:a8)
def KV3 (H:Hp) (b:sy) (Q:VK):Prop:=∀v H' t a,jj K H H'->mz K a H'->Rep K H' t v->b t a->Q v H'
def KS3 (H:Hp) (d:St3->eH->Prop) (N:L2.St->Hp->Prop):Prop:=∀c H' a b,jj K H H'->acr K H' a c->mz K b H'->d a b->N c H'
def lft (d:vy):TE:=λc H Q=>∃a H3 b,acr K H a c/\mz K H3 H/\d a H3 b/\KV3 K H b Q
def Bs (e:TT3):TT:=λf H Q=>∃a H3 d,acr K H a f/\mz K H3 H/\e a H3 d/\∀b H' c,jj K H H'->mz K c H'->d b c->Q b H'
def YJ (d:TA3):TA:=λe H Q=>∃a H3 c,acr K H a e/\mz K H3 H/\d a H3 c/\∀vs H' ts b,jj K H H'->mz K b H'->fY K H' ts vs->c ts b->Q vs H'
def Vl (d:TS3):TS:=λD c H=>∃b H3 a,acr K H b c/\mz K H3 H/\d a b H3/\KS3 K H a.nx D.nx/\KV3 K H a.rt D.rt/\KS3 K H a.bk D.bk/\KS3 K H a.ct D.ct
def Jl (d:TG3):TG:=λv c H Q=>∃t a H3 b,Rep K H t v/\acr K H a c/\mz K H3 H/\d t a H3 b/\KS3 K H b Q
def Vm (d:pI):TGs:=λvs c H Q=>∃ts a H3 b,fY K H ts vs/\acr K H a c/\mz K H3 H/\d ts a H3 b/\KS3 K H b Q
def Qz (d:R3):R2:=λx y H Q=>∃b c H3 a,Rep K H b x/\Rep K H c y/\mz K H3 H/\d b c H3 a/\KV3 K H a Q
def YK (b:List T->eH->sy->Prop):List V->Hp->VK->Prop:=λxs H Q=>∃ts H3 a,fY K H ts xs/\mz K H3 H/\b ts H3 a/\KV3 K H a Q
def YL (c:T->List T->eH->sy->Prop):V->List V->Hp->VK->Prop:=λx xs H Q=>∃a ts H3 b,Rep K H a x/\fY K H ts xs/\mz K H3 H/\c a ts H3 b/\KV3 K H b Q
end
section
variable {K:a8}
theorem KV3.at (k:KV3 K H b Q) (c:jj K H H1):KV3 K H1 b Q:=λv H' t a l=>k v H' t a (c.trans l)
theorem KS3.at (k:KS3 K H e N) (f:jj K H H1):KS3 K H1 e N:=λa b c d l=>k a b c d (f.trans l)
end
def o4 (X:Cx) (e:Expr) (t:vy):Prop:=PE X e (lft X.K t)
def PT3 (X:Cx) (e:Expr) (t:TT3):Prop:=PT X e (Bs X.K t)
def PW3 (X:Cx) (e:Expr) (t:TT3):Prop:=PW X e (Bs X.K t)
def PA3 (X:Cx) (a:List Expr) (t:TA3):Prop:=PA X a (YJ X.K t)
def PS3 (X:Cx) (st:eD) (t:TS3):Prop:=PS X st (Vl X.K t)
def rA (X:Cx) (st:List eD) (t:TS3):Prop:=PSs X st (Vl X.K t)
def PG3 (X:Cx) (e:Expr) (t:TG3):Prop:=PG X e (Jl X.K t)
def Jm (X:Cx) (a:List Expr) (t:pI):Prop:=PGs X a (Vm X.K t)
def dj (X:Cx) (f:av->av->k0 av) (r:R3):Prop:=OpR X f (Qz X.K r)
def fM (X:Cx) (f:av) (r:List T->eH->sy->Prop):Prop:=acj X f (YK X.K r)
def Vn (X:Cx) (r:R3):Prop:=IxR X (Qz X.K r)
def wX (X:Cx) (id:String) (r:T->List T->eH->sy->Prop):Prop:=MtR X id (YL X.K r)
theorem PE.imp (h:PE X e t) (w:∀b H Q,t' b H Q->t b H Q):PE X e t':=λa s b H Q I q=>h a s b H Q I (w b H Q q)
theorem PT.imp (h:PT X e t) (w:∀b H Q,t' b H Q->t b H Q):PT X e t':=λa s b H Q I q=>h a s b H Q I (w b H Q q)
theorem PW.imp (h:PW X e t) (w:∀b H Q,t' b H Q->t b H Q):PW X e t':=λc a s b H Q I q=>h c a s b H Q I (w b H Q q)
theorem PA.imp (h:PA X d t) (w:∀b H Q,t' b H Q->t b H Q):PA X d t':=λc a s b H Q I q=>h c a s b H Q I (w b H Q q)
theorem PS.imp (h:PS X e t) (w:∀D b H,t' D b H->t D b H):PS X e t':=λa s b H D I q=>h a s b H D I (w D b H q)
theorem PSs.imp (h:PSs X e t) (w:∀D b H,t' D b H->t D b H):PSs X e t':=λa s b H D I q=>h a s b H D I (w D b H q)
theorem PG.imp (h:PG X e t) (w:∀v b H Q,t' v b H Q->t v b H Q):PG X e t':=λa s b H v u Q I r q=>h a s b H v u Q I r (w v b H Q q)
theorem PGs.imp (h:PGs X e t) (w:∀v b H Q,t' v b H Q->t v b H Q):PGs X e t':=λa s b H v u Q I r q=>h a s b H v u Q I r (w v b H Q q)
theorem OpR.imp (h:OpR X f t) (w:∀x y H Q,t' x y H Q->t x y H Q):OpR X f t':=λa s d H x y v u Q I c b q=>h a s d H x y v u Q I c b (w x y H Q q)
theorem acj.imp (h:acj X f t) (w:∀x H Q,t' x H Q->t x H Q):acj X f t':=λa s c H x v Q I b q=>h a s c H x v Q I b (w x H Q q)
theorem IxR.imp (h:IxR X t) (w:∀x y H Q,t' x y H Q->t x y H Q):IxR X t':=λa b c s f H x y v u Q I e d q=>h a b c s f H x y v u Q I e d (w x y H Q q)
theorem MtR.imp {id:String} (h:MtR X id t) (w:∀x xs H Q,t' x xs H Q->t x xs H Q):MtR X id t':=λa s d H x xs v us Q I c b q=>h a s d H x xs v us Q I c b (w x xs H Q q)
section
variable {X:Cx}{pos:ka}
def ur (i:Nat):vy:=λa H Q=>match a[i]? with
 |some (ab t)=>Q t H
 |_=>False
def tC3 (t:T):vy:=λ_ H Q=>Q t H
theorem v3 (i:Nat) {b:ka} (g:X.N[i]?=ab x:=by rfl) (f:Vis X.env.scope x:=by first | exact gs rfl | exact e6 (gs rfl) | exact e6 (e6 rfl)) (c:(x==("__debug__":ai))=ah:=by decide) (a:(x==("__classdict__":ai))=ah:=by decide):o4 X (.Name x b) (ur i):=by
 refine PE.imp (pv i g f c a) ?_;rintro o H Q ⟨l,H3,n,m,d,h,k⟩;unfold ur at h;split at h
 .rename_i t e;obtain⟨v,j,r⟩:=m.at' i t e;exact⟨v,j,k v H t H3 .refl d r h⟩
 exact h.elim
abbrev adV{X x}:=@v3 X x 9
abbrev adT{X x}:=@v3 X x 8
abbrev adP{X x}:=@v3 X x 7
abbrev adO{X x}:=@v3 X x 6
abbrev adM{X x}:=@v3 X x 5
abbrev adK{X x}:=@v3 X x 4
abbrev adJ{X x}:=@v3 X x 3
abbrev adI{X x}:=@v3 X x 2
abbrev adH{X x}:=@v3 X x 1
abbrev adG{X x}:=@v3 X x 0
theorem aq:o4 X (.Constant (.int i) j pos) (tC3 (.int i)):=by
 refine PE.imp Pj ?_;rintro e H Q ⟨b,H3,c,d,a,h,k⟩;exact k _ _ _ H3 .refl a .ofInt h
theorem eN:o4 X (.Constant (.bool b) j pos) (tC3 (.bl b)):=by
 refine PE.imp Ul ?_;rintro f H Q ⟨c,H3,d,e,a,h,k⟩;exact k _ _ _ H3 .refl a .ofBl h
theorem dH:o4 X (.Constant .none j pos) (tC3 .non):=by
 refine PE.imp Pk ?_;rintro e H Q ⟨b,H3,c,d,a,h,k⟩;exact k _ _ _ H3 .refl a .ofNon h
theorem cR:o4 X (.Constant (.str x) j pos) (tC3 (.str x)):=by
 refine PE.imp Pn ?_;rintro e H Q ⟨b,H3,c,d,a,h,k⟩;exact k _ _ _ H3 .refl a .ofStr h
variable {a b c:Expr}{ta tb tc:vy}
def ut (r:R3) (c b:vy):vy:=λa H Q=>c a H λx e=>b a e λy d=>r x y d Q
theorem iY (h:lft X.K (ut r ta tb) i H Q):tOp (Qz X.K r) (lft X.K ta) (lft X.K tb) i H Q:=by
 obtain⟨c,H3,t,j,l,h,k⟩:=h;exact⟨c,H3,_,j,l,h,λx v p f b d m s=>⟨c,f,_,j.mono b,d,s,λy u o g a e q n=>⟨p,o,g,t,m.mono a,q,e,n,k.at (b.trans a)⟩⟩⟩
theorem aL {c:Operator} (d:dj X (bp c) r) (f:o4 X a ta) (e:o4 X b tb):o4 X (.BinOp a c b pos) (ut r ta tb):=PE.imp (Uz d f e) λ_ _ _ h=>iY h
theorem gU {c:vS} (d:dj X (be c) r) (e:o4 X a ta) (g:o4 X b tb) (f:ca c b=ah:=by first | exact CT _ | rfl):o4 X (.Compare a [c] [b] pos) (ut r ta tb):=PE.imp (Im d e g f) λ_ _ _ h=>iY h
theorem aJ (d:Vn X r) (f:o4 X a ta) (c:o4 X b tb) (e:yI b:=by exact λ_ _=>rfl):o4 X (.Subscript a b pos) (ut r ta tb):=PE.imp (Va d f c e) λ_ _ _ h=>iY h
def kE (t:vy):TT3:=λa H Q=>t a H λx H'=>match x with
 |.bl k=>Q k H'
 |_=>False
theorem aP {c:vS} (i:dj X (be c) r) (l:o4 X a ta) (m:o4 X b tb) (j:ca c b=ah:=by first | exact CT _ | rfl):PT3 X (.Compare a [c] [b] pos) (kE (ut r ta tb)):=by
 refine PT.imp (Io i l m j) ?_;rintro s H Q ⟨e,H3,p,o,g,h,k⟩;refine iY (X:=X) ⟨e,H3,_,o,g,h,λv H' t f n d r q=>?_⟩;cases t with
 |bl b=>exact⟨b,r.bl,k b H' f n d q⟩
 |_=>exact q.elim
variable {rest:List Expr}
theorem cH (h:o4 X a ta) (g:∀whole,isTrue a X.env whole=(do let v <- whole;ny a.pos;fg [v] (truthy v)):=by intro _;rfl):PT3 X a (kE ta):=by
 refine PT.imp (Pq h g) ?_;rintro m H Q ⟨d,H3,l,j,f,h,k⟩;refine⟨d,H3,_,j,f,h,λv H' t e i c r q=>?_⟩;cases t with
 |bl b=>exact⟨b,r.bl,k b H' e i c q⟩
 |_=>exact q.elim
def Mz (t u:TT3):TT3:=λb H Q=>t b H λc a=>if c=ag then u b a Q else Q ah a
def Vo (t u:TT3):TT3:=λb H Q=>t b H λc a=>if c=ag then Q ag a else u b a Q
def MF (t:TT3):TT3:=λb H Q=>t b H λc a=>Q (!c) a
theorem PW3.pt (h:PW3 X a tA):PT3 X a tA:=PW.pt h
theorem cM (b:PT3 X a tA):PW3 X (.BoolOp .And [a] pos) tA:=HX b
theorem ir (b:PT3 X a tA):PW3 X (.BoolOp .Or [a] pos) tA:=Pr b
theorem cT (o:PT3 X a tA) (p:PW3 X (.BoolOp .And (b::rest) pos) tB'):PW3 X (.BoolOp .And (a::b::rest) pos) (Mz tA tB'):=by
 refine PW.imp (Pu o p) ?_;rintro t H Q ⟨g,H3,s,m,n,h,k⟩;refine⟨g,H3,_,m,n,h,λb H' d l e q=>?_⟩;cases b with
 |true=>exact⟨g,d,_,m.mono l,e,q,λb j f i c r=>k b j f (l.trans i) c r⟩
 |false=>exact k ah H' d l e q
theorem iu (o:PT3 X a tA) (p:PW3 X (.BoolOp .Or (b::rest) pos) tB'):PW3 X (.BoolOp .Or (a::b::rest) pos) (Vo tA tB'):=by
 refine PW.imp (Um o p) ?_;rintro t H Q ⟨g,H3,s,m,n,h,k⟩;refine⟨g,H3,_,m,n,h,λb H' d l e q=>?_⟩;cases b with
 |true=>exact k ag H' d l e q
 |false=>exact⟨g,d,_,m.mono l,e,q,λb j f i c r=>k b j f (l.trans i) c r⟩
theorem gD (g:PT3 X a tA):PT3 X (.UnaryOp .Not a pos) (MF tA):=by
 refine PT.imp (Px g) ?_;rintro m H Q ⟨d,H3,l,j,f,h,k⟩;exact⟨d,H3,_,j,f,h,λb H' e i c q=>k _ H' e i c q⟩
def Dr (d e:vy):vy:=λb H Q=>d b H λx a=>match x with
 |.bl c=>if c=ag then e b a Q else Q (.bl ah) a
 |_=>False
def MJ (d e:vy):vy:=λb H Q=>d b H λx a=>match x with
 |.bl c=>if c=ag then Q (.bl ag) a else e b a Q
 |_=>False
theorem rB {b:PySem.BoolOp} (h:o4 X a t):o4 X (.BoolOp b [a] pos) t:=Py h
theorem Ds (j:o4 X a ta) (l:o4 X (.BoolOp .And (b::rest) pos) tb):o4 X (.BoolOp .And (a::b::rest) pos) (Dr ta tb):=by
 refine PE.imp (Pz j l) ?_;rintro n H Q ⟨d,H3,m,g,i,h,k⟩;refine⟨d,H3,_,g,i,h,λv H' t e f c r q=>?_⟩;cases t with
 |bl b =>
  refine⟨b,r.bl,?_⟩;cases b with
  |true=>exact⟨d,e,_,g.mono f,c,q,k.at f⟩
  |false=>exact k _ H' _ e f c .ofBl q
 |_=>exact q.elim
theorem MK (j:o4 X a ta) (l:o4 X (.BoolOp .Or (b::rest) pos) tb):o4 X (.BoolOp .Or (a::b::rest) pos) (MJ ta tb):=by
 refine PE.imp (Uq j l) ?_;rintro n H Q ⟨d,H3,m,g,i,h,k⟩;refine⟨d,H3,_,g,i,h,λv H' t e f c r q=>?_⟩;cases t with
 |bl b =>
  refine⟨b,r.bl,?_⟩;cases b with
  |true=>exact k _ H' _ e f c .ofBl q
  |false=>exact⟨d,e,_,g.mono f,c,q,k.at f⟩
 |_=>exact q.elim
def YM (t:TT3) (d e:vy):vy:=λa H Q=>t a H λc b=>if c=ag then d a b Q else e a b Q
def yQ:TA3:=λ_ H Q=>Q [] H
def rC (c:vy) (b:TA3):TA3:=λa H Q=>c a H λx e=>b a e λxs d=>Q (x::xs) d
theorem aj:PA3 X [] yQ:=by
 refine PA.imp Qm ?_;rintro e H Q ⟨b,H3,c,d,a,h,k⟩;exact k _ _ _ _ .refl a .nil h
theorem aa (n:o4 X e te) (p:PA3 X es t) (s:ax (e::es) X.env=(ah,br e X.env)::ax es X.env:=by rfl):PA3 X (e::es) (rC te t):=by
 refine PA.imp (Iv n p s) ?_;rintro x H Q ⟨c,H3,w,j,l,h,k⟩;exact⟨c,H3,_,j,l,h,λv H' t d i f r q=>⟨c,d,_,j.mono i,f,q,λvs o ts g b a m u=>k _ _ _ _ (i.trans b) a (.cons (r.mono b) m) u⟩⟩
def MN (t:TA3):vy:=λb H Q=>t b H λxs a=>xs.length<=ap/\Q (.tup xs) a
def yR (t:TA3):vy:=λb H Q=>t b H λxs a=>xs.length<=ap/\∀p,a p=ae->Q (.ref p) (aY a p (.lst xs))
theorem mz.newTup {K:a8}{H3:eH} (a:H p=ae) (r:fY K H ts xs):Rep K (upd H p (.tup xs)) (.tup ts) (.ref p) :=
 .ofTup (.of cu) (r.mono (aV a))
theorem mz.newLst {K:a8} (s:mz K H3 H) (b:H p=ae) (r:fY K H ts xs):mz K (aY H3 p (.lst ts)) (upd H p (.lst xs)):=λa o e=>by
 by_cases c:a=p
 .subst c;rw[aA] at e;cases e;exact⟨xs,cu,r.mono (aV b)⟩
 rw[aD c] at e;exact s.new b a o e
theorem bB (h:PA3 X es t):o4 X (.Tuple es x1 pos) (MN t):=by
 refine PE.imp (Qn h) ?_;rintro j H Q ⟨d,H3,i,g,e,h,k⟩;refine⟨d,H3,_,g,e,h,λvs H' ts a f c r q=>⟨by rw[<- r.length];exact q.1,λp b=>?_⟩⟩;exact k _ _ _ a (f.trans (aV b)) (c.new b) (mz.newTup (H3:=a) b r) q.2
theorem bL (h:PA3 X es t):o4 X (.List es pos) (yR t):=by
 refine PE.imp (Qo h) ?_;rintro j H Q ⟨c,H3,i,g,d,h,k⟩;refine⟨c,H3,_,g,d,h,λvs H' ts f e a r q=>⟨by rw[<- r.length];exact q.1,λp b=>?_⟩⟩;exact k _ _ _ _ (e.trans (aV b)) (a.newLst b r) .ofRef (q.2 p (a.fresh b))
end
section
variable {X:Cx}{st:eD}{rest:List eD}{pos:ka}
def Dt:TS3:=λD a H=>D.nx a H
def yS (t u:TS3):TS3:=λD a H=>t { D with nx:=u D} a H
theorem aW:rA X [] Dt:=by
 refine PSs.imp HY ?_;rintro D f H ⟨c,H3,e,d,b,h,a,_⟩;exact a _ _ _ _ .refl d b h
theorem ak (n:PS3 X st t) (p:rA X rest u):rA X (st::rest) (yS t u):=by
 refine PSs.imp (CK n p) ?_;rintro D s H ⟨e,H3,o,r,l,h,k,j,g,i⟩;exact⟨e,H3,_,r,l,h,λm H' a f b c d q=>⟨a,f,o,c,d,q,k.at b,j.at b,g.at b,i.at b⟩,j,g,i⟩
theorem ao (a:PS3 X st t):rA X [st] t:=Ia a
def Du (te:vy):TS3:=λD a H=>te a H λ_ b=>D.nx a b
theorem bQ (i:o4 X e te) (j:dt e ae pos.line X.env=a5 ah:=by rfl):PS3 X (.Expr e pos) (Du te):=by
 refine PS.imp (Ib i j) ?_;rintro D m H ⟨b,H3,l,d,g,h,f,_⟩;exact⟨b,H3,_,d,g,h,λv H' t k c a r q=>f _ _ _ _ c (d.mono c) a q⟩
def MP (te:vy):TS3:=λD a H=>te a H D.rt
theorem aH (c:o4 X e te):PS3 X (.Return (ab e) pos) (MP te):=by
 refine PS.imp (PB c) ?_;rintro D j H ⟨a,H3,i,f,b,h,g,d,_⟩;exact⟨a,H3,_,f,b,h,d⟩
def QB:TS3:=λD _ H=>D.rt .non H
def MT (c:TT3) (t u:TS3):TS3:=λD a H=>c a H λb d=>if b=ag then t D a d else u D a d
theorem bD (s:PT3 X c tc) (p:rA X a t) (r:rA X b u):PS3 X (.If c a b pos) (MT tc t u):=by
 refine PS.imp (Ut s p r) ?_;rintro D v H ⟨e,H3,m,i,o,h,j,n,k,l⟩;refine⟨e,H3,_,i,o,h,λb H' g d f q=>?_⟩;cases b with
 |true=>exact⟨e,g,m,i.mono d,f,q,j.at d,n.at d,k.at d,l.at d⟩
 |false=>exact⟨e,g,m,i.mono d,f,q,j.at d,n.at d,k.at d,l.at d⟩
def eU (i:Nat):TG3:=λv a H Q=>Q (a.set i (ab v)) H
theorem aC (i:Nat) (e:X.N.Nodup) (c:X.N[i]?=ab x:=by rfl) (d:Loc X.env.scope x:=by first | exact gs rfl | exact e6 rfl) (a:X.fn x=ag\/X.env.scope.names.lookup x=ab .local:=by first | exact .inl rfl | exact .inr rfl | assumption):PG3 X (.Name x pos) (eU i):=by
 refine PG.imp (Ie e c d a) ?_;rintro v l H Q ⟨t,f,H3,j,r,g,b,h,k⟩;exact k _ _ _ _ .refl (g.set r) b h
def yU:pI:=λts a H Q=>match ts with
 |[]=>Q a H
 |_=>False
def jw (t:TG3) (u:pI):pI:=λts b H Q=>match ts with
 |x::r=>t x b H λa H'=>u r a H' Q
 |[]=>False
theorem bW:Jm X [] yU:=by
 refine PGs.imp Ig ?_;rintro vs e H Q ⟨ts,b,H3,d,r,c,a,h,k⟩;cases ts with
 |nil=>exact⟨r.inv0,k _ _ _ _ .refl c a h⟩
 |cons _ _=>exact h.elim
theorem aG {t:TG3}{u:pI} (m:PG3 X e t) (p:Jm X b u) (s:(c_ (e::b) X.env).map (·.2)=f_ e X.env::(c_ b X.env).map (·.2):=by rfl):Jm X (e::b) (jw t u):=by
 refine PGs.imp (CP m p s) ?_;rintro vs A H Q ⟨ts,f,H3,o,r,y,j,h,k⟩;cases ts with
 |nil=>exact h.elim
 |cons x ts =>
 obtain⟨v,n,rfl,w,z⟩:=r.inv;exact⟨v,n,rfl,x,f,H3,_,w,y,j,h,λl H' a g i c d q=>⟨ts,a,g,o,z.mono i,c,d,q,k.at i⟩⟩
def yV (n:Nat) (g:pI):TG3:=λt a H Q=>match t with
 |.tup ts=>ts.length=n/\g ts a H Q
 |_=>False
theorem cI {k:Nat}{t:pI} (g:X.calm=ag) (h:Jm X b t) (j:(c_ b X.env).length=n:=by rfl) (c:(c_ b X.env).findIdx? (·.1)=ae:=by rfl):PG3 X (.Tuple b k pos) (yV n t):=by
 refine PG.imp (PJ g h j c) ?_;rintro v m H Q ⟨t,d,H3,i,r,l,f,h,k⟩;cases t with
 |tup ts=>obtain⟨a,xs,rfl,s,e⟩:=r.tup;exact⟨a,xs,rfl,s,by rw[<- e.length];exact h.1,ts,d,H3,i,e,l,f,h.2,k⟩
 |_=>exact h.elim
def uv (te:vy) (g:TG3):TS3:=λD a H=>te a H λx b=>g x a b D.nx
theorem Dv (n:o4 X e te) (m:PG3 X a g) (p:sq [a] e pos.line X.env=a5 ah:=by rfl) (o:sv [a] e X.env=a5 ae:=by rfl) (l:(c_ [a] X.env).map (·.2)=[f_ a X.env]:=by rfl):PS3 X (.Assign [a] e pos) (uv te g):=by
 refine PS.imp (PL n m p o l) ?_;rintro D u H ⟨b,H3,s,i,k,h,j,_⟩;exact⟨b,H3,_,i,k,h,λv H' t d f c r q=>⟨t,b,d,_,r,i.mono f,c,q,j.at f⟩⟩
theorem aF (i:Nat) {a:ka} (n:X.N.Nodup) (o:o4 X e te) (l:X.N[i]?=ab x:=by rfl) (m:Loc X.env.scope x:=by first | exact gs rfl | exact e6 rfl) (p:dt e (ab (.Name x a)) pos.line X.env=a5 ah:=by rfl) (j:X.fn x=ag\/X.env.scope.names.lookup x=ab .local:=by first | exact .inl rfl | exact .inr rfl | assumption):
  PS3 X (.Assign [.Name x a] e pos) (uv te (eU i)):=by
 refine PS.imp (PN n l m o p j) ?_;rintro D w H ⟨c,H3,u,f,k,h,g,_⟩;exact⟨c,H3,_,f,k,h,λv H' t s d b r q=>g _ _ _ _ d ((f.mono d).set r) b q⟩
end
abbrev uw:=T->T->T->eH->(eH->Prop)->Prop
def QC (K:a8) (f:uw):CN:=λo i v H Q=>∃d e c H3 b,Rep K H d o/\Rep K H e i/\Rep K H c v/\mz K H3 H/\f d e c H3 b/\∀H' a,jj K H H'->mz K a H'->b a->Q H'
def M3 (X:Cx) (t:uw):Prop:=adQ X (QC X.K t)
theorem adQ.imp (h:adQ X t) (w:∀o i v H Q,t' o i v H Q->t o i v H Q):adQ X t':=λa s g H o i v c d u Q I e b f q=>h a s g H o i v c d u Q I e b f (w o i v H Q q)
def M4 (b c:vy) (t:uw):TG3:=λv a H Q=>b a H λo e=>c a e λi d=>t o i v d λH3=>Q a H3
theorem QD (A:o4 X o d) (u:o4 X i e) (D:M3 X t) (x:∀v,f_ (.Subscript o i pos) X.env v=(do
   let ov <- fg [v] (br o X.env)
   let iv <- fg [v,ov] (br i X.env)
   ny pos
   fg [v,ov,iv] (tj ov iv v)
   release [v,ov,iv] []):=by intro _;rfl):PG3 X (.Subscript o i pos) (M4 d e t):=by
 refine PG.imp (PK A u D x) ?_;rintro v F H Q ⟨t,c,H3,G,r,m,s,h,k⟩;exact⟨c,H3,_,m,s,h,λo I d j b f w C=>⟨c,j,_,m.mono b,f,C,λi E e n a g B z=>⟨d,e,t,n,_,w.mono a,B,r.mono (b.trans a),g,z,λH' y p l q=>k _ _ _ _ (b.trans (a.trans p)) (m.mono (b.trans (a.trans p))) l q⟩⟩⟩
abbrev TI3:=St3->eH->(List T->(eH->Prop)->eH->Prop)->Prop
def m9 (K:a8) (J:It) (ts:List T) (still:eH->Prop) (H:Hp):Prop:=∀H' b,jj K H H'->mz K b H'->still b ->
 (∀i,ts.length<=i->J.stop i H')/\∀i t,ts[i]?=ab t->J.go i H'/\∀x a,J.yld i H' x a->jj K H' a/\mz K b a/\Rep K a t x
def YQ (K:a8) (d:TI3):TI:=λc H R=>∃a H3 R3,acr K H a c/\mz K H3 H/\d a H3 R3/\∀J ts still H' b,jj K H H'->mz K b H'->m9 K J ts still H'->R3 ts still b->R J H'
def PI3 (X:Cx) (b a:Expr) (t:TI3):Prop:=PI X b a (YQ X.K t)
theorem PI.imp (h:PI X c e t) (w:∀b H R,t' b H R->t b H R):PI X c e t':=λa s b H R I q=>h a s b H R I (w b H R q)
def cW:eH->Prop:=λ_=>True
def cJ (a:am) (ts:List T):eH->Prop:=λH=>H a=ab (.lst ts)\/H a=ab (.rol ts)
theorem mz.sqL {K:a8} (s:mz K H3 H) (h:cJ a ts H3):∃xs,SqL K H a xs/\fY K H ts xs:=by
 rcases h with h | h
 .obtain⟨xs,e,r⟩:=s a _ h;exact⟨xs,.of e,r⟩
 obtain⟨xs,e,r⟩:=s a _ h;exact⟨xs,.inl e,r⟩
section
variable {tg l:Expr}{pos p:ka}
def Dw (d:vy):TI3:=λc H R=>d c H λx b=>match x with
 |.ref a=>match b a with
  |some (.lst ts)=>R ts (cJ a ts) b
  |some (.rol ts)=>R ts (cJ a ts) b
  |_=>False
 |_=>False
theorem qp {K:a8}:m9 K (Itl K a) ts (cJ a ts) H:=λH' j n d st=>by
 obtain⟨xs,b,f⟩:=d.sqL st;have m:=f.length;refine⟨λi l=>⟨xs,b,adC⟩,λi t e=>?_⟩;obtain⟨v,c,h⟩:=f.get e;refine⟨⟨xs,v,b,c⟩,λx g y=>?_⟩;obtain⟨k,y⟩:=y;subst k;have:=y xs b;rw[c] at this;cases this;exact⟨.refl,d,h⟩
theorem bR (n:o4 X l tl):PI3 X tg l (Dw tl):=by
 refine PI.imp (Ih n) ?_;rintro p H R ⟨g,H3,R3,o,j,h,k⟩;refine⟨g,H3,_,o,j,h,λv H' t b i c r q=>?_⟩;cases t with
 |ref a =>
  have d:(match b a with
   |some (.lst ts)=>R3 ts (cJ a ts) b
   |some (.rol ts)=>R3 ts (cJ a ts) b
   |_=>False):=q
  split at d
  ·
   rename_i ts e
   obtain⟨xs,f,m⟩:=c.sqL (.inl e)
   exact⟨a,r.ref,⟨xs,f⟩,k _ ts (cJ a ts) H' b i c qp d⟩
  ·
   rename_i ts e
   obtain⟨xs,f,m⟩:=c.sqL (.inr e)
   exact⟨a,r.ref,⟨xs,f⟩,k _ ts (cJ a ts) H' b i c qp d⟩
  ·
   exact d.elim
 |_=>exact q.elim
def M5 (c:vy):TI3:=λa H R=>c a H λx b=>match x with
 |.tup ts=>R ts cW b
 |_=>False
theorem Dy {K:a8} (c:SqT K H a xs) (f:fY K H ts xs):m9 K (Itt K a) ts cW H:=λH' k b g st=>by
 have n:=f.length;refine⟨λi m=>⟨xs,b _ _ c,adC⟩,λi t e=>?_⟩;obtain⟨v,d,j⟩:=f.get e;refine⟨⟨xs,v,b _ _ c,d⟩,λx h y=>?_⟩;obtain⟨l,y⟩:=y;subst l;have:=y xs (b _ _ c);rw[d] at this;cases this;exact⟨.refl,g,j.mono b⟩
theorem bO (j:o4 X l tl):PI3 X tg l (M5 tl):=by
 refine PI.imp (PQ j) ?_;rintro o H R ⟨c,H3,R3,n,g,h,k⟩;refine⟨c,H3,_,n,g,h,λv H' t d m b r q=>?_⟩;cases t with
 |tup ts=>obtain⟨a,xs,e,f,i⟩:=r.tup;exact⟨a,e,⟨xs,f⟩,k _ ts cW H' d m b (Dy f i) q⟩
 |_=>exact q.elim
def cX (a:Int) (n:Nat):List T:=(af n).map λ(i:Nat)=>T.int (a+i)
theorem ux {K:a8}:m9 K (Itr b n) (cX b n) cW H:=λH' g j c st=>by
 refine⟨λi a=>by unfold cX at a;simp at a;exact a,λi t e=>?_⟩;unfold cX at e;rw[J_] at e;by_cases a:i<n
 .rw[aaC a] at e;cases e;refine⟨a,λx f y=>?_⟩;obtain⟨h,d⟩:=y;subst h;subst d;exact⟨.refl,c,.ofInt⟩
 rw[Zf (by simpa using a)] at e;cases e
def Dz (b:TA3):TI3:=λc H R=>b c H λvs a=>match vs with
 |[.int j]=>-(2^62)<=j/\j<2^62/\R (cX 0 j.toNat) cW a
 |[.int i,.int j]=>(-(2^62)<=i/\i<2^62 /\ -(2^62)<=j/\j<2^62)/\R (cX i (j - i).toNat) cW a
 |_=>False
theorem aO (m:Gl X "range") (n:X.mg "range"=ae) (o:PA3 X [a] e) (s:ax [a] X.env=[(ah,br a X.env)]:=by rfl):PI3 X tg (.Call (.Name "range" p) [a] [] pos) (Dz (λg H Q=>e g H λvs l=>vs.length=1/\Q vs l)):=by
 refine PI.imp (Bb m n o s) ?_;rintro g H R ⟨d,H3,R3,y,i,h,k⟩;refine⟨d,H3,_,y,i,h,λvs H' ts b w c r q=>?_⟩;obtain⟨f,q⟩:=q;cases ts with
 |nil=>cases f
 |cons t ts =>
 cases ts with
 |cons _ _=>simp at f
 |nil =>
 cases t with
 |int j=>obtain⟨v,_,rfl,u,x⟩:=r.inv;rw[x.inv0,u.int];exact⟨j,rfl,q.1,q.2.1,k _ _ _ H' b w c ux q.2.2⟩
 |_=>exact q.elim
theorem Bt (u:Gl X "range") (y:X.mg "range"=ae) (w:PA3 X [a,b] m) (B:ax [a,b] X.env=[(ah,br a X.env),(ah,br b X.env)]:=by rfl) (d:ax [b] X.env=[(ah,br b X.env)]:=by rfl):
  PI3 X tg (.Call (.Name "range" p) [a,b] [] pos) (Dz (λl H Q=>m l H λvs C=>vs.length=2/\Q vs C)):=by
 refine PI.imp (Bc u y w B d) ?_;rintro l H R ⟨g,H3,R3,A,o,h,k⟩;refine⟨g,H3,_,A,o,h,λvs H' ts e z f r q=>?_⟩;obtain⟨s,q⟩:=q
 match ts,s,r with
 |[t1,t2],_,r =>
 obtain⟨v,_,rfl,t,x⟩:=r.inv;obtain⟨D,_,rfl,c,n⟩:=x.inv;cases t1 with
 |int i =>
  cases t2 with
  |int j=>rw[n.inv0,t.int,c.int];exact⟨i,j,rfl,q.1,k _ _ _ H' e z f ux q.2⟩
  |_=>exact q.elim
 |_=>cases t2 <;> exact q.elim
end
def acu (g:TG3) (a:TS3) (D:aeF) (still:eH->Prop):List T->St3->eH->Prop
 |[],σ,H=>still H/\D.nx σ H
 |t::r,σ,H=>still H/\g t σ H λb c=>a { D with nx:=acu g a D still r,ct:=acu g a D still r,bk:=D.nx} b c
theorem acu.st (h:acu g a D still ts b H):still H:=by
 cases ts with
 |nil=>exact h.1
 |cons t r=>exact h.1
def M6 (c:TI3) (g:TG3) (d:TS3):TS3:=λD a H=>c a H λts still b=>acu g d D still ts a b
theorem aZ (hp:oP (ay X.prog X.w) X.A X.env X.xe) (hc:X.calm=ag) (V:PI3 X tg iter Y) (hg:PG3 X tg g) (hb:rA X n r) (hs:∀x,c8 iter X.env x=a5 x:=by intro _;rfl):PS3 X (.For tg iter n [] pos) (M6 Y g r):=by
 refine PS.imp (PX hp hc V hg hb hs) ?_;rintro D Q H ⟨f,H3,F,Z,sh,h,k1,k2,k3,k4⟩;refine⟨f,H3,_,Z,sh,h,λJ ts still E N G L wk q=>?_⟩;refine⟨λi m Q H=>∃f H3,jj X.K E H/\acr X.K H f Q/\mz X.K H3 H/\m=ts.length - i/\i<=ts.length/\acu g r F still (ts.drop i) f H3,⟨ts.length,f,N,.refl,Z.mono G,L,rfl,aae _,by simpa using q⟩,?_⟩;rintro i m Q H ⟨T,H4,p,v,t,rfl,V,it⟩;have w:=wk H H4 p t it.st;by_cases o:i<ts.length
 .have e:=g_ o;have ed:ts.drop i=ts[i]::ts.drop (i+1):=Z3 o;rw[ed] at it;obtain⟨st,it⟩:=it;obtain⟨go,yl⟩:=w.2 i _ e;refine .inr ⟨go,λj H'=>∃f H3,jj X.K E H'/\acr X.K H' f j/\mz X.K H3 H'/\acu g r F still (ts.drop (i+1)) f H3,λj H' ⟨s5,h5,a,b,c,d⟩=>⟨ts.length - (i+1),adC,s5,h5,a,b,c,rfl,o,d⟩,λx H' y=>?_⟩;obtain⟨u,R,rx⟩:=yl x H' y;refine⟨ts[i],T,H4,_,rx,v.mono u,R,it,λσ2 O C U I S M q2=>?_⟩;have k:jj X.K E O:=p.trans (u.trans I);have W:∀(B:jj X.K E O),KS3 X.K O (acu g r F still (ts.drop (i+1))) (λj H'=>∃f H3,jj X.K E H'/\acr X.K H' f j/\mz X.K H3 H'/\acu g r F still (ts.drop (i+1)) f H3) :=
   λB j H' z P l s h q=>⟨z,P,B.trans l,s,h,q⟩
  exact⟨C,U,_,S,M,q2,W k,k2.at (G.trans k),k1.at (G.trans k),W k⟩
 have e:i=ts.length:=adC
 subst e;rw[o3] at it;exact .inl ⟨w.1 _ (m_ _),k1 _ _ _ _ (G.trans p) v t it.2⟩
def rD (c:TT3) (g:TS3):TS3:=λD d H=>∃W:Nat->St3->eH->Prop,(∃m,W m d H)/\∀m d H,W m d H ->
 c d H λb f=>if b=ag then g { D with nx:=λa H'=>∃e,e<m/\W e a H',ct:=λa H'=>∃e,e<m/\W e a H',bk:=D.nx} d f else D.nx d f
theorem jL (C:oP (ay X.prog X.w) X.A X.env X.xe) (M:PT3 X c v) (Q:rA X g x):PS3 X (.While c g [] pos) (rD v x):=by
 refine PS.imp (CQ C M Q) ?_;rintro D U H ⟨d,H3,S,N,B,⟨W,⟨F,O⟩,p⟩,y,P,T,R⟩;refine⟨λm a H'=>∃d H3,jj X.K H H'/\acr X.K H' d a/\mz X.K H3 H'/\W m d H3,⟨F,d,H3,.refl,N,B,O⟩,?_⟩;rintro m G V ⟨j,z,f,i,r,J⟩;refine⟨j,z,_,i,r,p m j z J,λb I E e o q=>?_⟩;cases b with
 |true =>
  rw[aca rfl] at q |-;have u:KS3 X.K I (λa H'=>∃k,k<m/\W k a H') (λa H'=>∃k,k<m/\∃d H3,jj X.K H H'/\acr X.K H' d a/\mz X.K H3 H'/\W k d H3) :=
   λa H' n t l s h ⟨k,L,w⟩=>⟨k,L,n,t,f.trans (e.trans l),s,h,w⟩
  exact⟨_,λa H' h=>h,j,E,_,i.mono e,o,q,u,P.at (f.trans e),y.at (f.trans e),u⟩
 |false =>
 rw[ace B_] at q |-;exact y _ _ _ _ (f.trans e) (i.mono e) o q
def Jo (X:Cx) (a:List Expr) (t:TT3):Prop:=PIf X a (Bs X.K t)
def yW:TT3:=λ_ H Q=>Q ag H
theorem bK:Jo X [] yW:=λa s d H Q I ⟨c,H3,e,f,b,h,k⟩=>Jg a s d H Q I (k _ _ _ .refl b h)
theorem dZ (h:PT3 X c t):Jo X [c] t:=Jh h
def uA (nt:Nat) (cap:List Nat) (a:St3):St3:=a4 nt ae++cap.map λj=>(a[j]?).getD ae
theorem yX {K:a8} (s:acr K H a d):acr K H (uA nt cap a) (pH nt cap d):=by
 refine⟨by simp [uA,pH],λi t e=>?_⟩;unfold uA at e;unfold pH;by_cases c:i<nt
 .rw[Y_ (by simpa using c),aa6] at e;split at e <;> cases e
 rw[H_ (by simpa using c),J_] at e;rw[H_ (by simpa using c),J_];simp only[abq] at e |-;cases q:cap[i - nt]? with
 |none=>rw[q] at e;cases e
 |some j =>
 rw[q] at e;have b:(a[j]?).getD ae=ab t:=Zg e;have g:a[j]?=ab (ab t):=by
  cases z:a[j]? with
  |none=>rw[z] at b;cases b
  |some y=>rw[z] at b;exact T_ ab b
 obtain⟨v,f,r⟩:=s.at' j t g;exact⟨v,by simp [f],r⟩
def ab8 (g:TG3) (tt:TT3) (te:vy) (still:eH->Prop) (c:List T->eH->Prop):List T->List T->St3->eH->Prop
 |[],ys,σ,H=>still H/\ys.length<=ap/\c ys H
 |t::r,ys,σ,H=>still H/\g t σ H λa d=>tt a d λb H3=>if b=ag then te a H3 λy e=>ys.length<ap/\ab8 g tt te still c r (ys++[y]) a e else ab8 g tt te still c r ys a H3
theorem ab8.st (h:ab8 g tt te still a ts b c H):still H:=by
 cases ts with
 |nil=>exact h.1
 |cons t r=>exact h.1
theorem DG {K:a8} (S:m9 K J ts still r) (ss:acr K r c B) (U:mz K p r) (h:ab8 g tt te still d ts [] c p) (hf:∀o us H' H3',jj K r H'->mz K H3' H'->fY K H' o us->d o H3'->z us H'):yO J (Jl K g) (Bs K tt) (lft K te) z B r:=by
 refine⟨λi m us B H=>∃c H3 o,jj K r H/\acr K H c B/\mz K H3 H/\fY K H o us/\m=ts.length - i/\i<=ts.length/\ab8 g tt te still d (ts.drop i) o c H3,⟨ts.length,c,p,[],.refl,ss,U,.nil,rfl,aae _,by simpa using h⟩,?_⟩;rintro i m us B H ⟨M,R,o,j,I,u,C,rfl,hi,it⟩;have w:=S H R j u it.st;by_cases n:i<ts.length
 .have e:=g_ n;have W:ts.drop i=ts[i]::ts.drop (i+1):=Z3 n;rw[W] at it;obtain⟨st,it⟩:=it;obtain⟨Y,Z⟩:=w.2 i _ e;refine .inr ⟨Y,λx H' y=>?_⟩;obtain⟨A,L,X⟩:=Z x H' y;refine⟨ts[i],M,R,_,X,I.mono A,L,it,λσ2 H2 a O F l G q2=>?_⟩;refine⟨a,O,_,l,G,q2,λb H3 D k s E=>?_⟩;have f:jj K H H3:=A.trans (F.trans k);cases b with
  |true=>rw[aca rfl] at E;refine YG ?_;refine⟨a,D,_,l.mono k,s,E,λv H5 t P q N rt Q=>⟨by rw[<- C.length];exact Q.1,ts.length - (i+1),adC,a,P,o++[t],j.trans (f.trans q),l.mono (k.trans q),N,(C.mono (f.trans q)).append (.cons rt .nil),rfl,n,Q.2⟩⟩
  |false =>
  rw[ace B_] at E;refine YF ?_;exact⟨ts.length - (i+1),adC,a,D,o,j.trans f,l.mono k,s,C.mono f,rfl,n,E⟩
 have e:i=ts.length:=adC
 subst e;rw[o3] at it;exact .inl ⟨w.1 _ (m_ _),by rw[<- C.length];exact it.2.1,hf _ _ _ _ j u C it.2.2⟩
def DK (c:TI3) (g:TG3) (tt:TT3) (te:vy) (nt:Nat) (cap:List Nat):vy:=λa H Q=>c a H λts still b=>ab8 g tt te still (λd H'=>∀p,H' p=ae->Q (.ref p) (aY H' p (.lst d))) ts [] (uA nt cap a) b
def qt (c:TI3) (g:TG3) (tt:TT3) (te:vy) (nt:Nat) (cap:List Nat) (i:Nat):TS3:=λD a H=>c a H λts still b=>ab8 g tt te still (λd H'=>∀p,H' p=ae->D.nx (a.set i (ab (.ref p))) (aY H' p (.lst d))) ts [] (uA nt cap a) b
section
variable {pos pos' spos:ka}
theorem bz (v:X.calm=ag) (S:acK X N' nt cap scope) (m:PI3 X tg iter wi)
  (u:∀cl pins s H C fp,PG3 (bY X N' scope cl pins s H C fp) tg g/\Jo (bY X N' scope cl pins s H C fp) ifs tt/\o4 (bY X N' scope cl pins s H C fp) elt te)
  (w:∀x,c8 iter X.env x=a5 x:=by intro _;rfl):o4 X (.ListComp elt [⟨tg,iter,ifs,0⟩] scope pos) (DK wi g tt te nt cap):=by
 refine PE.imp (Jj (g:=Jl X.K g) (tt:=Bs X.K tt) (te:=lft X.K te) v S m u w) ?_;rintro z H Q ⟨e,H3,A,i,l,h,k⟩;refine⟨e,H3,_,i,l,h,λJ ts still B o f d j q=>?_⟩;exact DG j (yX (i.mono f)) d q λy us H' r c a t n p b=>k _ _ _ _ (f.trans (c.trans (aV b))) (a.newLst b t) .ofRef (n p (a.fresh b))
theorem rE (z:X.calm=ag) (v:X.N.Nodup) (S:acK X N' nt cap scope) (o:PI3 X tg iter wi) (y:∀cl pins s H C fp,PG3 (bY X N' scope cl pins s H C fp) tg g/\Jo (bY X N' scope cl pins s H C fp) ifs tt/\o4 (bY X N' scope cl pins s H C fp) elt te) (f:X.N[i]?=ab x:=by rfl) (E:Loc X.env.scope x:=by first | exact gs rfl | exact e6 rfl) (d:dt (.ListComp elt [⟨tg,iter,ifs,0⟩] scope pos) (ab (.Name x pos')) spos.line X.env=a5 ag:=by rfl) (F:∀x,c8 iter X.env x=a5 x:=by intro _;rfl) (B:X.fn x=ag\/X.env.scope.names.lookup x=ab .local:=by first | exact .inl rfl | exact .inr rfl | assumption):
  PS3 X (.Assign [.Name x pos'] (.ListComp elt [⟨tg,iter,ifs,0⟩] scope pos) spos) (qt wi g tt te nt cap i):=by
 refine PS.imp (Jk (g:=Jl X.K g) (tt:=Bs X.K tt) (te:=lft X.K te) z v f E S o y d F B) ?_;rintro D L H ⟨l,H3,G,k,n,h,A,_⟩;refine⟨l,H3,_,k,n,h,λJ ts still M t j e m q=>?_⟩;exact DG m (yX (k.mono j)) e q λI us H' u a b w r p c =>
  A _ _ _ _ (j.trans (a.trans (aV c))) ((k.mono (j.trans (a.trans (aV c)))).set .ofRef) (b.newLst c w) (r p (b.fresh c))
end
abbrev Sp3:=List T->eH->sy->Prop
def uB (K:a8) (sp:Sp3):Sp:=λvs H Q _=>∃ts H3 a,fY K H ts vs/\mz K H3 H/\sp ts H3 a/\KV3 K H a Q
def bc (H H':eH):Prop:=∀a o,H a=ab o->H' a=ab o
theorem bc.refl:bc H H:=λ_ _ h=>h
theorem bc.trans (a:bc H e) (b:bc e d):bc H d:=λc o h=>b c o (a c o h)
theorem bc.new (h:H p=ae):bc H (aY H p o):=λa u e=>by rw[aD (bf e h)];exact e
theorem mz.sub {K:a8} (s:mz K b H) (h:bc H3 b):mz K H3 H:=λa o e=>s a o (h a o e)
def lu (Q:sy):sy:=λv H=>∃H',bc H' H/\Q v H'
theorem lu.of (h:bc H' H) (q:Q v H'):lu Q v H:=⟨H',h,q⟩
def aQ (N:List ai) (ts:List T):St3:=ts.map ab++a4 (N.length - ts.length) ae
theorem Bu {K:a8} (r:fY K H ts vs):acr K H (aQ N ts) (L2.start N vs):=by
 refine⟨by simp [aQ,L2.start,r.length],λi t e=>?_⟩;unfold aQ at e;unfold L2.start;have d:=r.length;by_cases a:i<ts.length
 .rw[Y_ (by simpa using a),J_] at e;rw[Y_ (by rw[b_];omega),J_];cases q:ts[i]? with
  |none=>rw[q] at e;cases e
  |some u =>
  rw[q] at e;cases e;obtain⟨v,b,c⟩:=r.get q;exact⟨v,by rw[b];rfl,c⟩
 rw[H_ (by simpa using a),aa6] at e;split at e <;> cases e
section
variable {p pos:ka}
def lG (P:bE) (w:bS) (K:a8) (a:ai->Option av) (base:cv) (k:Nat) (f:am) (b:dk) (ps:List ai) (sp:Sp3):Prop:=adq P w K a base CX0 k f b ps (uB K sp)
def rF (sp:Sp3) (t:TA3):vy:=λb H Q=>t b H λvs a=>sp vs a Q
theorem Jp (F:lG X.prog X.w X.K X.mg X.base k f fd ps sp) (s:mX k X.A) (j:Gl X x) (l:X.mg x=ab (.ref f)) (z:jv X.K (.ref f)=ag) (u:Binds X.K fd ps [])
  (m:PA3 X (e::es) t) (d:(x==("__debug__":ai))=ah:=by decide) (o:ax (e::es) X.env=(ah,br e X.env)::ax es X.env:=by rfl) (a:(bt pos (ax es X.env)).any (·.1)=ah:=by rfl) :
  o4 X (.Call (.Name x p) (e::es) [] pos) (rF sp t):=by
 refine PE.imp (Iw (dvs:=[]) (E:=E0) F s j l z u .nil Dm m d o a) ?_;rintro B H Q ⟨c,H3,n,y,i,h,k⟩;refine⟨c,H3,_,y,i,h,λvs H' ts g v b r q=>?_⟩;show uB X.K sp (vs++[]) H' Q E0;rw[P_];exact⟨ts,g,n,r,b,q,k.at v⟩
theorem fn3 {K:a8}{st:eD} (F:Fun K x b st f fd) (S:eG N ps (aB st)) (g:∀ts H Q,sp ts H Q->ts.length=ps.length) (e:∀(c:av) (A:eB) (a:List t5) (s:aI) (H:Hp) (E:XK) (ts:List T) (H3:eH) (Q:sy),mX k (A.deeper (iq b (aB st) s.heap.objs.size f c))->sp ts H3 Q ->
   ∃t,rA (wN CX0 P w K m base N b (aB st) f c A a s H E).nox (cF st) t/\t { nx:=λ_ H'=>lu Q .non H',rt:=lu Q} (aQ N ts) H3):lG P w K m base (k+1) f fd ps sp:=by
 refine F.ok S (λvs H Q E ⟨ts,H3,n,r,j,q,k⟩=>by rw[<- r.length];exact g _ _ _ q) λc A a s H vs Q E C ⟨ts,H3,n,r,j,q,k⟩=>?_;obtain⟨t,u,B⟩:=e c A a s H E ts H3 n C q;exact⟨_,u,aQ N ts,H3,_,Bu r,j,B,λo H' l h i y d ⟨D,sb,q⟩=>k _ _ _ _ i (d.sub sb) .ofNon q,λv H' t h i d p ⟨D,sb,q⟩=>k _ _ _ _ i (d.sub sb) p q,λ_ _ _ _ _ _ _ z=>z,λ_ _ _ _ _ _ _ z=>z⟩
end
noncomputable instance:DecidableEq T:=λa b=>aw (a=b)
def pl:Nat->T->Bool
 |_,.non=>ag
 |_,.int _=>ag
 |_,.str _=>ag
 |d+1,.tup ts=>ts.all (pl d)
 |_,_=>ah
section
variable {X:Cx}{pins:List (am × dL)}{σ:L2.St}{H:Hp}{s:aI}
theorem yZ (I:Inv X pins σ H s):∀(d:Nat) (x y:T) (v:V),pl d x=ag->pl d y=ag->Rep X.K H x v->Rep X.K H y v->x=y:=by
 intro d;induction d with
 |zero =>
  intro x y v i g c f;cases x <;> cases y <;> first
   |rfl
   | (simp only[Rep] at c f;subst c;cases f <;> rfl)
   | (simp [pl] at i;done)
   | (simp [pl] at g;done)
 |succ d q =>
 intro x y v i g c f;cases x with
 |tup ts =>
  cases y with
  |tup us =>
   obtain⟨a,xs,rfl,w,r⟩:=c.tup;obtain⟨b,C,e,l,o⟩:=f.tup;cases e;have:=I.tuple_inj w l;subst this;simp only[pl,Zy] at i g;congr 1;have m:∀(ts us:List T) (xs:List V),(∀t∈ts,pl d t=ag)->(∀t∈us,pl d t=ag)->fY X.K H ts xs->fY X.K H us xs->ts=us:=by
    intro ts;induction ts with
    |nil =>
     intro us xs _ _ h h';rw[h.inv0] at h';cases us with
     |nil=>rfl
     |cons u us=>obtain⟨_,_,e,_⟩:=h'.inv;cases e
    |cons t ts k =>
    intro us xs p n h h';obtain⟨v,r,rfl,a,b⟩:=h.inv;cases us with
    |nil=>exact ach h'.inv0 adE
    |cons u us =>
    obtain⟨B,o,e,z,A⟩:=h'.inv;cases e;rw[q t u v (p t k_) (n u k_) a z,k us r (λt j=>p t (u_ _ j)) (λt j=>n t (u_ _ j)) b A]
   exact m ts us xs i g r o
  |_=>first | (simp only[Rep] at c f;obtain⟨a,xs,e,_⟩:=c;subst e;cases f;done) | (simp [pl] at g;done)
 |_=>cases y <;> first
  |rfl
  | (simp only[Rep] at c f;subst c;cases f <;> rfl)
  | (simp [pl] at i;done)
  | (simp [pl] at g;done)
  | (simp only[Rep] at c f;obtain⟨a,xs,e,_⟩:=f;subst e;cases c;done)
theorem units_in1 (A:eB):A.in1.units=A.units+1:=by rfl
theorem ni {a:Type} [DecidableEq (Option a)] (ts us:List a):((af (min ts.length us.length)).all (λj=>decide (ts[j]?=us[j]?))&&ts.length==us.length)=ag↔ts=us:=by
 rw[Zx,Zy,aa0];constructor
 .rintro⟨h,b⟩;refine h9 λi=>?_;by_cases c:i<ts.length
  .exact Zw (h i (F_.mpr adC))
  rw[Zf adC,Zf adC]
 rintro rfl;exact⟨λi _=>by simp,rfl⟩
theorem Jq {us:List av} (h:i<us.toArray.size) (e:us[i]?=ab v):us.toArray[i]=v:=by
 have:us.toArray[i]?=ab v:=by simpa using e
 rw[S_ h] at this;exact Zg this
theorem za (I:Inv X pins σ H s):∀(d:Nat) (A:eB) (x y:T) (m l:V) (u v:av),pl d x=ag->pl d y=ag->Rep X.K H x m->Rep X.K H y l->RelV m u->RelV l v->A.units+d<cK->j1 A s u v (decide (x=y)):=by
 have mU:∀(A:eB) (x y:T) (m l:V) (u v:av),pl 0 x=ag->pl 0 y=ag->Rep X.K H x m->Rep X.K H y l->RelV m u->RelV l v->j1 A s u v (decide (x=y)):=by
  intro A x y m l u v z q g f k c;cases x with
  |non =>
   cases g.non;cases k;cases y with
   |non=>cases f.non;cases c;simp only[aaI];exact SeqAt.EqAt.same _
   |int j=>cases f.int;obtain⟨t',rfl⟩:=c;rw[x_ adE];exact SeqAt.EqAt.none_int _ _
   |str j=>cases f.str;obtain⟨t',rfl⟩:=c;rw[x_ adE];exact SeqAt.EqAt.none_str _ _
   |_=>simp [pl] at q
  |int i =>
   cases g.int;obtain⟨t,rfl⟩:=k;cases y with
   |non=>cases f.non;cases c;rw[x_ adE];exact SeqAt.EqAt.int_none _ _
   |int j=>cases f.int;obtain⟨t',rfl⟩:=c;rw[show decide (T.int i=T.int j)=(i==j) by by_cases h:i=j <;> simp [h]];exact SeqAt.EqAt.int_int _ _ _ _
   |str j=>cases f.str;obtain⟨t',rfl⟩:=c;rw[x_ adE];exact SeqAt.EqAt.int_str _ _ _ _
   |_=>simp [pl] at q
  |str i =>
   cases g.str;obtain⟨t,rfl⟩:=k;cases y with
   |non=>cases f.non;cases c;rw[x_ adE];exact SeqAt.EqAt.str_none _ _
   |int j=>cases f.int;obtain⟨t',rfl⟩:=c;rw[x_ adE];exact SeqAt.EqAt.str_int _ _ _ _
   |str j=>cases f.str;obtain⟨t',rfl⟩:=c;rw[show decide (T.str i=T.str j)=(i==j) by by_cases h:i=j <;> simp [h]];exact SeqAt.EqAt.str_str _ _ _ _
   |_=>simp [pl] at q
  |_=>simp [pl] at z
 intro d;induction d with
 |zero=>intro A x y m l u v z q g f k c _;exact mU A x y m l u v z q g f k c
 |succ d Z =>
 intro A x y m l u v z q g f k c hu;have p:A.units<cK:=adC
 cases x with
 |tup ts =>
  obtain⟨a,xs,rfl,N,r⟩:=g.tup;cases k;obtain⟨B,F,G,_⟩:=I.tuple N;cases y with
  |tup us =>
   obtain⟨b,J,rfl,n,C⟩:=f.tup;cases c;obtain⟨its',w,o,_⟩:=I.tuple n;by_cases D:a=b
   .subst D;have e:T.tup ts=T.tup us:=yZ I (d+1) _ _ (.ref a) z q (.ofTup N r) (.ofTup n C);rw[e,A_ rfl];exact SeqAt.EqAt.same _
   have l1:=r.length;have W:=C.length;have l3:=F.length;have l4:=w.length;have E:=SeqAt.RcAt.tuples (A:=A) (s:=s) (e:=λj=>decide (ts[j]?=us[j]?)) (show s.heap.IsTuple a B.toArray from G) (show s.heap.IsTuple b its'.toArray from o) p (λj P h2=>by
    rw[z_] at P h2
    have L:j<ts.length:=adC
    have M:j<us.length:=adC
    obtain⟨p1,S,q1⟩:=r.get (g_ L)
    obtain⟨p2,Q,q2⟩:=C.get (g_ M)
    obtain⟨z1,R,Y⟩:=F.get S
    obtain⟨O,f2,U⟩:=w.get Q
    rw[Jq _ R,Jq _ f2,g_ L,g_ M]
    simp only[pl,Zy] at z q
    have:=Z A.in1 ts[j] us[j] p1 p2 z1 O (z _ (Zt L)) (q _ (Zt M)) q1 q2 Y U (by rw[units_in1];omega)
    rw[show decide (ab ts[j]=ab us[j])=decide (ts[j]=us[j]) by by_cases h:ts[j]=us[j] <;> simp [h]]
    exact this)
   have eb:((af (min B.toArray.size its'.toArray.size)).all (λj=>decide (ts[j]?=us[j]?))&&B.toArray.size==its'.toArray.size)=decide (T.tup ts=T.tup us):=by
    rw[z_,z_,<- l3,<- l1,<- l4,<- W,Zv,ni,j_];constructor
    .rintro rfl;rfl
    intro h;injection h
   rw[eb] at E;exact .of_refs D E
  |non=>cases f.non;cases c;rw[x_ adE];exact SeqAt.EqAt.tuple_none G p
  |int j=>cases f.int;obtain⟨t',rfl⟩:=c;rw[x_ adE];exact SeqAt.EqAt.tuple_int _ _ G p
  |str j=>cases f.str;obtain⟨t',rfl⟩:=c;rw[x_ adE];exact SeqAt.EqAt.tuple_str _ _ G p
  |_=>simp [pl] at q
 |non =>
  cases y with
  |tup us=>obtain⟨b,J,rfl,n,C⟩:=f.tup;cases c;obtain⟨its',w,o,_⟩:=I.tuple n;cases g.non;cases k;rw[x_ adE];exact SeqAt.EqAt.none_tuple o p
  |non=>exact mU A _ _ m l u v rfl rfl g f k c
  |int j=>exact mU A _ _ m l u v rfl rfl g f k c
  |str j=>exact mU A _ _ m l u v rfl rfl g f k c
  |_=>simp [pl] at q
 |int i =>
  cases y with
  |tup us=>obtain⟨b,J,rfl,n,C⟩:=f.tup;cases c;obtain⟨its',w,o,_⟩:=I.tuple n;cases g.int;obtain⟨t,rfl⟩:=k;rw[x_ adE];exact SeqAt.EqAt.int_tuple _ _ o p
  |non=>exact mU A _ _ m l u v rfl rfl g f k c
  |int j=>exact mU A _ _ m l u v rfl rfl g f k c
  |str j=>exact mU A _ _ m l u v rfl rfl g f k c
  |_=>simp [pl] at q
 |str i =>
  cases y with
  |tup us=>obtain⟨b,J,rfl,n,C⟩:=f.tup;cases c;obtain⟨its',w,o,_⟩:=I.tuple n;cases g.str;obtain⟨t,rfl⟩:=k;rw[x_ adE];exact SeqAt.EqAt.str_tuple _ _ o p
  |non=>exact mU A _ _ m l u v rfl rfl g f k c
  |int j=>exact mU A _ _ m l u v rfl rfl g f k c
  |str j=>exact mU A _ _ m l u v rfl rfl g f k c
  |_=>simp [pl] at q
 |_=>simp [pl] at z
end
def rI3 (C:Int->Int->Prop) (g:Int->Int->T):R3:=λx y H Q=>match x,y with
 |.int i,.int j=>C i j/\Q (g i j) H
 |_,_=>False
def rG (g:Int->Int->T):R3:=λx y H Q=>match x,y with
 |.int i,.int j=>Q (g i j) H
 |_,_=>False
section
variable {X:Cx}
theorem uC (h:OpR X f (rI C g')) (c:∀i j H,Rep X.K H (g i j) (g' i j)):dj X f (rI3 C g):=by
 refine OpR.imp h ?_;rintro x y H Q ⟨e,a,H3,m,d,l,b,h,k⟩;cases e with
 |int i =>
  cases a with
  |int j=>exact⟨i,j,d.int,l.int,h.1,k _ _ _ _ .refl b (c i j H) h.2⟩
  |_=>exact h.elim
 |_=>exact h.elim
theorem nj (h:OpR X f (rI0 g')) (c:∀i j H,Rep X.K H (g i j) (g' i j)):dj X f (rG g):=by
 refine OpR.imp h ?_;rintro x y H Q ⟨e,a,H3,m,d,l,b,h,k⟩;cases e with
 |int i =>
  cases a with
  |int j=>exact⟨i,j,d.int,l.int,k _ _ _ _ .refl b (c i j H) h⟩
  |_=>exact h.elim
 |_=>exact h.elim
def DN (_ j:Int):Prop:=0<j/\j.natAbs.log2<9000
theorem DP:OpR X (bp .FloorDiv) (rI DN λi j=>.int (i / j)):=opI λi j _ _ _ _ _ a q=>by
 have e:i / j=i.fdiv j:=(gI i (ZX a.1)).symm;rw[e] at q;exact floordiv_int (Int.ne_of_gt a.1) q (.inl (PyProof.noPylong_of_log2 a.2))
theorem kI:dj X (bp .Sub) (rG λi j=>.int (i - j)):=nj Qa λ_ _ _=>.ofInt
theorem f9:dj X (bp .FloorDiv) (rI3 DN λi j=>.int (i / j)):=uC DP λ_ _ _=>.ofInt
theorem eV:dj X (bp .Mod) (rI3 (λ_ j=>0<j) λi j=>.int (i%j)):=uC Qd λ_ _ _=>.ofInt
theorem gW:dj X (bp .Pow) (rI3 Ik λi j=>.int (i^j.toNat)):=uC Qe λ_ _ _=>.ofInt
theorem qu:dj X (be .Lt) (rG λi j=>.bl (decide (i<j))):=nj UL λ_ _ _=>.ofBl
theorem M7:dj X (be .LtE) (rG λi j=>.bl (decide (i<=j))):=nj UT λ_ _ _=>.ofBl
theorem uD:dj X (be .Gt) (rG λi j=>.bl (decide (j<i))):=nj UV λ_ _ _=>.ofBl
theorem Vp:dj X (be .GtE) (rG λi j=>.bl (decide (j<=i))):=nj UW λ_ _ _=>.ofBl
theorem iw:dj X (bp .Mult) (rI3 aeg λi j=>.int (i*j)):=uC Qc λ_ _ _=>.ofInt
def qw:R3:=λx y H Q=>match x,y with
 |.int i,.int j=>Q (.int (i+j)) H
 |.str i,.str j=>i.length+j.length<=ap/\Q (.str (i++j)) H
 |.ref a,.ref b=>match H a,H b with
  |some (.lst xs),ab (.lst ys)=>xs.length+ys.length<=ap/\∀p,H p=ae->Q (.ref p) (aY H p (.lst (xs++ys)))
  |_,_=>False
 |.tup xs,.tup ys=>xs.length+ys.length<=ap/\Q (.tup (xs++ys)) H
 |_,_=>False
theorem DQ:OpR X (bp .Add) (λx y H Q=>∃a b m,x=.ref a/\y=.ref b/\SqT X.K H a []/\SqT X.K H b m/\Q (.ref b) H):=by
 intro l s P H x y v u Q I z G h;obtain⟨a,b,m,rfl,rfl,B,M,q⟩:=h;cases z;cases G;obtain⟨L,C,N,_⟩:=I.tuple B;obtain⟨d,O,D,_⟩:=I.tuple M;cases C;obtain⟨⟨w,E,r,J⟩,p,t,n,k⟩:=id N;obtain⟨⟨o,g,j,i⟩,c,e,A,f⟩:=id D;simp only at t k e f;subst t k e f;exact nL ⟨_,p,rfl⟩ ⟨_,c,rfl⟩ iL mf e5 eT (abL _ _)
   (tuple_addW0 a b _ d.toArray n A E g J i adE) ⟨p,c,⟨.ref b,H,I,rfl,q⟩⟩
theorem bh:dj X (bp .Add) qw:=by
 refine OpR.imp (afS.or (adS.or (afC.or (ae3.or DQ)))) ?_;rintro x y H Q ⟨C,n,H3,D,m,o,c,h,k⟩;cases C with
 |int i =>
  cases n with
  |int j=>exact .inl ⟨i,j,m.int,o.int,k _ _ _ _ .refl c .ofInt h⟩
  |_=>exact h.elim
 |str i =>
  cases n with
  |str j=>exact .inr (.inl ⟨i,j,m.str,o.str,h.1,k _ _ _ _ .refl c .ofStr h.2⟩)
  |_=>exact h.elim
 |ref a =>
  cases n with
  |ref b =>
   have h':(match H3 a,H3 b with
    |some (.lst xs),ab (.lst l)=>xs.length+l.length<=ap/\∀p,H3 p=ae->D (.ref p) (aY H3 p (.lst (xs++l)))
    |_,_=>False):=h
   split at h'
   ·
    rename_i xs l w v
    obtain⟨vs,A,g⟩:=c a _ w
    obtain⟨ws,B,d⟩:=c b _ v
    refine .inr (.inr (.inl ⟨a,b,vs,ws,m.ref,o.ref,A,B,by rw[<- g.length,<- d.length];exact h'.1,λp f=>?_⟩))
    exact k _ _ _ _ (aV f) (c.newLst f (g.append d)) .ofRef (h'.2 p (c.fresh f))
   ·
    exact h'.elim
  |_=>exact h.elim
 |tup xs =>
  cases n with
  |tup l =>
   obtain⟨a,vs,rfl,s,g⟩:=m.tup;obtain⟨b,ws,rfl,r,d⟩:=o.tup;by_cases u:vs=[]
   .subst u;have z:xs=[]:=aap g.length;subst z;exact .inr (.inr (.inr (.inr ⟨a,b,ws,rfl,rfl,s,r,k _ _ _ _ .refl c (.ofTup r d) h.2⟩)))
   refine .inr (.inr (.inr (.inl ⟨a,b,vs,ws,rfl,rfl,s,r,u,by rw[<- g.length,<- d.length];exact h.1,λt=>?_,λt p f=>?_⟩)))
   .have e:l=[]:=by have:=d.length;rw[t] at this;exact aap this
    have q:=h.2;rw[e,P_] at q;exact k _ _ _ _ .refl c (.ofTup s g) q
   exact k _ _ _ _ (aV f) (c.new f) (mz.newTup (H3:=H3) f (g.append d)) h.2
  |_=>exact h.elim
 |_=>exact h.elim
variable {pins:List (am × dL)}{σ:L2.St}{H:Hp}{s:aI}
def uE (c:Bool):R3:=λx y H Q=>match x,y with
 |.int i,.int j=>Q (.bl (if c then !decide (i=j) else decide (i=j))) H
 |.str i,.str j=>Q (.bl (if c then !decide (i=j) else decide (i=j))) H
 |.bl i,.bl j=>Q (.bl (if c then !decide (i=j) else decide (i=j))) H
 |.non,.non=>Q (.bl (if c then ah else ag)) H
 |.tup xs,.tup ys=>xs.all (pl 20)=ag/\ys.all (pl 20)=ag/\Q (.bl (if c then !decide (xs=ys) else decide (xs=ys))) H
 |.ref a,.ref b=>match H a,H b with
  |some (.lst xs),ab (.lst ys)=>a≠b/\xs.all (pl 20)=ag/\ys.all (pl 20)=ag/\Q (.bl (if c then !decide (xs=ys) else decide (xs=ys))) H
  |_,_=>False
 |_,_=>False
theorem nq (I:Inv X pins σ H s) {A:eB} (C:A.units+30<cK) (k:ts.all (pl 20)=ag) (l:us.all (pl 20)=ag) (r:fY X.K H ts xs) (i:fY X.K H us g) (c:Vals xs a) (b:Vals g its'):
  ∀j (f:j<a.toArray.size) (m:j<its'.toArray.size),j1 A.in1 s a.toArray[j] its'.toArray[j] (decide (ts[j]?=us[j]?)):=λj f m=>by
 have G:=r.length;have D:=i.length;have F:=c.length;have E:=b.length;rw[z_] at f m;have d:j<ts.length:=adC
 have e:j<us.length:=adC
 obtain⟨v,q,x⟩:=r.get (g_ d);obtain⟨w,o,B⟩:=i.get (g_ e);obtain⟨y,p,u⟩:=c.get q;obtain⟨n,z,t⟩:=b.get o;rw[Jq _ p,Jq _ z,g_ d,g_ e];rw[Zy] at k l;have:=za I 20 A.in1 ts[j] us[j] v w y n (k _ (Zt d)) (l _ (Zt e)) x B u t (by rw[units_in1];omega);rw[show decide (ab ts[j]=ab us[j])=decide (ts[j]=us[j]) by by_cases h:ts[j]=us[j] <;> simp [h]];exact this
theorem nA {ts us:List T}:((af (min ts.length us.length)).all (λj=>decide (ts[j]?=us[j]?))&&ts.length==us.length)=decide (ts=us):=by
 rw[Zv,ni,j_]
theorem Bv {c:Type} [BEq c] [LawfulBEq c] [DecidableEq c] (a b:c):(a==b)=decide (a=b):=by rw[Zv];simp
theorem M8 (f:Bool) (M:X.A.units+30<cK):dj X (be (bif f then .NotEq else .Eq)) (uE f):=by
 intro E s U H x y v u Q I o p h;obtain⟨V,C,H3,N,B,D,K,h,k⟩:=h;have d:∀{b c:Bool},N (.bl b) H3->c=b->EP X E U Q (.bool c) s:=λq e=>e▸⟨.bl _,H,I,rfl,k _ _ _ _ .refl K .ofBl q⟩;cases V with
 |int i =>
  cases C with
  |int j =>
   rw[B.int] at o;rw[D.int] at p;obtain⟨t,rfl⟩:=o;obtain⟨t',rfl⟩:=p;cases f
   .exact eq_int (d h (Bv ..))
   exact ne_int (d h (T_ not (Bv ..)))
  |_=>exact h.elim
 |str i =>
  cases C with
  |str j =>
   rw[B.str] at o;rw[D.str] at p;obtain⟨t,rfl⟩:=o;obtain⟨t',rfl⟩:=p;cases f
   .exact eq_str (d h (Bv ..))
   exact ne_str (d h (T_ not (Bv ..)))
  |_=>exact h.elim
 |bl i =>
  cases C with
  |bl j =>
   rw[B.bl] at o;rw[D.bl] at p;cases o;cases p;cases f
   .exact eq_bool (d h (Bv ..))
   exact ne_bool (d h (T_ not (Bv ..)))
  |_=>exact h.elim
 |non =>
  cases C with
  |non =>
   rw[B.non] at o;rw[D.non] at p;cases o;cases p;cases f
   .exact PySem.EqNone.eq_none_none (d h rfl)
   exact PySem.EqNone.ne_none_none (d h rfl)
  |_=>exact h.elim
 |tup ts =>
  cases C with
  |tup us =>
   obtain⟨a,xs,rfl,O,r⟩:=B.tup;obtain⟨b,F,rfl,L,G⟩:=D.tup;cases o;cases p;obtain⟨J,n,w,_⟩:=I.tuple O;obtain⟨its',l,g,_⟩:=I.tuple L;have e:=nA (ts:=ts) (us:=us);rw[r.length,G.length,n.length,l.length] at e;have m:=nq I M h.1 h.2.1 r G n l;cases f
   .exact SeqAt.eq_tupleAt (e:=λj=>decide (ts[j]?=us[j]?)) w g adC m (d h.2.2 e)
   exact SeqAt.RcNeAt.tuples (e:=λj=>decide (ts[j]?=us[j]?)) w g adC m _ _ _ _ (d h.2.2 (T_ not e))
  |_=>exact h.elim
 |ref a =>
  cases C with
  |ref b =>
   have h':(match H3 a,H3 b with
    |some (.lst xs),ab (.lst F)=>a≠b/\xs.all (pl 20)=ag/\F.all (pl 20)=ag/\N (.bl (if f then !decide (xs=F) else decide (xs=F))) H3
    |_,_=>False):=h
   split at h'
   ·
    rename_i ts us R P
    obtain⟨xs,S,r⟩:=K a _ R
    obtain⟨F,T,G⟩:=K b _ P
    cases B.ref;cases D.ref;cases o;cases p
    obtain⟨J,n,w,_⟩:=I.list (X:=X) (.of S)
    obtain⟨its',l,g,_⟩:=I.list (X:=X) (.of T)
    have Y:J.length=ts.length:=by rw[<- n.length,<- r.length]
    have W:its'.length=us.length:=by rw[<- l.length,<- G.length]
    have m:=nq I M h'.2.1 h'.2.2.1 r G n l
    by_cases hsz:ts.length=us.length
    ·
     have e:=nA (ts:=ts) (us:=us)
     rw[<- hsz,Nat.min_self,beq_self_eq_true,abN,<- Y] at e
     cases f
     ·
      exact qh (e:=λj=>decide (ts[j]?=us[j]?)) w.isList g.isList (by simp;omega) adC m (d h'.2.2.2 e)
     ·
      exact SeqAt.RcNeAt.lists (e:=λj=>decide (ts[j]?=us[j]?)) w.isList g.isList (by simp;omega) adC m _ _ _ _ (d h'.2.2.2 (T_ not e))
    ·
     have e:decide (ts=us)=ah:=x_ λz=>hsz (by rw[z])
     cases f
     ·
      exact SeqAt.eq_list_lengthsAt w.isList g.isList (by simp;omega) adC (d h'.2.2.2 e.symm)
     ·
      exact SeqAt.RcNeAt.lists_lengths w.isList g.isList (by simp;omega) adC _ _ _ _ (d h'.2.2.2 (by show ag=!decide (ts=us);rw[e];rfl))
   ·
    exact h'.elim
  |_=>exact h.elim
 |_=>exact h.elim
theorem cY (a:X.A.units+30<cK):dj X (be .Eq) (uE ah):=M8 ah a
theorem iy (a:X.A.units+30<cK):dj X (be .NotEq) (uE ag):=M8 ag a
def dM (a:Bool) (x:T) (ts:List T):Bool:=if a then !decide (x∈ts) else decide (x∈ts)
def occ (a:Bool) (i j:ai):Bool:=if a then !(!(bo j i 0 j.length 1).isEmpty) else !(bo j i 0 j.length 1).isEmpty
def uF (b:Bool):R3:=λx y H Q=>match y with
 |.tup ts=>pl 20 x=ag/\ts.all (pl 20)=ag/\Q (.bl (dM b x ts)) H
 |.ref a=>match H a with
  |some (.lst ts)=>pl 20 x=ag/\ts.all (pl 20)=ag/\Q (.bl (dM b x ts)) H
  |some (.rol ts)=>pl 20 x=ag/\ts.all (pl 20)=ag/\Q (.bl (dM b x ts)) H
  |_=>False
 |.str j=>match x with
  |.str i=>Q (.bl (occ b i j)) H
  |_=>False
 |_=>False
theorem DR (I:Inv X pins σ H s) (w:pl 20 x=ag) (d:ts.all (pl 20)=ag) (r:fY X.K H ts xs) (m:Vals xs a) (A:eB) (N:A.units+30<cK) (D:Rep X.K H x o) (F:RelV o u):
  ∃e:av->Bool,(∀y,y∈a->j1 A s y u (e y))/\a.any e=decide (x∈ts):=by
 rw[Zy] at d;have j:∀y,y∈a->∃t v,t∈ts/\Rep X.K H t v/\RelV v y:=λy h=>by
  obtain⟨i,l,e⟩:=List.mem_iff_getElem.mp h;have P:=m.length;have J:a[i]?=ab y:=by rw[g_ l,e]
  have k:xs[i]?=ab xs[i]:=g_ adC;obtain⟨z,p,C⟩:=m.get k;rw[J] at p;cases p;obtain⟨t,E,c⟩:=r.get' k;exact⟨t,_,ZC E,c,C⟩
 have g:∀t v y,t∈ts->Rep X.K H t v->RelV v y->(@decide (∃v,RelV v y/\Rep X.K H x v) (aw _)=ag↔t=x):=λt v y f c b=>by
  rw[@j_ _ (aw _)];constructor
  .rintro⟨O,G,B⟩;cases G.inj b;exact yZ I 20 t x _ (d t f) w c B
  rintro rfl;exact⟨v,b,c⟩
 refine⟨λy=>@decide (∃v,RelV v y/\Rep X.K H x v) (aw _),λy h=>?_,?_⟩
 .obtain⟨t,v,f,c,b⟩:=j y h;have q:=za I 20 A t x v o y u (d t f) w c D b F adC;have e:@decide (∃v,RelV v y/\Rep X.K H x v) (aw _)=decide (t=x):=by rw[Zv,g t v y f c b,j_]
  show j1 A s y u (@decide (∃v,RelV v y/\Rep X.K H x v) (aw _));rw[e];exact q
 rw[Zv,Z_,j_];constructor
 .rintro⟨y,h,e⟩;obtain⟨t,v,f,c,b⟩:=j y h;rw[<- (g t v y f c b).mp e];exact f
 intro k;obtain⟨i,l,e⟩:=List.mem_iff_getElem.mp k;obtain⟨v,M,n⟩:=r.get (show ts[i]?=ab x by rw[g_ l,e]);obtain⟨y,L,b⟩:=m.get M;exact⟨y,ZC L,(g x v y k n b).mpr rfl⟩
theorem M9 (d:Bool) (S:X.A.units+31<cK):dj X (be (bif d then .NotIn else .In)) (uF d):=by
 intro f s L H x y v u Q I J z h;obtain⟨p,O,H3,N,G,M,B,h,k⟩:=h;have D:X.A.in1.units+30<cK:=by rw[units_in1];omega
 have l:∀{b c:Bool},N (.bl b) H3->c=b->EP X f L Q (.bool c) s:=λq e=>e▸⟨.bl _,H,I,rfl,k _ _ _ _ .refl B .ofBl q⟩;have E:∀{a:am} {ts:List T} {xs:List V},SqL X.K H a xs->fY X.K H ts xs->u=.ref a->pl 20 p=ag->ts.all (pl 20)=ag->N (.bl (dM d p ts)) H3->aE (ay X.prog X.w) X.A (be (bif d then .NotIn else .In) v u) (EP X f L Q) X.xe s:=by
  intro a ts xs m r e R P q;subst e;obtain⟨g,o,C,_⟩:=I.list m;obtain⟨e,F,t⟩:=DR I R P r o X.A.in1 D G J;rw[<- show g.toArray.any e=g.any e by simp] at t;cases d
  .exact SeqAt.in_listAt e C.isList (λy n=>F y (by simpa using n)) (l q t)
  exact SeqAt.notIn_listAt e C.isList (λy n=>F y (by simpa using n)) (l q (T_ not t))
 cases O with
 |tup ts =>
  obtain⟨a,xs,rfl,m,r⟩:=M.tup;cases z;obtain⟨g,o,C,_⟩:=I.tuple m;obtain⟨e,F,t⟩:=DR I h.1 h.2.1 r o X.A.in1 D G J;rw[<- show g.toArray.any e=g.any e by simp] at t;cases d
  .exact SeqAt.in_tupleAt e C (λy n=>F y (by simpa using n)) (l h.2.2 t)
  exact SeqAt.notIn_tupleAt e C (λy n=>F y (by simpa using n)) (l h.2.2 (T_ not t))
 |ref a =>
  have h':(match H3 a with
   |some (.lst ts)=>pl 20 p=ag/\ts.all (pl 20)=ag/\N (.bl (dM d p ts)) H3
   |some (.rol ts)=>pl 20 p=ag/\ts.all (pl 20)=ag/\N (.bl (dM d p ts)) H3
   |_=>False):=h
  rw[M.ref] at z
  split at h'
  ·
   rename_i ts e
   obtain⟨xs,m,r⟩:=B.sqL (.inl e)
   exact E m r z h'.1 h'.2.1 h'.2.2
  ·
   rename_i ts e
   obtain⟨xs,m,r⟩:=B.sqL (.inr e)
   exact E m r z h'.1 h'.2.1 h'.2.2
  ·
   exact h'.elim
 |str j =>
  cases p with
  |str i =>
   cases d
   .exact Be f s L H x y v u Q I J z ⟨i,j,G.str,M.str,k _ _ _ _ .refl B .ofBl h⟩
   exact qW f s L H x y v u Q I J z ⟨i,j,G.str,M.str,k _ _ _ _ .refl B .ofBl h⟩
  |_=>exact h.elim
 |_=>exact h.elim
theorem uG (a:X.A.units+31<cK):dj X (be .In) (uF ah):=M9 ah a
theorem iz (a:X.A.units+31<cK):dj X (be .NotIn) (uF ag):=M9 ag a
def oq {a:Type}(o:Option a) (Q:a->Prop):Prop:=match o with
 |some v=>Q v
 |none=>False
def uH:R3:=λx y H Q=>match x,y with
 |.ref a,.int i=>match H a with
  |some (.lst ts)=>oq (atI ts i) λt=>Q t H
  |some (.rol ts)=>oq (atI ts i) λt=>Q t H
  |_=>False
 |.tup ts,.int i=>oq (atI ts i) λt=>Q t H
 |.str z,.int i=>z.length<=ap/\oq (atI z.cps.toList i) λc=>Q (.str ⟨#[c]⟩) H
 |_,_=>False
theorem zb {K:a8} (r:fY K H ts xs) (h:atI ts i=ab t):∃v,atI xs i=ab v/\Rep K H t v:=by
 unfold atI at h |-;rw[<- r.length];cases e:ixN ts.length i with
 |none=>rw[e] at h;cases h
 |some j =>
 rw[e] at h;exact r.get h
theorem pA:Vn X uH:=by
 refine IxR.imp Qs ?_;rintro x y H Q ⟨u,n,H3,g,j,l,f,h,k⟩;have d:∀{a:am} {ts:List T} {xs:List V} {i:Int},SqL X.K H a xs->fY X.K H ts xs->x=.ref a->y=.int i->oq (atI ts i) (λt=>g t H3)->rIx X.K x y H Q:=by
  intro a ts xs i b r p s q;cases e:atI ts i with
  |none=>rw[e] at q;exact q.elim
  |some t =>
  rw[e] at q;obtain⟨v,m,o⟩:=zb r e;exact .inl ⟨a,xs,i,v,p,s,b,m,k _ _ _ _ .refl f o q⟩
 cases u with
 |ref a =>
  cases n with
  |int i =>
   have h':(match H3 a with
    |some (.lst ts)=>oq (atI ts i) λt=>g t H3
    |some (.rol ts)=>oq (atI ts i) λt=>g t H3
    |_=>False):=h
   split at h'
   ·
    rename_i ts e
    obtain⟨xs,b,r⟩:=f.sqL (.inl e)
    exact d b r j.ref l.int h'
   ·
    rename_i ts e
    obtain⟨xs,b,r⟩:=f.sqL (.inr e)
    exact d b r j.ref l.int h'
   ·
    exact h'.elim
  |_=>exact h.elim
 |tup ts =>
  cases n with
  |int i =>
   have h':oq (atI ts i) λt=>g t H3:=h
   cases e:atI ts i with
   |none=>rw[e] at h';exact h'.elim
   |some t =>
    rw[e] at h'
    obtain⟨a,xs,p,b,r⟩:=j.tup
    obtain⟨v,m,o⟩:=zb r e
    exact .inr (.inl ⟨a,xs,i,v,p,l.int,b,m,k _ _ _ _ .refl f o h'⟩)
  |_=>exact h.elim
 |str z =>
  cases n with
  |int i =>
   have h':z.length<=ap/\oq (atI z.cps.toList i) λc=>g (.str ⟨#[c]⟩) H3:=h
   cases e:atI z.cps.toList i with
   |none=>rw[e] at h';exact h'.2.elim
   |some c =>
    rw[e] at h'
    exact .inr (.inr ⟨z,i,c,j.str,l.int,h'.1,e,k _ _ _ _ .refl f .ofStr h'.2⟩)
  |_=>exact h.elim
 |_=>exact h.elim
def DW:uw:=λo i v H Q=>match o,i with
 |.ref a,.int k=>match H a with
  |some (.lst ts)=>oq (ixN ts.length k) λj=>Q (aY H a (.lst (ts.set j v)))
  |_=>False
 |_,_=>False
theorem mz.wrL {K:a8} (s:mz K H3 H) (g:H a=ab (.lst xs)) (r:fY K H ts c):mz K (aY H3 a (.lst ts)) (upd H a (.lst c)):=λb o e=>by
 have f:jj K H (upd H a (.lst c)):=bN (by rw[g];exact trivial);by_cases d:b=a
 .subst d;rw[aA] at e;cases e;exact⟨c,cu,r.mono f⟩
 rw[aD d] at e;exact (s b o e).stay f λu q=>by rw[bu d];exact q
theorem Bw:M3 X DW:=by
 refine adQ.imp set_list ?_;rintro o i v H Q ⟨q,s,p,H3,m,g,l,f,d,h,k⟩;cases q with
 |ref a =>
  cases s with
  |int n =>
   have h':(match H3 a with
    |some (.lst ts)=>oq (ixN ts.length n) λj=>m (aY H3 a (.lst (ts.set j p)))
    |_=>False):=h
   split at h'
   ·
    rename_i ts e
    obtain⟨xs,c,r⟩:=d a _ e
    cases b:ixN ts.length n with
    |none=>rw[b] at h';exact h'.elim
    |some j =>
     rw[b] at h'
     exact⟨a,xs,n,j,g.ref,l.int,c,by rw[<- r.length];exact b,k _ _ (bN (by rw[c];exact trivial)) (d.wrL c (r.set j f)) h'⟩
   ·
    exact h'.elim
  |_=>exact h.elim
 |_=>exact h.elim
abbrev TO3:=St3->eH->(Option Int->eH->Prop)->Prop
def YS (K:a8) (d:TO3):TO:=λe H Q=>∃a H3 c,acr K H a e/\mz K H3 H/\d a H3 c/\∀o H' b,jj K H H'->mz K b H'->c o b->Q o H'
def PO3 (X:Cx) (e:Option Expr) (t:TO3):Prop:=PO X e (YS X.K t)
theorem PO.imp (h:PO X e t) (w:∀b H Q,t' b H Q->t b H Q):PO X e t':=λa s b H Q I q=>h a s b H Q I (w b H Q q)
def uI:TO3:=λ_ H Q=>Q ae H
def DX (t:vy):TO3:=λb H Q=>t b H λx a=>match x with
 |.int i=>Q (ab i) a
 |_=>False
theorem iB:PO3 X ae uI:=by
 refine PO.imp IW ?_;rintro e H Q ⟨b,H3,c,d,a,h,k⟩;exact k _ _ _ .refl a h
theorem fP (h:o4 X e te):PO3 X (ab e) (DX te):=by
 refine PO.imp (Ja h) ?_;rintro l H Q ⟨b,H3,j,g,c,h,k⟩;refine⟨b,H3,_,g,c,h,λv H' t f d a r q=>?_⟩;cases t with
 |int i=>exact⟨i,r.int,k _ _ _ d a q⟩
 |_=>exact q.elim
theorem QF:SlR X (λx m g H Q=>∃z,x=.str z/\z.length<=ap/\Q (.str (iS z m g)) H):=by
 intro b s y H x v C A m g B Q I r w pl n h;obtain⟨z,rfl,hz,q⟩:=h;obtain⟨t,rfl⟩:=r;refine⟨"str",_,F.slot_str_getitem.lookup,re _ _ _,?_⟩;obtain⟨o,e,c,d⟩:=w;have a:∀(t':Tok) (k:Nat),EP X b y Q (.str (iS z m g) t') { s with toks:=k}:=λt' k=>⟨.str _,H,I.tok k,⟨t',rfl⟩,q⟩;cases pl with
 |none =>
  cases n with
  |none=>exact aa8 (l:=ae) (u:=ae) (st:=ae) ⟨o,e,c,d⟩ rfl (fw ⟨W_ (jS z _ _) hz,a⟩)
  |int j f=>exact aa8 (l:=ae) (u:=ab (j,f)) (st:=ae) ⟨o,e,c,d⟩ rfl (fw ⟨W_ (jS z _ _) hz,a⟩)
 |int i p =>
 cases n with
 |none=>exact aa8 (l:=ab (i,p)) (u:=ae) (st:=ae) ⟨o,e,c,d⟩ rfl (fw ⟨W_ (jS z _ _) hz,a⟩)
 |int j f=>exact aa8 (l:=ab (i,p)) (u:=ab (j,f)) (st:=ae) ⟨o,e,c,d⟩ rfl (fw ⟨W_ (jS z _ _) hz,a⟩)
def fU (ts:List T) (a b:Option Int):List T:=(ts.drop (HT.sIx ts.length 0 a)).take (HT.sIx ts.length ts.length b - HT.sIx ts.length 0 a)
def Jr:T->Option Int->Option Int->eH->sy->Prop:=λx c b H Q=>match x with
 |.ref a=>match H a with
  |some (.lst ts)=>∀p,H p=ae->Q (.ref p) (aY H p (.lst (fU ts c b)))
  |some (.rol ts)=>∀p,H p=ae->Q (.ref p) (aY H p (.lst (fU ts c b)))
  |_=>False
 |.tup ts=>¬(HT.sIx ts.length 0 c=0/\HT.sIx ts.length ts.length b=ts.length)/\Q (.tup (fU ts c b)) H
 |.str z=>z.length<=ap/\Q (.str (iS z c b)) H
 |_=>False
def Vq (te:vy) (b c:TO3):vy:=λa H Q=>te a H λx e=>b a e λl d=>c a d λu H3=>Jr x l u H3 Q
theorem rH {K:a8} (r:fY K H ts xs) (b a:Option Int):fY K H (fU ts b a) (ue xs b a):=by
 unfold fU ue;rw[<- r.length];exact (r.drop _).take _
theorem iC {K A:ka} (N:o4 X e te) (O:PO3 X C E) (J:PO3 X B D):o4 X (.Subscript e (.Slice C B ae K) A) (Vq te E D):=by
 refine PE.imp (Dg (ae5.or (afK.or QF)) N O J) ?_;rintro S H Q ⟨i,H3,F,w,G,h,k⟩;refine⟨i,H3,_,w,G,h,λx U L v j s I M=>⟨i,v,_,w.mono j,s,M,λl R y g t P=>⟨i,y,_,w.mono (j.trans g),t,P,λu T c o b m=>?_⟩⟩⟩;have q:=k.at (j.trans (g.trans o));have f:=I.mono (g.trans o);cases L with
 |ref a =>
  have h':(match c a with
   |some (.lst ts)=>∀p,c p=ae->F (.ref p) (aY c p (.lst (fU ts l u)))
   |some (.rol ts)=>∀p,c p=ae->F (.ref p) (aY c p (.lst (fU ts l u)))
   |_=>False):=m
  split at h'
  ·
   rename_i ts e
   obtain⟨xs,n,r⟩:=b.sqL (.inl e)
   exact .inl ⟨a,xs,f.ref,n,λp d=>q _ _ _ _ (aV d) (b.newLst d (rH r l u)) .ofRef (h' p (b.fresh d))⟩
  ·
   rename_i ts e
   obtain⟨xs,n,r⟩:=b.sqL (.inr e)
   exact .inl ⟨a,xs,f.ref,n,λp d=>q _ _ _ _ (aV d) (b.newLst d (rH r l u)) .ofRef (h' p (b.fresh d))⟩
  ·
   exact h'.elim
 |tup ts=>obtain⟨a,xs,rfl,n,r⟩:=f.tup;refine .inr (.inl ⟨a,xs,rfl,n,by rw[<- r.length];exact m.1,λp d=>q _ _ _ _ (aV d) (b.new d) (mz.newTup (H3:=c) d (rH r l u)) m.2⟩)
 |str z=>exact .inr (.inr ⟨z,f.str,m.1,q _ _ _ _ .refl b .ofStr m.2⟩)
 |_=>exact m.elim
def aR (k:ai):List (ai × T)->Option T
 |[]=>ae
 | (k',v)::r=>if k'=k then ab v else aR k r
def put3 (k:ai) (v:T) (kvs:List (ai × T)):List (ai × T) :=
 if (kvs.any λa=>decide (a.1=k))=ag then kvs.map (λa=>if a.1=k then (a.1,v) else a) else kvs++[(k,v)]
def r3D:R3:=λx y H Q=>match x,y with
 |.ref a,.str k=>match H a with
  |some (.dct kvs)=>oq (aR k kvs) λt=>Q t H
  |_=>False
 |_,_=>False
theorem uJ {K:a8}:∀{kvs:List (ai × T)}{vs:List (Key × V)}{t:T},ac9 K H kvs vs->aR k kvs=ab t->∃v,fJ vs (cf k:Key)=ab v/\Rep K H t v
 |[],_,_,_,e=>by cases e
 | (k',t')::r,_,t,.cons (b:=(kk,v')) ⟨e1,rv⟩ rr,e=>by
  simp only at e1 rv
  subst e1
  unfold aR at e
  by_cases a:k'=k
  ·
   rw[aca a] at e
   cases e
   exact⟨v',by rw[fK (by rw[a])],rv⟩
  ·
   rw[ace a] at e
   obtain⟨v,c,q⟩:=uJ rr e
   exact⟨v,by rw[fL (by intro z;exact a (kU z))];exact c,q⟩
theorem d7 {s w:vy} (D:X.A.units+1<cK) (G:o4 X o s) (C:o4 X i w) (O:Jd i:=by exact λ_ _=>rfl):o4 X (.Subscript o i p) (ut r3D s w):=by
 refine PE.imp (yK D G C O) ?_;rintro R H Q ⟨c,H3,N,u,z,h,k⟩;refine⟨c,H3,_,u,z,h,λx S I n f l B M=>⟨c,n,_,u.mono f,l,M,λy P F g j d J q=>?_⟩⟩;cases I with
 |ref a =>
  cases F with
  |str b =>
   have h':(match g a with
    |some (.dct kvs)=>oq (aR b kvs) λt=>N t g
    |_=>False):=q
   split at h'
   ·
    rename_i kvs e
    obtain⟨vs,K,r⟩:=d a _ e
    cases m:aR b kvs with
    |none=>rw[m] at h';exact h'.elim
    |some t =>
     rw[m] at h'
     obtain⟨v,L,E⟩:=uJ r m
     refine⟨a,v,B.ref,?_,k.at (f.trans j) _ _ _ _ .refl d E h'⟩
     rw[J.str,<- L]
     exact acR.k (k:=cf b) K
   ·
    exact h'.elim
  |_=>exact q.elim
 |_=>exact q.elim
def DY (c d e:vy):TS3:=λD b H=>e b H λv g=>c b g λx f=>d b f λy H3=>match x,y with
 |.ref a,.str k=>match H3 a with
  |some (.dct kvs)=>kvs.length<ap/\D.nx b (aY H3 a (.dct (put3 k v kvs)))
  |_=>False
 |_,_=>False
theorem Js {K:a8} (n:Rep K H t v) (r:ac9 K H kvs vs):ac9 K H (put3 k t kvs) (putK vs (cf k:Key) v):=by
 have e:∀{kvs:List (ai × T)} {vs:List (Key × V)},ac9 K H kvs vs->(kvs.any λc=>decide (c.1=k))=(vs.any λc=>decide (c.1=(cf k:Key)))/\ac9 K H (kvs.map (λc=>if c.1=k then (c.1,t) else c)) (vs.map (λc=>if c.1=(cf k:Key) then (c.1,v) else c)):=by
  intro kvs;induction kvs with
  |nil=>intro vs r;cases r;exact⟨rfl,.nil⟩
  |cons p l s =>
  intro vs r;cases r with
  |cons q u =>
  rename_i b x;obtain⟨j,g⟩:=s u;obtain⟨m,o⟩:=q;obtain⟨y,w⟩:=b;simp only at m o;subst m;by_cases f:p.1=k
  .refine⟨by simp [f],?_⟩;simp only[D_,f,if_true];exact .cons ⟨rfl,n⟩ g
  have d:¬(cf p.1:Key)=cf k:=λz=>f (kU z);refine⟨by simp only[abM,f,d,aas,mo];exact j,?_⟩;simp only[D_,f,d,Zj];exact .cons ⟨rfl,o⟩ g
 obtain⟨j,g⟩:=e r;unfold put3 putK;rw[j];split
 .exact g
 have i:∀{a:List (ai × T)} {b:List (Key × V)},ac9 K H a b->ac9 K H (a++[(k,t)]) (b++[((cf k:Key),v)]):=λh=>k5 h ⟨rfl,n⟩;exact i r
theorem mz.wrD {K:a8} (s:mz K H3 H) (h:H a=ab (.dK g)) (r:ac9 K H kvs c):mz K (aY H3 a (.dct kvs)) (upd H a (.dK c)):=λb o e=>by
 have f:jj K H (upd H a (.dK c)):=bN (by rw[h];exact trivial);by_cases d:b=a
 .subst d;rw[aA] at e;cases e;exact⟨c,cu,r.mono f⟩
 rw[aD d] at e;exact (s b o e).stay f λu q=>by rw[bu d];exact q
theorem jM {I s t:vy} (O:X.A.units+1<cK) (R:o4 X o I) (N:o4 X i s) (S:o4 X b t) (Y:dt b (ab (.Subscript o i j)) q.line X.env=a5 ah:=by rfl):
  PS3 X (.Assign [.Subscript o i j] b q) (DY I s t):=by
 refine PS.imp (yL O R N S Y) ?_;rintro D σ H ⟨d,H3,P,u,L,h,V,_⟩;refine⟨d,H3,_,u,L,h,λv H1 t C f z Q W=>⟨d,C,_,u.mono f,z,W,λx H2 T G c B M Z=>⟨d,G,_,u.mono (f.trans c),B,Z,λy J s m g n U w=>?_⟩⟩⟩;cases T with
 |ref a =>
  cases s with
  |str l =>
   have h':(match m a with
    |some (.dct kvs)=>kvs.length<ap/\P.nx d (aY m a (.dct (put3 l t kvs)))
    |_=>False):=w
   split at h'
   ·
    rename_i kvs e
    obtain⟨vs,F,r⟩:=n a _ e
    have E:=Q.mono (c.trans g)
    have p:jj X.K J (upd J a (.dK (putK vs (cf l:Key) v))):=bN (by rw[F];exact trivial)
    refine⟨a,_,(M.mono g).ref,?_,V _ _ _ _ (f.trans (c.trans (g.trans p))) (u.mono (f.trans (c.trans (g.trans p)))) (n.wrD F (Js E r)) h'.2⟩
    rw[U.str]
    exact adN.k (k:=cf l) F (by rw[<- aaZ r];exact h'.1)
   ·
    exact h'.elim
  |_=>exact w.elim
 |_=>exact w.elim
def Vr:List (ai × vy)->St3->eH->(List (ai × T)->eH->Prop)->Prop
 |[],_,H,Q=>Q [] H
 | (k,tv)::r,σ,H,Q=>tv σ H λy a=>Vr r σ a λps H3=>Q ((k,y)::ps) H3
def YT (kvs a:List (ai × T)):List (ai × T):=a.foldl (λb c=>put3 c.1 c.2 b) kvs
def QG (a:List (ai × vy)):vy:=λc H Q=>∀p,H p=ae->Vr a c (aY H p (.dct [])) λps b=>b p=ab (.dct [])/\ps.length<=15/\Q (.ref p) (aY b p (.dct (YT [] ps)))
variable {p pos:ka}{es:List Expr}{id Ty:String}
def QH (r:List T->eH->sy->Prop) (t:TA3):vy:=λb H Q=>t b H λvs a=>r vs a Q
theorem aM (w:fM X (.builtin id) r) (i:Gl X x) (j:X.mg x=ae) (l:bb x=ab (.builtin id)) (n:PA3 X (e::es) t) (o:x≠"__name__":=by decide) (d:(x==("__debug__":ai))=ah:=by decide)
  (u:ax (e::es) X.env=(ah,br e X.env)::ax es X.env:=by rfl) (a:(bt pos (ax es X.env)).any (·.1)=ah:=by rfl):o4 X (.Call (.Name x p) (e::es) [] pos) (QH r t):=by
 refine PE.imp (De w i j l n o d u a) ?_;rintro y H Q ⟨c,H3,s,m,g,h,k⟩;exact⟨c,H3,_,m,g,h,λvs H' ts f v b r q=>⟨ts,f,s,r,b,q,k.at v⟩⟩
theorem bJ (w:fM X (.type Ty) r) (i:Gl X x) (j:X.mg x=ae) (l:bb x=ab (.type Ty)) (n:PA3 X (e::es) t) (o:x≠"__name__":=by decide) (d:(x==("__debug__":ai))=ah:=by decide)
  (u:ax (e::es) X.env=(ah,br e X.env)::ax es X.env:=by rfl) (a:(bt pos (ax es X.env)).any (·.1)=ah:=by rfl):o4 X (.Call (.Name x p) (e::es) [] pos) (QH r t):=by
 refine PE.imp (Bk w i j l n o d u a) ?_;rintro y H Q ⟨c,H3,s,m,g,h,k⟩;exact⟨c,H3,_,m,g,h,λvs H' ts f v b r q=>⟨ts,f,s,r,b,q,k.at v⟩⟩
theorem uK (c:Gl X x) (d:X.mg x=ae) (f:bb x=ab (.type n)) (e:x≠"__name__":=by decide) (a:(x==("__debug__":ai))=ah:=by decide):o4 X (.Name x pos) (tC3 (.ty n)):=by
 refine PE.imp (HW (v:=.ty n) c d f rfl e a) ?_;rintro l H Q ⟨g,H3,i,j,b,h,k⟩;exact k _ _ _ H3 .refl b .ofTy h
theorem fY.one' {K:a8}{t:T} (r:fY K H [t] vs):∃v,vs=[v]/\Rep K H t v:=by
 obtain⟨v,_,rfl,a,b⟩:=r.inv;rw[b.inv0];exact⟨v,rfl,a⟩
theorem fY.two' {K:a8}{t u:T} (r:fY K H [t,u] vs):∃v w,vs=[v,w]/\Rep K H t v/\Rep K H u w:=by
 obtain⟨v,_,rfl,a,b⟩:=r.inv;obtain⟨w,rfl,c⟩:=b.one';exact⟨v,w,rfl,a,c⟩
def zc:List T->eH->sy->Prop:=λts H Q=>match ts with
 |[.ref a]=>match H a with
  |some (.lst xs)=>Q (.int xs.length) H
  |some (.rol xs)=>Q (.int xs.length) H
  |_=>False
 |[.tup xs]=>Q (.int xs.length) H
 |[.str z]=>z.length<=ap/\Q (.int z.length) H
 |_=>False
theorem bH:fM X (.builtin "len") zc:=by
 refine acj.imp (ady.or q8) ?_;rintro xs H Q ⟨ts,H3,i,r,b,h,k⟩
 match ts,h,r with
 |[.ref a],h,r =>
  obtain⟨v,rfl,c⟩:=r.one';have h':(match H3 a with
   |some (.lst xs)=>i (.int xs.length) H3
   |some (.rol xs)=>i (.int xs.length) H3
   |_=>False):=h
  split at h'
  .rename_i us e;obtain⟨g,f,d⟩:=b.sqL (.inl e);exact .inl ⟨a,g,by rw[c.ref],.inl f,by rw[<- d.length];exact k _ _ _ _ .refl b .ofInt h'⟩
  .rename_i us e;obtain⟨g,f,d⟩:=b.sqL (.inr e);exact .inl ⟨a,g,by rw[c.ref],.inl f,by rw[<- d.length];exact k _ _ _ _ .refl b .ofInt h'⟩
  exact h'.elim
 |[.tup us],h,r=>obtain⟨v,rfl,c⟩:=r.one';obtain⟨a,g,rfl,f,d⟩:=c.tup;exact .inl ⟨a,g,rfl,.inr f,by rw[<- d.length];exact k _ _ _ _ .refl b .ofInt h⟩
 |[.str z],h,r =>
 obtain⟨v,rfl,c⟩:=r.one';exact .inr ⟨z,by rw[c.str],h.1,k _ _ _ _ .refl b .ofInt h.2⟩
def wY:List T->eH->sy->Prop:=λts H Q=>match ts with
 |[.ref a]=>match H a with
  |some (.lst xs)=>∀p,H p=ae->Q (.ref p) (aY H p (.lst xs))
  |some (.rol xs)=>∀p,H p=ae->Q (.ref p) (aY H p (.lst xs))
  |_=>False
 |[.tup xs]=>∀p,H p=ae->Q (.ref p) (aY H p (.lst xs))
 |_=>False
theorem mC:fM X (.type "list") wY:=by
 refine acj.imp q9 ?_;rintro xs H Q ⟨ts,H3,j,r,c,h,k⟩
 match ts,h,r with
 |[.ref a],h,r =>
  obtain⟨v,rfl,i⟩:=r.one';have h':(match H3 a with
   |some (.lst xs)=>∀p,H3 p=ae->j (.ref p) (aY H3 p (.lst xs))
   |some (.rol xs)=>∀p,H3 p=ae->j (.ref p) (aY H3 p (.lst xs))
   |_=>False):=h
  split at h'
  .rename_i us e;obtain⟨g,f,d⟩:=c.sqL (.inl e);exact⟨a,g,by rw[i.ref],.inl f,λl b=>k _ _ _ _ (aV b) (c.newLst b d) .ofRef (h' l (c.fresh b))⟩
  .rename_i us e;obtain⟨g,f,d⟩:=c.sqL (.inr e);exact⟨a,g,by rw[i.ref],.inl f,λl b=>k _ _ _ _ (aV b) (c.newLst b d) .ofRef (h' l (c.fresh b))⟩
  exact h'.elim
 |[.tup us],h,r =>
 obtain⟨v,rfl,i⟩:=r.one';obtain⟨a,g,rfl,f,d⟩:=i.tup;exact⟨a,g,rfl,.inr f,λl b=>k _ _ _ _ (aV b) (c.newLst b d) .ofRef (h l (c.fresh b))⟩
def rJ:List T->eH->sy->Prop:=λts H Q=>match ts with
 |[.ref a]=>match H a with
  |some (.lst xs)=>Q (.tup xs) H
  |some (.rol xs)=>Q (.tup xs) H
  |_=>False
 |[.tup xs]=>Q (.tup xs) H
 |_=>False
theorem cN:fM X (.type "tuple") rJ:=by
 refine acj.imp pG ?_;rintro xs H Q ⟨ts,H3,j,r,f,h,k⟩
 match ts,h,r with
 |[.ref a],h,r =>
  obtain⟨v,rfl,i⟩:=r.one';have h':(match H3 a with
   |some (.lst xs)=>j (.tup xs) H3
   |some (.rol xs)=>j (.tup xs) H3
   |_=>False):=h
  split at h'
  .rename_i us e;obtain⟨g,c,d⟩:=f.sqL (.inl e);exact⟨a,g,by rw[i.ref],.inl ⟨c,λl b=>k _ _ _ _ (aV b) (f.new b) (mz.newTup (H3:=H3) b d) h'⟩⟩
  .rename_i us e;obtain⟨g,c,d⟩:=f.sqL (.inr e);exact⟨a,g,by rw[i.ref],.inl ⟨c,λl b=>k _ _ _ _ (aV b) (f.new b) (mz.newTup (H3:=H3) b d) h'⟩⟩
  exact h'.elim
 |[.tup us],h,r =>
 obtain⟨v,rfl,i⟩:=r.one';obtain⟨a,g,rfl,c,d⟩:=i.tup;exact⟨a,g,rfl,.inr ⟨c,k _ _ _ _ .refl f (.ofTup c d) h⟩⟩
def Ea:List T->eH->sy->Prop:=λts H Q=>match ts with
 |[.int i]=>Q (.int i) H
 |[.bl b]=>Q (.int (if b then 1 else 0)) H
 |_=>False
theorem Jt:fM X (.type "int") Ea:=by
 refine acj.imp Bf ?_;rintro xs H Q ⟨ts,H3,d,r,c,h,k⟩
 match ts,h,r with
 |[.int i],h,r=>obtain⟨v,rfl,a⟩:=r.one';exact .inl ⟨i,by rw[a.int],k _ _ _ _ .refl c .ofInt h⟩
 |[.bl b],h,r =>
 obtain⟨v,rfl,a⟩:=r.one';exact .inr ⟨b,by rw[a.bl],k _ _ _ _ .refl c .ofInt h⟩
def ints3:List T->Option (List Int)
 |[]=>ab []
 |.int i::r=>(ints3 r).map (i::·)
 |_=>ae
theorem dC:∀(ns:List Int),ints3 (ns.map T.int)=ab ns
 |[]=>rfl
 |n::r=>by simp [ints3,dC r]
theorem jx {K:a8}:∀{ts:List T}{xs:List V}{us:List av}{ns:List Int},ints3 ts=ab ns->fY K H ts xs->Vals xs us->ef us ns
 |[],xs,us,ns,e,r,v=>by
  cases e
  rw[r.inv0] at v
  cases v
  exact .nil
 |.int i::l,xs,us,ns,e,r,v=>by
  obtain⟨x,g,rfl,d,f⟩:=r.inv
  cases v with
  |cons a b =>
   rw[d.int] at a
   obtain⟨t,rfl⟩:=a
   cases c:ints3 l with
   |none=>simp [ints3,c] at e
   |some h =>
    simp [ints3,c] at e
    subst e
    exact .cons _ _ (jx c f b)
 |.non::_,_,_,_,e,_,_=>by simp [ints3] at e
 |.bl _::_,_,_,_,e,_,_=>by simp [ints3] at e
 |.str _::_,_,_,_,e,_,_=>by simp [ints3] at e
 |.tup _::_,_,_,_,e,_,_=>by simp [ints3] at e
 |.ref _::_,_,_,_,e,_,_=>by simp [ints3] at e
 |.ty _::_,_,_,_,e,_,_=>by simp [ints3] at e
def Nf:List T->eH->sy->Prop:=λts H Q=>match ts with
 |[.ref a]=>match H a with
  |some (.lst xs)=>oq (ints3 xs) λns=>Q (.int ns.sum) H
  |some (.rol xs)=>oq (ints3 xs) λns=>Q (.int ns.sum) H
  |_=>False
 |_=>False
theorem kJ (G:X.calm=ag):fM X (.builtin "sum") Nf:=by
 intro f s F H xs us Q I D h;obtain⟨ts,H3,x,r,n,h,k⟩:=h
 match ts,h,r with
 |[.ref a],h,r =>
 obtain⟨v,rfl,o⟩:=r.one';obtain⟨u,rfl,C⟩:=vals1 D;rw[o.ref] at C;cases C;have b:∀{d:List T} {i:List V},SqL X.K H a i->fY X.K H d i->oq (ints3 d) (λns=>x (.int ns.sum) H3)->aE (ay X.prog X.w) X.A (oI (.builtin "sum") [.ref a]) (EP X f F Q) X.xe s:=by
  intro d i g l q;cases e:ints3 d with
  |none=>rw[e] at q;exact q.elim
  |some ns =>
  rw[e] at q;obtain⟨c,p,L,_⟩:=I.list g;have y:=jx e l p;have j:AllInts c.toArray:=y.allInts;obtain⟨m,B⟩:=j.items;have t:s.heap.IsList a (intItems m):=by rw[<- B];exact L.isList
  refine sum_intListG (I.ok.hd G) t λh' tk t' J=>?_;have E:preSum (numAt m) m.size=ns.sum:=by have z:=sA m;rw[<- B,show c.toArray.toList=c from rfl,y.numsOf] at z;rw[preSum_eq,ZL adE,<- z]
  rw[E];exact⟨.int ns.sum,H,I.kept J,⟨t',rfl⟩,k _ _ _ _ .refl n .ofInt q⟩
 have h':(match H3 a with
  |some (.lst xs)=>oq (ints3 xs) λns=>x (.int ns.sum) H3
  |some (.rol xs)=>oq (ints3 xs) λns=>x (.int ns.sum) H3
  |_=>False):=h
 split at h'
 .rename_i d e;obtain⟨i,g,l⟩:=n.sqL (.inl e);exact b g l h'
 .rename_i d e;obtain⟨i,g,l⟩:=n.sqL (.inr e);exact b g l h'
 exact h'.elim
def isT (n:String):T->eH->Option Bool:=λx H=>match x with
 |.non=>ab (n=="NoneType")
 |.bl _=>ab (n=="bool"||n=="int")
 |.int _=>ab (n=="int")
 |.str _=>ab (n=="str")
 |.tup _=>ab (n=="tuple")
 |.ref a=>match H a with
  |some (.lst _)=>ab (n=="list")
  |some (.dct _)=>ab (n=="dict")
  |_=>ae
 |.ty _=>ae
def uL:List T->eH->sy->Prop:=λts H Q=>match ts with
 |[x,.ty n]=>(n="str"\/n="int"\/n="bool"\/n="tuple"\/n="list")/\oq (isT n x H) λb=>Q (.bl b) H
 |_=>False
theorem jy (K:a8) (a b:String) (d:a="NoneType"\/a="bool"\/a="int"\/a="str"\/a="tuple"\/a="list"\/a="dict") (c:b="str"\/b="int"\/b="bool"\/b="tuple"\/b="list") :
  kitOne K (.type a) (.type b)=ab (a==b||(a=="bool"&&b=="int")):=by
 rcases d with rfl | rfl | rfl | rfl | rfl | rfl | rfl <;> rcases c with rfl | rfl | rfl | rfl | rfl <;> rfl
theorem nF:fM X (.builtin "isinstance") uL:=by
 intro j s E H xs us Q I D h;obtain⟨ts,H3,u,r,l,h,k⟩:=h
 match ts,h,r with
 |[x,.ty n],h,r =>
 obtain⟨v,w,rfl,g,A⟩:=r.two';obtain⟨N,L,rfl,f,y⟩:=vals2 D;rw[A.ty] at y;cases y;obtain⟨d,h⟩:=h;have c:∀{b:Bool},u (.bl b) H3->∀tk,EP X j E Q (.bool b) { s with toks:=tk}:=λq tk=>⟨.bl _,H,I.tok tk,rfl,k _ _ _ _ .refl l .ofBl q⟩;cases x with
 |non=>exact fC I f (by rw[g.non];exact .non) (jy X.K "NoneType" n adE d) (c (by rcases d with rfl | rfl | rfl | rfl | rfl <;> exact h))
 |bl b=>exact fC I f (by rw[g.bl];exact .bl b) (jy X.K "bool" n adE d) (c (by rcases d with rfl | rfl | rfl | rfl | rfl <;> exact h))
 |int i=>exact fC I f (by rw[g.int];exact .int i) (jy X.K "int" n adE d) (c (by rcases d with rfl | rfl | rfl | rfl | rfl <;> exact h))
 |str z=>exact fC I f (by rw[g.str];exact .str z) (jy X.K "str" n adE d) (c (by rcases d with rfl | rfl | rfl | rfl | rfl <;> exact h))
 |tup us=>obtain⟨a,M,rfl,B,O⟩:=g.tup;cases f;obtain⟨G,_,⟨o,C,J,_⟩,_⟩:=I.tuple B;exact eK rs I.kIn ⟨o,C,J⟩ (jy X.K "tuple" n adE d) (λz=>nomatch z) (c (by rcases d with rfl | rfl | rfl | rfl | rfl <;> exact h))
 |ref a =>
  have h':oq (match H3 a with
   |some (.lst _)=>ab (n=="list")
   |some (.dct _)=>ab (n=="dict")
   |_=>ae) λb=>u (.bl b) H3:=h
  rw[g.ref] at f
  cases e:H3 a with
  |none=>rw[e] at h';exact h'.elim
  |some o =>
   rw[e] at h'
   cases o with
   |lst p =>
    obtain⟨F,t,_⟩:=l a _ e
    exact fC I f (.lst t) (jy X.K "list" n adE d) (c (by rcases d with rfl | rfl | rfl | rfl | rfl <;> exact h'))
   |dct p =>
    obtain⟨F,t,_⟩:=l a _ e
    exact fC I f (.dK t) (jy X.K "dict" n adE d) (c (by rcases d with rfl | rfl | rfl | rfl | rfl <;> exact h'))
   |rol p=>exact h'.elim
   |dcp p=>exact h'.elim
   |exc _ _=>exact h'.elim
   |xdt _=>exact h'.elim
   |dci _=>exact h'.elim
   |dif _ _=>exact h'.elim
   |ins _ _=>exact h'.elim
 |ty m=>exact h.elim
variable {apos cpos:ka}
def ty3 (b:String):T->eH->Prop:=λx H=>match x with
 |.str _=>b="str"
 |.tup _=>b="tuple"
 |.ref a=>b="list"/\match H a with
  |some (.lst _)=>True
  |some (.rol _)=>True
  |_=>False
 |_=>False
theorem Ng {K:a8}{t:T} (d:mz K H3 H) (r:Rep K H t v) (h:ty3 Ty t H3):tyV K Ty v H:=by
 cases t with
 |str z=>rw[r.str];exact h
 |tup ts=>obtain⟨a,xs,rfl,c,_⟩:=r.tup;exact .inr (.inl ⟨h,xs,c⟩)
 |ref a =>
  rw[r.ref];refine .inl ⟨h.1,?_⟩;have b:=h.2;cases e:H3 a with
  |none=>rw[e] at b;exact b.elim
  |some o =>
  rw[e] at b;cases o with
  |lst ts=>obtain⟨xs,c,_⟩:=d.sqL (.inl e);exact⟨xs,c⟩
  |rol ts=>obtain⟨xs,c,_⟩:=d.sqL (.inr e);exact⟨xs,c⟩
  |dct _=>exact b.elim
  |dcp _=>exact b.elim
  |exc _ _=>exact b.elim
  |xdt _=>exact b.elim
  |dci _=>exact b.elim
  |dif _ _=>exact b.elim
  |ins _ _=>exact b.elim
 |_=>exact h.elim
def Vs (c:String) (m:T->List T->eH->sy->Prop) (d:vy) (t:TA3):vy:=λb H Q=>d b H λx a=>ty3 c x a/\t b a λxs e=>m x xs e Q
theorem di (y:mN Ty) (l:vT Ty name id) (n:t9 (.builtin id)=a5 (.type "method_descriptor")) (B:wX X id m) (A:o4 X o to) (z:PA3 X (e::es) t)
  (b:cq o name X.env (br o X.env)=br o X.env:=by rfl)
  (i:((bt cpos (ax (e::es) X.env)).all (λx=>!x.1)&&(nN cpos (hP [] X.env)).all (λx=>x.1.isSome)
   && decide ((e::es).length+([]:List og).length+(if ([]:List og).isEmpty then 0 else 1)<30))=ag:=by rfl)
  (c:(apos.endLine==cpos.line)=ag:=by rfl) (F:ax (e::es) X.env=(ah,br e X.env)::ax es X.env:=by rfl) (a:(bt cpos (ax es X.env)).any (·.1)=ah:=by rfl) :
  o4 X (.Call (.Attribute o name apos) (e::es) [] cpos) (Vs Ty m to t):=by
 refine PE.imp (Vf y l n B A z b i c F a) ?_;rintro J H Q ⟨f,H3,E,u,w,h,k⟩;exact⟨f,H3,_,u,w,h,λx K C q j g s v=>⟨Ng g s v.1,f,q,_,u.mono j,g,v.2,λvs I ts r d p D G=>⟨C,ts,r,E,s.mono d,D,p,G,k.at (j.trans d)⟩⟩⟩
def Nh:T->List T->eH->sy->Prop:=λx ts H Q=>match x,ts with
 |.ref a,[t]=>match H a with
  |some (.lst xs)=>xs.length<ap/\Q .non (aY H a (.lst (xs++[t])))
  |_=>False
 |_,_=>False
theorem bC:wX X "list.append" Nh:=by
 refine MtR.imp Bm ?_;rintro x xs H Q ⟨i,ts,H3,g,c,b,f,h,k⟩
 match i,ts,h,c,b with
 |.ref a,[t],h,c,b =>
 obtain⟨v,rfl,l⟩:=b.one';have h':(match H3 a with
  |some (.lst xs)=>xs.length<ap/\g .non (aY H3 a (.lst (xs++[t])))
  |_=>False):=h
 split at h'
 .rename_i m e;obtain⟨j,d,r⟩:=f a _ e;exact⟨a,j,v,c.ref,rfl,d,by rw[<- r.length];exact h'.1,k _ _ _ _ (bN (by rw[d];exact trivial)) (f.wrL d (r.append (.cons l .nil))) .ofNon h'.2⟩
 exact h'.elim
def zf:T->List T->eH->sy->Prop:=λx ts H Q=>match x,ts with
 |.ref a,[.int i]=>match H a with
  |some (.lst xs)=>oq (ixN xs.length i) λj=>oq (xs[j]?) λt=>Q t (aY H a (.lst (xs.eraseIdx j)))
  |_=>False
 |_,_=>False
theorem Eb:wX X "list.pop" zf:=by
 intro b s D H x xs v us Q I f n A;obtain⟨E,ts,H3,z,d,m,p,h,k⟩:=A;refine Dj b s D H x xs v us Q I f n ?_
 match E,ts,h,d,m with
 |.ref a,[.int i],h,d,m =>
 obtain⟨w,rfl,B⟩:=m.one';have h':(match H3 a with
  |some (.lst xs)=>oq (ixN xs.length i) λj=>oq (xs[j]?) λt=>z t (aY H3 a (.lst (xs.eraseIdx j)))
  |_=>False):=h
 split at h'
 .rename_i l e;obtain⟨q,c,r⟩:=p a _ e;have hz:=(I.lstM c).1;cases o:ixN l.length i with
  |none=>rw[o] at h';exact h'.elim
  |some j =>
  rw[o] at h';cases g:l[j]? with
  |none=>simp only[oq,g] at h'
  |some t =>
   have L:z t (aY H3 a (.lst (l.eraseIdx j))):=by simpa only[oq,g] using h'
   obtain⟨C,O,M,P⟩:=qX o
   obtain⟨y,G,F⟩:=r.get g
   have J:=r.length
   have N:=jr
   have u:jj X.K H (upd H a (.lst (q.eraseIdx j))):=bN (by rw[c];exact trivial)
   exact⟨a,q,i,j,y,d.ref,by rw[B.int],c,adC,adC,by rw[<- J];exact C,G,k _ _ _ _ u (p.wrL c (r.eraseIdx j)) (F.mono u) L⟩
 exact h'.elim
def zg:T->List T->eH->sy->Prop:=λx ts H Q=>match x,ts with
 |.str z,[.str y]=>match bo z y 0 z.length 1 with
  |i::_=>Q (.int i) H
  |[]=>False
 |_,_=>False
theorem Ec:wX X "str.index" zg:=by
 intro f s p H x xs v us Q I a c j;obtain⟨n,ts,H3,m,d,b,l,h,k⟩:=j
 match n,ts,h,d,b with
 |.str z,[.str y],h,d,b =>
 obtain⟨w,rfl,o⟩:=b.one';obtain⟨u,rfl,g⟩:=vals1 c;rw[o.str] at g;obtain⟨t',rfl⟩:=g;rw[d.str] at a;obtain⟨t,rfl⟩:=a;have h':(match bo z y 0 z.length 1 with
  |i::_=>m (.int i) H3
  |[]=>False):=h
 split at h'
 .rename_i i rest e;exact SC.index e ⟨.int i,H,I.tok _,⟨_,rfl⟩,k _ _ _ _ .refl l .ofInt h'⟩
 exact h'.elim
end
def compLook (n0:List (ai × d4)) (N:List ai) (b:Bool) (a:List (ai × d4)) (N':List ai) (nt:Nat) (cap:List Nat):Bool :=
 b&&a.all (λy=>y.2 != .cell||a.lookup y.1==ab .cell)&&a.all (λx=>x.2 != .local||a.lookup x.1==ab .local)&&a.all (λy=>y.2 != .free||n0.lookup y.1==ab .cell||n0.lookup y.1==ab .free)
  && N'.length==nt+cap.length&&(af cap.length).all λj=>match N'[nt+j]?,cap[j]? with
   |some x,ab i=>N[i]?==ab x&&a.lookup x==ab .free
   |_,_=>ah
theorem bG (f:X.env.scope.names=n0) (l:X.N=N) (h:compLook n0 N (scope.kind==.function) scope.names N' nt cap=ag):acK X N' nt cap scope:=by
 unfold compLook at h;simp only[Zx,Zy,aa0,bne_iff_ne,qE,F_] at h;obtain⟨⟨⟨⟨⟨d,n⟩,m⟩,c⟩,o⟩,p⟩:=h;refine⟨d,λy a e=>(n y a).resolve_left λz=>z e,λx k e=>(m x k).resolve_left λz=>z e,λy a e=>?_,o,λj x e=>?_⟩
 .show X.env.scope.names.lookup y.1=_\/X.env.scope.names.lookup y.1=_;rw[f];rcases c y a with (z | z) | z
  .exact ach e z
  .exact .inl z
  exact .inr z
 have g:j<cap.length:=by have:=(Z2.mp e).1;omega
 have q:=p j g;rw[e] at q;cases b:cap[j]? with
 |none=>rw[b] at q;cases q
 |some i =>
 rw[b] at q;simp only[Zx,aa0] at q;exact⟨i,rfl,by rw[l];exact q.1,q.2⟩
def QJ (n00 a:List (ai × d4)):List (ai × d4):=a.map λ(n,k)=>if (k==cr&&n00.lookup n==ab .cell)=ag then (n,dA) else (n,k)
theorem zj (f:X.env.scope.names=n00) (j:X.env.scope.kind=.function) (g:c=N) (h:compLook (QJ n00 a.names) N (scope.kind==.function) scope.names N' nt cap=ag):acK (bY X c a d b s H C i) N' nt cap scope:=by
 refine bG (n0:=QJ n00 a.names) (N:=N) ?_ g h;show (nE a X.env).names=_;unfold nE QJ;dsimp only;refine ZF λy l=>?_;obtain⟨n,k⟩:=y;have e:X.env.kindOf n=n00.lookup n:=by unfold Env.kindOf;rw[f]
 simp only[e,j,beq_self_eq_true,abN]
structure G3 (K:a8) (mg:ai->Option av) (x:ai) (st:eD) (ps:List ai) (f:am) (fd:dk):Prop where
 fn:Fun K x x st f fd
 b:Binds K fd ps []
 m:mg x=ab (.ref f)
structure Bl (mg:ai->Option av):Prop where
 len_:mg "len"=ae
 sum_:mg "sum"=ae
 isinstance_:mg "isinstance"=ae
 all_:mg "all"=ae
 any_:mg "any"=ae
 list_:mg "list"=ae
 tuple_:mg "tuple"=ae
 int_:mg "int"=ae
 str_:mg "str"=ae
 bool_:mg "bool"=ae
 range_:mg "range"=ae
 zip_:mg "zip"=ae
 reversed_:mg "reversed"=ae
 enumerate_:mg "enumerate"=ae
 set_:mg "set"=ae
 sorted_:mg "sorted"=ae
 min_:mg "min"=ae
 max_:mg "max"=ae
 dict_:mg "dict"=ae
 repr_:mg "repr"=ae
theorem bI:bb "len"=ab (.builtin "len"):=by decide +kernel
theorem kO:bb "sum"=ab (.builtin "sum"):=by decide +kernel
theorem dm:bb "isinstance"=ab (.builtin "isinstance"):=by decide +kernel
theorem QK:bb "any"=ab (.builtin "any"):=by decide +kernel
theorem iZ:bb "list"=ab (.type "list"):=by decide +kernel
theorem cz:bb "tuple"=ab (.type "tuple"):=by decide +kernel
theorem Ed:bb "int"=ab (.type "int"):=by decide +kernel
theorem Ju:bb "bool"=ab (.type "bool"):=by decide +kernel
theorem mX.u30 (r:mX k A):A.units+30<cK:=by have:=r.un;omega
theorem mX.u31 (r:mX k A):A.units+31<cK:=by have:=r.un;omega
theorem mX.u1 (r:mX k A):A.units+1<cK:=by have:=r.un;omega
def vq (o:Option (Option T)) (Q:T->Prop):Prop:=match o with
 |some (ab t)=>Q t
 |_=>False
theorem YW (t:T) (Q:T->Prop):vq (ab (ab t)) Q=Q t:=rfl
theorem Ef (i:Nat):ur i σ H Q=vq (σ[i]?) λt=>Q t H:=rfl
def bq (x:T) (Q:Bool->Prop):Prop:=match x with
 |.bl k=>Q k
 |_=>False
theorem jz (b:Bool) (Q:Bool->Prop):bq (.bl b) Q=Q b:=rfl
theorem QL (t:vy) (Q:Bool->eH->Prop):kE t σ H Q=t σ H λx H'=>bq x λk=>Q k H':=rfl
theorem QM (a d:vy):Dr a d σ H Q=a σ H λx b=>bq x λc=>if c=ag then d σ b Q else Q (.bl ah) b:=rfl
theorem Vt (a d:vy):MJ a d σ H Q=a σ H λx b=>bq x λc=>if c=ag then Q (.bl ag) b else d σ b Q:=rfl
theorem iD (v:a) (Q:a->Prop):oq (ab v) Q=Q v:=rfl
theorem q_I (C:Int->Int->Prop) (g:Int->Int->T) (i j:Int):rI3 C g (.int i) (.int j) H Q=(C i j/\Q (g i j) H):=rfl
theorem YX (g:Int->Int->T) (i j:Int):rG g (.int i) (.int j) H Q=Q (g i j) H:=rfl
theorem Eg (i j:Int):qw (.int i) (.int j) H Q=Q (.int (i+j)) H:=rfl
theorem QQ (i j:ai):qw (.str i) (.str j) H Q=(i.length+j.length<=ap/\Q (.str (i++j)) H):=rfl
theorem QR (xs a:List T):qw (.tup xs) (.tup a) H Q=(xs.length+a.length<=ap/\Q (.tup (xs++a)) H):=rfl
def Vu (o u:Option O3) (H:eH) (Q:sy):Prop:=match o,u with
 |some (.lst xs),ab (.lst ys)=>xs.length+ys.length<=ap/\∀p,H p=ae->Q (.ref p) (aY H p (.lst (xs++ys)))
 |_,_=>False
theorem Eh (a b:am):qw (.ref a) (.ref b) H Q=Vu (H a) (H b) H Q:=rfl
theorem jA (xs a:List T):Vu (ab (.lst xs)) (ab (.lst a)) H Q=(xs.length+a.length<=ap/\∀p,H p=ae->Q (.ref p) (aY H p (.lst (xs++a)))):=rfl
theorem Vv (n:Bool) (i j:Int):uE n (.int i) (.int j) H Q=Q (.bl (if n then !decide (i=j) else decide (i=j))) H:=rfl
theorem Vw (n:Bool) (i j:ai):uE n (.str i) (.str j) H Q=Q (.bl (if n then !decide (i=j) else decide (i=j))) H:=rfl
theorem Vx (n:Bool) (i j:Bool):uE n (.bl i) (.bl j) H Q=Q (.bl (if n then !decide (i=j) else decide (i=j))) H:=rfl
theorem Ni (n:Bool) (xs a:List T):uE n (.tup xs) (.tup a) H Q=(xs.all (pl 20)=ag/\a.all (pl 20)=ag/\Q (.bl (if n then !decide (xs=a) else decide (xs=a))) H):=rfl
def eqH (n:Bool) (a b:am) (o u:Option O3) (H:eH) (Q:sy):Prop:=match o,u with
 |some (.lst xs),ab (.lst ys)=>a≠b/\xs.all (pl 20)=ag/\ys.all (pl 20)=ag/\Q (.bl (if n then !@decide (xs=ys) (instDecidableEqList xs ys) else @decide (xs=ys) (instDecidableEqList xs ys))) H
 |_,_=>False
theorem Vy (n:Bool) (a b:am):uE n (.ref a) (.ref b) H Q=eqH n a b (H a) (H b) H Q:=rfl
theorem Vz (n:Bool) (a b:am) (xs c:List T):eqH n a b (ab (.lst xs)) (ab (.lst c)) H Q=(a≠b/\xs.all (pl 20)=ag/\c.all (pl 20)=ag/\Q (.bl (if n then !decide (xs=c) else decide (xs=c))) H):=rfl
theorem Nj (n:Bool) (x:T) (ts:List T):uF n x (.tup ts) H Q=(pl 20 x=ag/\ts.all (pl 20)=ag/\Q (.bl (dM n x ts)) H):=rfl
theorem VB (n:Bool) (i j:ai):uF n (.str i) (.str j) H Q=Q (.bl (occ n i j)) H:=rfl
def inH (n:Bool) (x:T) (o:Option O3) (H:eH) (Q:sy):Prop:=match o with
 |some (.lst ts)=>pl 20 x=ag/\ts.all (pl 20)=ag/\Q (.bl (dM n x ts)) H
 |some (.rol ts)=>pl 20 x=ag/\ts.all (pl 20)=ag/\Q (.bl (dM n x ts)) H
 |_=>False
theorem Nk (n:Bool) (x:T) (a:am):uF n x (.ref a) H Q=inH n x (H a) H Q:=rfl
theorem Nm (n:Bool) (x:T) (ts:List T):inH n x (ab (.lst ts)) H Q=(pl 20 x=ag/\ts.all (pl 20)=ag/\Q (.bl (dM n x ts)) H):=rfl
def ixH (o:Option O3) (i:Int) (H:eH) (Q:sy):Prop:=match o with
 |some (.lst ts)=>oq (atI ts i) λt=>Q t H
 |some (.rol ts)=>oq (atI ts i) λt=>Q t H
 |_=>False
theorem VD (a:am) (i:Int):uH (.ref a) (.int i) H Q=ixH (H a) i H Q:=rfl
theorem VF (ts:List T) (i:Int):ixH (ab (.lst ts)) i H Q=oq (atI ts i) λt=>Q t H:=rfl
theorem VG (ts:List T) (i:Int):uH (.tup ts) (.int i) H Q=oq (atI ts i) λt=>Q t H:=rfl
theorem VH (z:ai) (i:Int):uH (.str z) (.int i) H Q=(z.length<=ap/\oq (atI z.cps.toList i) λc=>Q (.str ⟨#[c]⟩) H):=rfl
def stH (o:Option O3) (a:am) (k:Int) (v:T) (H:eH) (Q:eH->Prop):Prop:=match o with
 |some (.lst ts)=>oq (ixN ts.length k) λj=>Q (aY H a (.lst (ts.set j v)))
 |_=>False
theorem QS (a:am) (k:Int) (v:T) (Q:eH->Prop):DW (.ref a) (.int k) v H Q=stH (H a) a k v H Q:=rfl
theorem VJ (ts:List T) (a:am) (k:Int) (v:T) (Q:eH->Prop):stH (ab (.lst ts)) a k v H Q=oq (ixN ts.length k) λj=>Q (aY H a (.lst (ts.set j v))):=rfl
def pq (x:T) (Q:Option Int->Prop):Prop:=match x with
 |.int i=>Q (ab i)
 |_=>False
theorem YZ (i:Int) (Q:Option Int->Prop):pq (.int i) Q=Q (ab i):=rfl
theorem QT (t:vy) (Q:Option Int->eH->Prop):DX t σ H Q=t σ H λx a=>pq x λo=>Q o a:=rfl
def slH (o:Option O3) (b a:Option Int) (H:eH) (Q:sy):Prop:=match o with
 |some (.lst ts)=>∀p,H p=ae->Q (.ref p) (aY H p (.lst (fU ts b a)))
 |some (.rol ts)=>∀p,H p=ae->Q (.ref p) (aY H p (.lst (fU ts b a)))
 |_=>False
theorem VL (a:am) (c b:Option Int):Jr (.ref a) c b H Q=slH (H a) c b H Q:=rfl
theorem Np (ts:List T) (b a:Option Int):slH (ab (.lst ts)) b a H Q=∀p,H p=ae->Q (.ref p) (aY H p (.lst (fU ts b a))):=rfl
theorem QV (ts:List T) (b a:Option Int):slH (ab (.rol ts)) b a H Q=∀p,H p=ae->Q (.ref p) (aY H p (.lst (fU ts b a))):=rfl
theorem VM (ts:List T) (b a:Option Int):Jr (.tup ts) b a H Q=(¬(HT.sIx ts.length 0 b=0/\HT.sIx ts.length ts.length a=ts.length)/\Q (.tup (fU ts b a)) H):=rfl
theorem VN (z:ai) (b a:Option Int):Jr (.str z) b a H Q=(z.length<=ap/\Q (.str (iS z b a)) H):=rfl
def dgH (o:Option O3) (k:ai) (H:eH) (Q:sy):Prop:=match o with
 |some (.dct kvs)=>oq (aR k kvs) λt=>Q t H
 |_=>False
theorem q_D (a:am) (k:ai):r3D (.ref a) (.str k) H Q=dgH (H a) k H Q:=rfl
theorem VP (kvs:List (ai × T)) (k:ai):dgH (ab (.dct kvs)) k H Q=oq (aR k kvs) λt=>Q t H:=rfl
def dpH (x y v:T) (H:eH) (Q:eH->Prop):Prop:=match x,y with
 |.ref a,.str k=>match H a with
  |some (.dct kvs)=>kvs.length<ap/\Q (aY H a (.dct (put3 k v kvs)))
  |_=>False
 |_,_=>False
def dpO (o:Option O3) (a:am) (k:ai) (v:T) (H:eH) (Q:eH->Prop):Prop:=match o with
 |some (.dct kvs)=>kvs.length<ap/\Q (aY H a (.dct (put3 k v kvs)))
 |_=>False
theorem QW (a b c:vy) (D:aeF):DY a b c D σ H=c σ H λv f=>a σ f λx e=>b σ e λy H3=>dpH x y v H3 λd=>D.nx σ d:=rfl
theorem VR (a:am) (k:ai) (v:T) (Q:eH->Prop):dpH (.ref a) (.str k) v H Q=dpO (H a) a k v H Q:=rfl
theorem V0 (kvs:List (ai × T)) (a:am) (k:ai) (v:T) (Q:eH->Prop):dpO (ab (.dct kvs)) a k v H Q=(kvs.length<ap/\Q (aY H a (.dct (put3 k v kvs)))):=rfl
def lnH (o:Option O3) (H:eH) (Q:sy):Prop:=match o with
 |some (.lst xs)=>Q (.int xs.length) H
 |some (.rol xs)=>Q (.int xs.length) H
 |_=>False
theorem QX (a:am):zc [.ref a] H Q=lnH (H a) H Q:=rfl
theorem V1 (xs:List T):lnH (ab (.lst xs)) H Q=Q (.int xs.length) H:=rfl
theorem QZ (xs:List T):zc [.tup xs] H Q=Q (.int xs.length) H:=rfl
theorem Q0 (z:ai):zc [.str z] H Q=(z.length<=ap/\Q (.int z.length) H):=rfl
def liH (o:Option O3) (H:eH) (Q:sy):Prop:=match o with
 |some (.lst xs)=>∀p,H p=ae->Q (.ref p) (aY H p (.lst xs))
 |some (.rol xs)=>∀p,H p=ae->Q (.ref p) (aY H p (.lst xs))
 |_=>False
theorem Jv (a:am):wY [.ref a] H Q=liH (H a) H Q:=rfl
theorem V2 (xs:List T):liH (ab (.lst xs)) H Q=∀p,H p=ae->Q (.ref p) (aY H p (.lst xs)):=rfl
theorem Jw (xs:List T):wY [.tup xs] H Q=∀p,H p=ae->Q (.ref p) (aY H p (.lst xs)):=rfl
def tpH (o:Option O3) (H:eH) (Q:sy):Prop:=match o with
 |some (.lst xs)=>Q (.tup xs) H
 |some (.rol xs)=>Q (.tup xs) H
 |_=>False
theorem Q4 (a:am):rJ [.ref a] H Q=tpH (H a) H Q:=rfl
theorem V3 (xs:List T):tpH (ab (.lst xs)) H Q=Q (.tup xs) H:=rfl
theorem Q5 (xs:List T):rJ [.tup xs] H Q=Q (.tup xs) H:=rfl
theorem Q6 (i:Int):Ea [.int i] H Q=Q (.int i) H:=rfl
theorem Q7 (b:Bool):Ea [.bl b] H Q=Q (.int (if b then 1 else 0)) H:=rfl
def smH (o:Option O3) (H:eH) (Q:sy):Prop:=match o with
 |some (.lst xs)=>oq (ints3 xs) λns=>Q (.int ns.sum) H
 |some (.rol xs)=>oq (ints3 xs) λns=>Q (.int ns.sum) H
 |_=>False
theorem Q8 (a:am):Nf [.ref a] H Q=smH (H a) H Q:=rfl
theorem V4 (xs:List T):smH (ab (.lst xs)) H Q=oq (ints3 xs) λns=>Q (.int ns.sum) H:=rfl
theorem Ei (x:T) (n:String):uL [x,.ty n] H Q=((n="str"\/n="int"\/n="bool"\/n="tuple"\/n="list")/\oq (isT n x H) λb=>Q (.bl b) H):=rfl
theorem V5 (a:String) (z:ai):ty3 a (.str z) H=(a="str"):=rfl
def tyH (o:Option O3):Prop:=match o with
 |some (.lst _)=>True
 |some (.rol _)=>True
 |_=>False
theorem V6 (b:String) (a:am):ty3 b (.ref a) H=(b="list"/\tyH (H a)):=rfl
theorem V7 (xs:List T):tyH (ab (.lst xs))=True:=rfl
def apH (o:Option O3) (a:am) (t:T) (H:eH) (Q:sy):Prop:=match o with
 |some (.lst xs)=>xs.length<ap/\Q .non (aY H a (.lst (xs++[t])))
 |_=>False
theorem V8 (a:am) (t:T):Nh (.ref a) [t] H Q=apH (H a) a t H Q:=rfl
theorem Nq (xs:List T) (a:am) (t:T):apH (ab (.lst xs)) a t H Q=(xs.length<ap/\Q .non (aY H a (.lst (xs++[t])))):=rfl
def poH (o:Option O3) (a:am) (i:Int) (H:eH) (Q:sy):Prop:=match o with
 |some (.lst xs)=>oq (ixN xs.length i) λj=>oq (xs[j]?) λt=>Q t (aY H a (.lst (xs.eraseIdx j)))
 |_=>False
theorem V9 (a:am) (i:Int):zf (.ref a) [.int i] H Q=poH (H a) a i H Q:=rfl
theorem Wa (xs:List T) (a:am) (i:Int):poH (ab (.lst xs)) a i H Q=oq (ixN xs.length i) λj=>oq (xs[j]?) λt=>Q t (aY H a (.lst (xs.eraseIdx j))):=rfl
def idH (o:List Nat) (H:eH) (Q:sy):Prop:=match o with
 |i::_=>Q (.int i) H
 |[]=>False
theorem Jx (z y:ai):zg (.str z) [.str y] H Q=idH (bo z y 0 z.length 1) H Q:=rfl
theorem Wb (i:Nat) (r:List Nat):idH (i::r) H Q=Q (.int i) H:=rfl
def rgq (vs:List T) (H:eH) (R:List T->(eH->Prop)->eH->Prop):Prop:=match vs with
 |[.int j]=>-(2^62)<=j/\j<2^62/\R (cX 0 j.toNat) cW H
 |[.int i,.int j]=>(-(2^62)<=i/\i<2^62 /\ -(2^62)<=j/\j<2^62)/\R (cX i (j - i).toNat) cW H
 |_=>False
theorem Wc (a:TA3) (R:List T->(eH->Prop)->eH->Prop):Dz a σ H R=a σ H λvs b=>rgq vs b R:=rfl
theorem Wd (j:Int) (R:List T->(eH->Prop)->eH->Prop):rgq [.int j] H R=(-(2^62)<=j/\j<2^62/\R (cX 0 j.toNat) cW H):=rfl
theorem We (i j:Int) (R:List T->(eH->Prop)->eH->Prop):rgq [.int i,.int j] H R=((-(2^62)<=i/\i<2^62 /\ -(2^62)<=j/\j<2^62)/\R (cX i (j - i).toNat) cW H):=rfl
def tuq (x:T) (H:eH) (R:List T->(eH->Prop)->eH->Prop):Prop:=match x with
 |.tup ts=>R ts cW H
 |_=>False
theorem Q9 (a:vy) (R:List T->(eH->Prop)->eH->Prop):M5 a σ H R=a σ H λx b=>tuq x b R:=rfl
theorem Wf (ts:List T) (R:List T->(eH->Prop)->eH->Prop):tuq (.tup ts) H R=R ts cW H:=rfl
def liq (x:T) (H:eH) (R:List T->(eH->Prop)->eH->Prop):Prop:=match x with
 |.ref a=>match H a with
  |some (.lst ts)=>R ts (cJ a ts) H
  |some (.rol ts)=>R ts (cJ a ts) H
  |_=>False
 |_=>False
def liO (o:Option O3) (a:am) (H:eH) (R:List T->(eH->Prop)->eH->Prop):Prop:=match o with
 |some (.lst ts)=>R ts (cJ a ts) H
 |some (.rol ts)=>R ts (cJ a ts) H
 |_=>False
theorem Jy (a:vy) (R:List T->(eH->Prop)->eH->Prop):Dw a σ H R=a σ H λx b=>liq x b R:=rfl
theorem zm (a:am) (R:List T->(eH->Prop)->eH->Prop):liq (.ref a) H R=liO (H a) a H R:=rfl
theorem qx (ts:List T) (a:am) (R:List T->(eH->Prop)->eH->Prop):liO (ab (.lst ts)) a H R=R ts (cJ a ts) H:=rfl
theorem Ra (Q:St3->eH->Prop):yU [] σ H Q=Q σ H:=rfl
theorem Jz (t:TG3) (u:pI) (x:T) (r:List T) (Q:St3->eH->Prop):jw t u (x::r) σ H Q=t x σ H λa H'=>u r a H' Q:=rfl
theorem Rb (n:Nat) (g:pI) (ts:List T) (Q:St3->eH->Prop):yV n g (.tup ts) σ H Q=(ts.length=n/\g ts σ H Q):=rfl
theorem zp (h:j<n):ixN n (j:Int)=ab j:=by
 unfold ixN;rw[aca (aaF j),aca adC,aaw]
theorem at0 (a:b) (r:List b):atI (a::r) 0=ab a:=bM (j:=0) rfl
theorem at1 (a b:c) (r:List c):atI (a::b::r) 1=ab b:=bM (j:=1) rfl
theorem at2 (a b c:d) (r:List d):atI (a::b::c::r) 2=ab c:=bM (j:=2) rfl
theorem at3 (a b c d:e) (r:List e):atI (a::b::c::d::r) 3=ab d:=bM (j:=3) rfl
theorem uM (xs:List c) (i:Int) (b:0<=i) (d:i<xs.length):∃z,z∈xs/\atI xs i=ab z:=by
 obtain⟨j,rfl⟩:=i8 b;have a:j<xs.length:=adC
 exact⟨xs[j],Zt a,bM (g_ a)⟩
theorem nG (f:a->b) (xs:List a) (i:Int):atI (xs.map f) i=(atI xs i).map f:=by
 unfold atI;rw[b_];cases ixN xs.length i with
 |none=>rfl
 |some j=>simp
theorem mD (I:List T->St3->eH->Prop) (d:I ts a H) (f:∀a H,I [] a H->still H/\D.nx a H) (i:∀t r a H (N:St3->eH->Prop),I (t::r) a H->(∀b H',I r b H'->N b H')->still H/\g t a H λσ2 H2=>c { D with nx:=N,ct:=N,bk:=D.nx} σ2 H2):acu g c D still ts a H:=by
 induction ts generalizing a H with
 |nil=>exact f a H d
 |cons t r e=>exact i t r a H (acu g c D still r) d λb H' h=>e h
theorem iG (I:List T->List T->St3->eH->Prop) (i:I ts a c H) (k:∀a c H,I [] a c H->still H/\a.length<=ap/\f a H) (l:∀t r a c H (N:List T->St3->eH->Prop),I (t::r) a c H->(∀d e H',I r d e H'->N d e H') ->
   still H/\g t c H λσ2 H2=>tt σ2 H2 λb H3=>if b=ag then te σ2 H3 λy H4=>a.length<ap/\N (a++[y]) σ2 H4 else N a σ2 H3):ab8 g tt te still f ts a c H:=by
 induction ts generalizing c H a with
 |nil=>exact k a c H i
 |cons t r j=>exact l t r a c H (ab8 g tt te still f r) i λd e H' h=>j h
theorem sx0 (n:Nat):HT.sIx n 0 ae=0:=rfl
theorem Ej {k:Nat}:fU ts ae (ab (k:Int))=ts.take k:=by
 unfold fU;rw[sx0,HT.ad1,abW,Nat.sub_zero];by_cases h:k<=ts.length
 .rw[fI h]
 rw[oQ adC,oS,ZL adC]
theorem Ek {k:Nat}:fU ts (ab (k:Int)) ae=ts.drop k:=by
 unfold fU;rw[HT.aeB,HT.ad1];by_cases h:k<=ts.length
 .rw[fI h,ZL adE]
 rw[oQ adC,Z6 (m_ _),Z6 adC,sM]
theorem cA (h:aY H a o b=ae):b≠a/\H b=ae:=by
 by_cases e:b=a
 .subst e;rw[aA] at h;cases h
 rw[aD e] at h;exact⟨e,h⟩
theorem El (h:a≠b):aY (aY H a o) b u=aY (aY H b u) a o:=by
 funext c;by_cases d:c=b
 .subst d;rw[aA,aD (a6 h),aA]
 rw[aD d];by_cases e:c=a
 .subst e;rw[aA,aA]
 rw[aD e,aD e,aD d]
theorem bZ {m:Type} (c f:m->T) (g:List m) (rest:St3) (h:still H) (s:g.length<=ap) (p:∀a∈g,∀Q:sy,Q (f a) H->te (ab (c a)::rest) H Q) (k:l (g.map f) H):ab8 (eU 0) yW te still l (g.map c) [] (v::rest) H:=by
 refine iG (λr n o H'=>∃(e j:List m) (v:Option T),o=v::rest/\r=e.map c/\n=j.map f/\j++e=g/\H'=H) ⟨g,[],v,rfl,rfl,rfl,rfl,rfl⟩ ?_ ?_
 .rintro n o H' ⟨e,j,v,rfl,d,rfl,b,rfl⟩;have i:e=[]:=aaK.mp d.symm;subst i;rw[P_] at b;subst b;exact⟨h,by rw[b_];exact s,k⟩
 rintro x r n o H' N ⟨e,j,v,rfl,d,rfl,b,rfl⟩ q;cases e with
 |nil=>cases d
 |cons t e =>
 injection d with e1 e2;subst e1 e2;refine⟨h,?_⟩;show te (ab (c t)::rest) H' _;refine p t (by rw[<- b];simp) _ ⟨?_,q _ _ _ ⟨e,j++[t],_,rfl,rfl,adE,by rw[<- b];simp,rfl⟩⟩;have:=T_ aT b;simp only[a_,i_] at this;rw[b_];omega
def cU:List T->Option (List Bool)
 |[]=>ab []
 |.bl x::r=>(cU r).map (x::·)
 |_=>ae
theorem nH:∀(ns:List Bool),cU (ns.map T.bl)=ab ns
 |[]=>rfl
 |n::r=>by simp [cU,nH r]
theorem lH {K:a8}:∀{ts:List T}{xs:List V}{us:List av}{c:List Bool},cU ts=ab c->fY K H ts xs->Vals xs us->us=c.map eP
 |[],xs,us,c,e,r,v=>by
  cases e
  rw[r.inv0] at v
  cases v
  rfl
 |.bl i::l,xs,us,c,e,r,v=>by
  obtain⟨x,h,rfl,f,g⟩:=r.inv
  cases v with
  |cons a b =>
   rw[f.bl] at a
   cases d:cU l with
   |none=>simp [cU,d] at e
   |some j =>
    simp [cU,d] at e
    subst e
    cases a
    rw[lH d g b]
    rfl
 |.non::_,_,_,_,e,_,_=>by simp [cU] at e
 |.int _::_,_,_,_,e,_,_=>by simp [cU] at e
 |.str _::_,_,_,_,e,_,_=>by simp [cU] at e
 |.tup _::_,_,_,_,e,_,_=>by simp [cU] at e
 |.ref _::_,_,_,_,e,_,_=>by simp [cU] at e
 |.ty _::_,_,_,_,e,_,_=>by simp [cU] at e
def Y0:T->Option Key
 |.int i=>ab (.inl i)
 |.str x=>ab (.inr x)
 |_=>ae
def Em:List T->Option (List Key)
 |[]=>ab []
 |t::r=>match Y0 t,Em r with
  |some k,ab ks=>ab (k::ks)
  |_,_=>ae
def Nr (k:List Key):List (List Key × T)->Option T
 |[]=>ae
 | (k',v)::r=>if k'=k then ab v else Nr k r
def Y4 (k:List Key) (v:T) (kvs:List (List Key × T)):List (List Key × T) :=
 if (kvs.any λa=>decide (a.1=k))=ag then kvs.map (λa=>if a.1=k then (a.1,v) else a) else kvs++[(k,v)]
def Y5 (o:Option O3) (ts:List T) (H:eH) (Q:sy):Prop:=match o with
 |some (.dcp kvs)=>oq (Em ts) λa=>oq (Nr a kvs) λt=>Q t H
 |_=>False
def dgP (x:T) (ts:List T) (H:eH) (Q:sy):Prop:=match x with
 |.ref a=>Y5 (H a) ts H Q
 |_=>False
def JB (b:vy) (c:TA3):vy:=λa H Q=>b a H λx e=>c a e λts d=>ts.length<=ap/\dgP x ts d Q
def Y6 (o:Option O3) (a:am) (ts:List T) (v:T) (H:eH) (Q:eH->Prop):Prop:=match o with
 |some (.dcp kvs)=>oq (Em ts) λb=>kvs.length<ap/\Q (aY H a (.dcp (Y4 b v kvs)))
 |_=>False
def dpP (x:T) (ts:List T) (v:T) (H:eH) (Q:eH->Prop):Prop:=match x with
 |.ref a=>Y6 (H a) a ts v H Q
 |_=>False
def JC (b:vy) (c:TA3) (d:vy):TS3:=λD a H=>d a H λv g=>b a g λx f=>c a f λts H3=>ts.length<=ap/\dpP x ts v H3 λe=>D.nx a e
section
variable {H:eH}{Q:sy}
variable {X:Cx}{o i k value:Expr}
def En:vy:=λ_ H Q=>∀p,H p=ae->Q (.ref p) (aY H p (.dct []))
def JD:vy:=λ_ H Q=>∀p,H p=ae->Q (.ref p) (aY H p (.dcp []))
theorem mz.newD {K:a8}{H:Hp} (s:mz K H3 H) (c:H p=ae):mz K (aY H3 p (.dct [])) (upd H p (.dK [])):=λa o e=>by
 by_cases b:a=p
 .subst b;rw[aA] at e;cases e;exact⟨[],cu,.nil⟩
 rw[aD b] at e;exact s.new c a o e
theorem mF:o4 X (.Dict [] [] pos) En:=by
 refine PE.imp um ?_;rintro f H Q ⟨c,H3,d,e,b,h,k⟩ p a;exact k _ _ _ _ (aV a) (b.newD a) .ofRef (h p (b.fresh a))
def d1q (y:T) (p:am) (v:T) (H:eH) (Q:sy):Prop:=match y with
 |.str k=>H p=ab (.dct [])/\Q (.ref p) (aY H p (.dct [(k,v)]))
 |_=>False
def Eo (tk b:vy):vy:=λa H Q=>∀p,H p=ae->tk a (aY H p (.dct [])) λy c=>b a c λv d=>d1q y p v d Q
theorem Wg (x:ai) (p:am) (v:T):d1q (.str x) p v H Q=(H p=ab (.dct [])/\Q (.ref p) (aY H p (.dct [(x,v)]))):=rfl
theorem Ep (B:o4 X k tk) (x:o4 X v tv):o4 X (.Dict [ab k] [v] pos) (Eo tk tv):=by
 refine PE.imp (yN (uo B x yM) rfl rfl adE (by show 1<=15;decide)) ?_;rintro F H Q ⟨d,H3,D,q,o,h,k⟩ p j;have b:jj X.K H (upd H p (.dK [])):=aV j;refine⟨d,aY H3 p (.dct []),_,q.mono b,o.newD j,h p (o.fresh j),λy G w m g l A C=>?_⟩;refine⟨d,m,_,q.mono (b.trans g),l,C,λz E u i c f t s=>?_⟩;cases w with
 |str a =>
  have h':i p=ab (.dct [])/\D (.ref p) (aY i p (.dct [(a,u)])):=s
  obtain⟨ws,n,r⟩:=f p _ h'.1
  cases r
  refine⟨n,[(cf a,z)],by rw[(A.mono c).str];rfl,by show 1<=15;decide,?_⟩
  have e:jt [] [((cf a:Key),z)]=[((cf a:Key),z)]:=rfl
  rw[e]
  exact k _ _ _ _ (b.trans (g.trans (c.trans (bN (by rw[n];exact trivial))))) (f.wrD n (.cons ⟨rfl,t⟩ .nil)) .ofRef h'.2
 |_=>exact s.elim
def diH (a:Bool) (y:T) (o:Option O3) (H:eH) (Q:sy):Prop:=match y,o with
 |.str k,ab (.dct kvs)=>Q (.bl (if a then !(aR k kvs).isSome else (aR k kvs).isSome)) H
 |_,_=>False
def diq (b:Bool) (y x:T) (H:eH) (Q:sy):Prop:=match x with
 |.ref a=>diH b y (H a) H Q
 |_=>False
def Er (a:Bool) (d c:vy):vy:=λb H Q=>d b H λy f=>c b f λx e=>diq a y x e Q
theorem Wh (b:Bool) (y:T) (a:am):diq b y (.ref a) H Q=diH b y (H a) H Q:=rfl
theorem Wi (a:Bool) (k:ai) (kvs:List (ai × T)):diH a (.str k) (ab (.dct kvs)) H Q=Q (.bl (if a then !(aR k kvs).isSome else (aR k kvs).isSome)) H:=rfl
theorem qy {K:a8}{H:Hp}{k:ai}:∀{kvs:List (ai × T)}{vs:List (Key × V)},ac9 K H kvs vs->(fJ vs (cf k:Key)).isSome=(aR k kvs).isSome
 |[],_,.nil=>rfl
 | (k',t')::r,_,.cons (b:=(kk,v')) ⟨e1,rv⟩ rr=>by
  simp only at e1 rv
  subst e1
  unfold aR
  by_cases a:k'=k
  ·
   rw[aca a,fK (by rw[a])];rfl
  ·
   rw[ace a,fL (by intro z;exact a (kU z))]
   exact qy rr
theorem zq {H:Hp} (j:mz X.K H3 H) (l:Rep X.K H h x) (m:Rep X.K H d y) (q:diq c d h H3 f):
  ∃a g b,x=.ref a/\acR H a y g/\(if c then !g.isSome else g.isSome)=b/\f (.bl b) H3:=by
 cases h with
 |ref a =>
  have h':diH c d (H3 a) H3 f:=q
  cases d with
  |str k =>
   cases e:H3 a with
   |none=>rw[e] at h';exact h'.elim
   |some i =>
    rw[e] at h'
    cases i with
    |dct kvs =>
     obtain⟨ws,n,r⟩:=j a _ e
     refine⟨a,fJ ws (cf k:Key),_,l.ref,by rw[m.str];exact acR.k (k:=cf k) n,rfl,?_⟩
     rw[qy r]
     exact h'
    |_=>exact h'.elim
  |_=>exact h'.elim
 |_=>exact q.elim
theorem rK (u:X.A.units+1<cK) (t:o4 X i ti) (v:o4 X o td) (w:ca .In o=ah:=by rfl):PT3 X (.Compare i [.In] [o] pos) (kE (Er ah ti td)):=by
 refine PT.imp (wD (Qx u t v) w) ?_;rintro G H Q ⟨d,H3,K,p,r,h,k⟩;refine⟨d,H3,_,p,r,h,λy L I m j l z C=>⟨d,m,_,p.mono j,l,C,λx F J D c f s E=>?_⟩⟩;obtain⟨a,n,b,e,g,B,q⟩:=zq f s (z.mono c) E;exact⟨a,n,e,g,b,by rw[show n.isSome=b from B],k _ _ _ (j.trans c) f q⟩
theorem qz (u:X.A.units+1<cK) (t:o4 X i ti) (v:o4 X o td) (w:ca .NotIn o=ah:=by rfl):PT3 X (.Compare i [.NotIn] [o] pos) (kE (Er ag ti td)):=by
 refine PT.imp (wD (ql u t v) w) ?_;rintro G H Q ⟨d,H3,K,p,r,h,k⟩;refine⟨d,H3,_,p,r,h,λy L I m j l z C=>⟨d,m,_,p.mono j,l,C,λx F J D c f s E=>?_⟩⟩;obtain⟨a,n,b,e,g,B,q⟩:=zq f s (z.mono c) E;exact⟨a,n,e,g,b,by rw[show (!n.isSome)=b from B],k _ _ _ (j.trans c) f q⟩
end
def Bx (x:T) (H:eH) (R:List T->(eH->Prop)->eH->Prop):Prop:=match x with
 |.tup ts=>R ts cW H
 |.ref a=>liO (H a) a H R
 |_=>False
theorem Rc (ts:List T):Bx (.tup ts) H R=R ts cW H:=rfl
theorem Rf (a:am):Bx (.ref a) H R=liO (H a) a H R:=rfl
def Es (i:Nat):TI3:=λa H R=>vq (a[i]?) λx=>Bx x H R
theorem JF (i:Nat):Es i a H R=vq (a[i]?) λx=>Bx x H R:=rfl
theorem JG {X:Cx}{r:Expr} (i:Nat) {f:ka} (m:X.N[i]?=ab x:=by rfl) (l:Vis X.env.scope x:=by first | exact gs rfl | exact e6 (gs rfl) | exact e6 (e6 rfl)) (g:(x==("__debug__":ai))=ah:=by decide) (d:(x==("__classdict__":ai))=ah:=by decide):PI3 X r (.Name x f) (Es i):=by
 intro c s p H R I q;obtain⟨b,H3,R3,n,j,h,k⟩:=q;have h':vq (b[i]?) λx=>Bx x H3 R3:=h;cases e:b[i]? with
 |none=>rw[e] at h';exact h'.elim
 |some o =>
 cases o with
 |none=>rw[e] at h';exact h'.elim
 |some t =>
 rw[e] at h';cases t with
 |tup ts=>exact bO (v3 i m l g d) c s p H R I ⟨b,H3,R3,n,j,by show ur i b H3 _;rw[Ef,e];exact h',k⟩
 |ref a=>exact bR (v3 i m l g d) c s p H R I ⟨b,H3,R3,n,j,by show ur i b H3 _;rw[Ef,e];exact h',k⟩
 |_=>exact h'.elim
theorem aN {f:Type} (c:f->T) (xs:List f) (I:List f->St3->eH->Prop) (j:I [] a H) (k:∀a H,I xs a H->still H/\D.nx a H) (l:∀A x B a H (N:St3->eH->Prop),xs=A++x::B->I A a H->(∀b H',I (A++[x]) b H'->N b H')->still H/\g (c x) a H λσ2 H2=>d { D with nx:=N,ct:=N,bk:=D.nx} σ2 H2):acu g d D still (xs.map c) a H:=by
 have:∀(B A:List f) (a:St3) (H:eH),xs=A++B->I A a H->acu g d D still (B.map c) a H:=by
  intro B;induction B with
  |nil=>intro A a H e h;rw[P_] at e;subst e;exact k a H h
  |cons x B i =>
  intro A a H e h;exact l A x B a H (acu g d D still (B.map c)) e h λb H' h'=>i (A++[x]) b H' (by rw[e];simp) h'
 exact this xs [] a H rfl j
theorem dU {k:Type} (i:k->T) (xs:List k) (I:List k->List T->St3->eH->Prop) (m:I [] [] c H) (n:∀a c H,I xs a c H->still H/\a.length<=ap/\j a H) (o:∀A x B a c H (N:List T->St3->eH->Prop),xs=A++x::B->I A a c H->(∀d f H',I (A++[x]) d f H'->N d f H') ->
   still H/\g (i x) c H λσ2 H2=>tt σ2 H2 λb H3=>if b=ag then te σ2 H3 λy H4=>a.length<ap/\N (a++[y]) σ2 H4 else N a σ2 H3):ab8 g tt te still j (xs.map i) [] c H:=by
 have:∀(B A:List k) (a:List T) (c:St3) (H:eH),xs=A++B->I A a c H->ab8 g tt te still j (B.map i) a c H:=by
  intro B;induction B with
  |nil=>intro A a c H e h;rw[P_] at e;subst e;exact n a c H h
  |cons x B l =>
  intro A a c H e h;exact o A x B a c H (ab8 g tt te still j (B.map i)) e h λd f H' h'=>l (A++[x]) d f H' (by rw[e];simp) h'
 exact this xs [] [] c H rfl m
section
variable {prog:bE}{w:bS}
variable {X:Cx}{e:Expr}
variable {z ti to i1 i2:am}{f1 f2:List am}
variable {n1 n2 k:Nat}{P1 P2:Nat->av->Prop}
variable {pins:List (am × dL)}{σ:L2.St}
theorem zr {ch:List am} (I:Inv X pins σ H s) (k:∀b o,b∉ch->s.heap.get? b=ab o->h'.get? b=ab o) (f:∀b∈ch,pC X pins H b):Inv X pins σ H { s with heap:=h',toks:=t'}:=by
 have d:∀b u,H b=ab u->b∉ch:=λb u e z=>by rw[(f b z).1] at e;cases e
 refine I.step (g':=s.gens) (d':=s.drawn) (ch:=ch) (λb t=>?_) (λb o _ _ a e _=>k b o a e) (λb o _ _ a e _=>⟨o.slots,k b o a e⟩) (λ_ _ _ _ n=>n)
  (λb o a e=>⟨o,k b o a e⟩) (λ_ _ e=>e) (λ_ _ _ e=>e) (λb ps e=>⟨#[],by rw[e];simp⟩) (λm j=>?_) (λb u e=>?_) I.bare
 .obtain⟨_,p,_,l,h,i⟩:=f b t;exact⟨l,p,h,i⟩
 .obtain⟨o,w,ep,g,r⟩:=j;exact⟨o,w,ep,k _ o (λz=>(f _ z).2.1 rfl) g,r⟩
 refine (I.hok b u e).stay (λc v a q=>k c v ?_ q) (λ_ q=>q) λ_ _ q=>q;rcases a with z | z
 .rw[z];exact d b u e
 exact d c _ z
end
theorem uN {n:Type} (m l f:n->T) (e:List n) (rest:St3) (g:still H) (w:e.length<=ap) (q:∀a∈e,∀Q:sy,Q (f a) H->te (ab (m a)::ab (l a)::rest) H Q) (j:k (e.map f) H):
  ab8 (yV 2 (jw (eU 0) (jw (eU 1) yU))) yW te still k (e.map λa=>.tup [m a,l a]) [] (v::u::rest) H:=by
 refine iG (λr o p H'=>∃(d i:List n) (v u:Option T),p=v::u::rest/\r=d.map (λa=>.tup [m a,l a])/\o=i.map f/\i++d=e/\H'=H) ⟨e,[],v,u,rfl,rfl,rfl,rfl,rfl⟩ ?_ ?_
 .rintro o p H' ⟨d,i,v,u,rfl,c,rfl,b,rfl⟩;have h:d=[]:=aaK.mp c.symm;subst h;rw[P_] at b;subst b;exact⟨g,by rw[b_];exact w,j⟩
 rintro x r o p H' N ⟨d,i,v,u,rfl,c,rfl,b,rfl⟩ s;cases d with
 |nil=>cases c
 |cons t d =>
 injection c with a1 a2;subst a1 a2;refine⟨g,rfl,?_⟩;show te (ab (m t)::ab (l t)::rest) H' _;refine q t (by rw[<- b];simp) _ ⟨?_,s _ _ _ ⟨d,i++[t],_,_,rfl,rfl,adE,by rw[<- b];simp,rfl⟩⟩;have:=T_ aT b;simp only[a_,i_] at this;rw[b_];omega
section
variable {H:eH}{Q:sy}
theorem wZ (x:ai):isT "str" (.str x) H=ab ag:=rfl
theorem xf (x:Int):isT "str" (.int x) H=ab ah:=rfl
theorem xg (x:List T):isT "str" (.tup x) H=ab ah:=rfl
theorem By (x:Bool):isT "str" (.bl x) H=ab ah:=rfl
theorem xj  : isT "str" (.non) H=ab ah:=rfl
theorem Rg (x:T):uL [x,.ty "int"] H Q=oq (isT "int" x H) λb=>Q (.bl b) H:=by rw[Ei];exact propext ⟨λh=>h.2,λh=>⟨adE,h⟩⟩
theorem xm (x:ai):isT "int" (.str x) H=ab ah:=rfl
theorem xn (x:Int):isT "int" (.int x) H=ab ag:=rfl
theorem xq (x:List T):isT "int" (.tup x) H=ab ah:=rfl
theorem BJ (x:Bool):isT "int" (.bl x) H=ab ag:=rfl
theorem xu  : isT "int" (.non) H=ab ah:=rfl
theorem JH (x:T):uL [x,.ty "bool"] H Q=oq (isT "bool" x H) λb=>Q (.bl b) H:=by rw[Ei];exact propext ⟨λh=>h.2,λh=>⟨adE,h⟩⟩
theorem uO (x:ai):isT "bool" (.str x) H=ab ah:=rfl
theorem uP (x:Int):isT "bool" (.int x) H=ab ah:=rfl
theorem uQ (x:List T):isT "bool" (.tup x) H=ab ah:=rfl
theorem xx (x:Bool):isT "bool" (.bl x) H=ab ag:=rfl
theorem uR  : isT "bool" (.non) H=ab ah:=rfl
theorem Et (x:T):uL [x,.ty "tuple"] H Q=oq (isT "tuple" x H) λb=>Q (.bl b) H:=by rw[Ei];exact propext ⟨λh=>h.2,λh=>⟨adE,h⟩⟩
theorem rM (x:ai):isT "tuple" (.str x) H=ab ah:=rfl
theorem rN (x:Int):isT "tuple" (.int x) H=ab ah:=rfl
theorem rO (x:List T):isT "tuple" (.tup x) H=ab ag:=rfl
theorem uT (x:Bool):isT "tuple" (.bl x) H=ab ah:=rfl
theorem rP  : isT "tuple" (.non) H=ab ah:=rfl
theorem uU (x:ai):isT "list" (.str x) H=ab ah:=rfl
theorem uV (x:Int):isT "list" (.int x) H=ab ah:=rfl
theorem uW (x:List T):isT "list" (.tup x) H=ab ah:=rfl
theorem xF (x:Bool):isT "list" (.bl x) H=ab ah:=rfl
theorem uX  : isT "list" (.non) H=ab ah:=rfl
theorem mG {b:Type} [DecidableEq b] (a:b):decide (a=a)=ag:=A_ rfl
end
open L2 PySem.Builtin PySem.Builtin.Str
def ngq (x:T) (H:eH) (Q:sy):Prop:=match x with
 |.int i=>Q (.int (-i)) H
 |_=>False
def Nt (b:vy):vy:=λc H Q=>b c H λx a=>ngq x a Q
theorem Wj (a:vy) {H:eH}{Q:sy}:Nt a b H Q=a b H λx c=>ngq x c Q:=rfl
theorem Wl (i:Int) {H:eH}{Q:sy}:ngq (.int i) H Q=Q (.int (-i)) H:=rfl
theorem rQ (e:o4 X a ta):o4 X (.UnaryOp .USub a pos) (Nt ta):=by
 refine PE.imp (UG Qi e) ?_;rintro m H Q ⟨c,H3,l,j,d,h,k⟩;refine⟨c,H3,_,j,d,h,λv H' t g f b r q=>?_⟩;cases t with
 |int i=>exact⟨i,r.int,k _ _ _ _ f b .ofInt q⟩
 |_=>exact q.elim
theorem Rh:dj X (bp .LShift) (rI3 Ik λi j=>.int (i*2^j.toNat)):=uC Qf λ_ _ _=>.ofInt
def anH (o:Option O3) (H:eH) (Q:sy):Prop:=match o with
 |some (.lst xs)=>oq (cU xs) λa=>Q (.bl (a.any id)) H
 |some (.rol xs)=>oq (cU xs) λa=>Q (.bl (a.any id)) H
 |_=>False
def Nu:List T->eH->sy->Prop:=λts H Q=>match ts with
 |[.ref a]=>anH (H a) H Q
 |_=>False
theorem Wm (a:am):Nu [.ref a] H Q=anH (H a) H Q:=rfl
theorem Wn (xs:List T):anH (ab (.lst xs)) H Q=oq (cU xs) λa=>Q (.bl (a.any id)) H:=rfl
theorem any_range (c:List Bool):(af c.length).any (λi=>c.getD i ag)=c.any id:=by
 rw[Zv,Z_,Z_];constructor
 .rintro⟨i,d,h⟩;have a:=F_.mp d;refine⟨c[i],Zt a,?_⟩;simpa [s_,a] using h
 rintro⟨b,e,h⟩;obtain⟨i,d,rfl⟩:=List.mem_iff_getElem.mp e;refine⟨i,F_.mpr d,?_⟩;simpa [s_,d] using h
theorem Ri (R:X.calm=ag):fM X (.builtin "any") Nu:=by
 intro l s O H xs us Q I M h;obtain⟨ts,H3,J,r,x,h,k⟩:=h
 match ts,h,r with
 |[.ref a],h,r =>
 obtain⟨v,rfl,B⟩:=r.one';obtain⟨u,rfl,G⟩:=vals1 M;rw[B.ref] at G;cases G;have f:∀{g:List T} {p:List V},SqL X.K H a p->fY X.K H g p->oq (cU g) (λd=>J (.bl (d.any id)) H3)->aE (ay X.prog X.w) X.A (oI (.builtin "any") [.ref a]) (EP X l O Q) X.xe s:=by
  intro g p m t q;cases e:cU g with
  |none=>rw[e] at q;exact q.elim
  |some d =>
  rw[e] at q;obtain⟨U,D,F,_⟩:=I.list m;have L:=lH e t D;subst L;have y:a≠s.heap.objs.size:=λz=>by obtain⟨o,n,j,_⟩:=F;have:=L_ j;rw[z] at this;exact ZK _ this
  refine call_any_walk (hH F.isList ?_);refine⟨s.heap.objs.size,_,_,_,_,_,λi=>d.getD i ag,rfl,Walks.list (A:=X.A.in1) (I.ok.hd R) s.heap.objs.size a y (d.map eP).toArray,⟨⟨_,G_ _ rfl,rfl,rfl⟩,F.isList.push _⟩,λi v s' W Y P C=>?_,λh' tk S=>?_⟩
  .have c:(d.map eP)[i]?=ab v:=by simpa using P
   rw[J_] at c;cases E:d[i]? with
   |none=>rw[E] at c;cases c
   |some b =>
   rw[E] at c;cases c;have:d.getD i ag=b:=by simp [s_,E]
   dsimp only at C;rw[this] at C;exact aaU C
  have N:(d.map eP).toArray.size=d.length:=adE
  rw[N,any_range];refine⟨.bl (d.any id),H,I.kept λb o e=>S b o (λz=>?_) (h_ _ e),rfl,k _ _ _ _ .refl x .ofBl q⟩;have:=L_ e;rw[e_.mp z] at this;exact ZK _ this
 have h':anH (H3 a) H3 J:=h;cases j:H3 a with
 |none=>rw[j] at h';exact h'.elim
 |some o =>
 rw[j] at h';cases o with
 |lst g=>obtain⟨p,m,t⟩:=x.sqL (.inl j);exact f m t h'
 |rol g=>obtain⟨p,m,t⟩:=x.sqL (.inr j);exact f m t h'
 |_=>exact h'.elim
def Eu:List T->eH->sy->Prop:=λts H Q=>match ts with
 |[.int i,.int j]=>Q (.int (if j>i then j else i)) H
 |_=>False
theorem Rj (i j:Int):Eu [.int i,.int j] H Q=Q (.int (if j>i then j else i)) H:=rfl
theorem JK (l:X.calm=ag):fM X (.builtin "max") Eu:=by
 intro a s o H xs us Q I g h;obtain⟨ts,H3,q,r,e,h,k⟩:=h
 match ts,h,r with
 |[.int i,.int j],h,r =>
 obtain⟨v,u,rfl,f,d⟩:=r.two';obtain⟨t,p,rfl,b,c⟩:=vals2 g;rw[f.int] at b;rw[d.int] at c;obtain⟨n,rfl⟩:=b;obtain⟨w,rfl⟩:=c;refine max_two_ints (I.ok.hd l) λh' tk m=>?_;refine⟨.int (if j>i then j else i),H,I.kept m,?_,k _ _ _ _ .refl e .ofInt h⟩;by_cases z:j>i
 .rw[aca z,aca z];exact⟨_,rfl⟩
 rw[ace z,ace z];exact⟨_,rfl⟩
theorem xG:dj X (bp .BitAnd) (rG λi j=>.int (a9 i j)):=nj Qh λ_ _ _=>.ofInt
theorem Wo:dj X (bp .BitOr) (rG λi j=>.int (dE i j)):=nj UJ λ_ _ _=>.ofInt
theorem Ew:bb "max"=ab (.builtin "max"):=by decide +kernel
theorem bx {N P:List ai}{h:Scope}(a:h.kind=.function:=by rfl) (b:h.isCoroutine=ah:=by rfl) (c:h.isGenerator=ah:=by rfl) (d:N.Nodup:=by decide +kernel) (e:N.take P.length=P:=by rfl)
 (f:∀x∈P,h.names.lookup x=ab .local\/h.names.lookup x=ab .cell:=by decide +kernel) (g:∀y∈h.names,y.2≠.free:=by decide +kernel):eG N P h:=⟨a,b,c,d,e,f,g⟩
theorem Ex {p:Prop} [Decidable p] (h:¬p):¬(decide p=ag) := λe=>h (Zw e)
theorem upa (h:H a=ab u) (b:H q=ae):aY H q o a=ab u := by rw[aD (bf h b)];exact h
structure mY (P:bE) (w:bS) (K:a8) (mg:ai->Option av) (base:cv) (k:Nat) (x:ai) (st:eD) (ps:List ai) (sp:Sp3):Prop where
 ex:∃(f:am) (fd:dk),G3 K mg x st ps f fd/\lG P w K mg base k f fd ps sp
theorem Rk {st:eD}{p a:ka} (D:mY X.prog X.w X.K X.mg X.base k x st ps sp) (n:mX k X.A) (i:Gl X x) (j:PA3 X (e::c) t) (h:(x==("__debug__":ai))=ah:=by decide) (l:ax (e::c) X.env=(ah,br e X.env)::ax c X.env:=by rfl) (d:(bt a (ax c X.env)).any (·.1)=ah:=by rfl):
  o4 X (.Call (.Name x p) (e::c) [] a) (rF sp t):=by
 obtain⟨f,o,g,F⟩:=D.ex;exact Jp F n i g.m g.fn.kp g.b j h l d
theorem aK {st:eD}{p a:ka} (D:mY X.prog X.w X.K X.mg X.base k x st ps sp) (i:mX j X.A) (f:Gl X x) (g:PA3 X (e::b) t) (l:k<=j:=by decide) (d:(x==("__debug__":ai))=ah:=by decide) (h:ax (e::b) X.env=(ah,br e X.env)::ax b X.env:=by rfl) (c:(bt a (ax b X.env)).any (·.1)=ah:=by rfl):o4 X (.Call (.Name x p) (e::b) [] a) (rF sp t):=Rk D (i.mono l) f g d h c
def rpH (o:Option O3) (k:Int) (H:eH) (Q:sy):Prop:=match o with
 |some (.lst xs)=>(-(2^63)<=k/\k<2^63/\xs.length*k.toNat<=ap)/\∀p,H p=ae->Q (.ref p) (aY H p (.lst (a4 k.toNat xs).flatten))
 |_=>False
def Nv:R3:=λx y H Q=>match x,y with
 |.ref a,.int k=>rpH (H a) k H Q
 |_,_=>False
theorem Nx (a:am) (k:Int) (H:eH) (Q:sy):Nv (.ref a) (.int k) H Q=rpH (H a) k H Q:=rfl
theorem Ny (xs:List T) (k:Int) (H:eH) (Q:sy):rpH (ab (.lst xs)) k H Q=((-(2^63)<=k/\k<2^63/\xs.length*k.toNat<=ap)/\∀p,H p=ae->Q (.ref p) (aY H p (.lst (a4 k.toNat xs).flatten))):=rfl
theorem fY.rep {K:a8} (r:fY K H ts vs):∀k:Nat,fY K H (a4 k ts).flatten (a4 k vs).flatten
 |0=>.nil
 |k+1=>by rw[aaB,aaB,aao,aao];exact r.append (fY.rep r k)
theorem Rm:dj X (bp .Mult) Nv:=by
 refine OpR.imp Qw ?_;rintro x y H Q ⟨l,f,H3,s,i,m,b,h,k⟩;cases l with
 |ref a =>
  cases f with
  |int n =>
   rw[Nx] at h;cases e:H3 a with
   |none=>rw[e] at h;exact h.elim
   |some o =>
   rw[e] at h;cases o with
   |lst xs=>rw[Ny] at h;obtain⟨vs,q,d⟩:=b a _ e;obtain⟨⟨g,r,j⟩,h'⟩:=h;refine⟨a,n,vs,i.ref,m.int,q,g,r,by rw[<- d.length];exact j,λp c=>?_⟩;exact k _ _ _ _ (aV c) (b.newLst c (d.rep n.toNat)) .ofRef (h' p (b.fresh c))
   |_=>exact h.elim
  |_=>exact h.elim
 |_=>exact h.elim
theorem afb:vT "list_reverseiterator" "__length_hint__" "list_reverseiterator.__length_hint__":=.of (owner:="list_reverseiterator") (n:="__length_hint__") (by rw[fv,abr];kernel_rfl) adx adx adx
 (by first | exact .inr adx | exact .inl adx) (by rw[abX];kernel_rfl)
theorem Ey:ms (.type "list_reverseiterator") "__len__"=a5 ae:=by rw[fv,abr];kernel_rfl
theorem Rn:isSubtype (.type "list_reverseiterator") (.type "list_reverseiterator")=a5 ag:=by rw[abX];kernel_rfl
theorem Ez {a b:Array av}(h:tI (λi v=>a[a.size - 1 - i]?=ab v) b a.size):b=a.reverse:=by
 refine Array.ext (by rw[h.1];simp) λj c e=>?_;have q:a[a.size - 1 - j]?=ab b[j]:=h.2 j b[j] (S_ c);have d:j<a.size:=by rw[<- h.1];exact c
 rw[S_ adC] at q;rw[Array.getElem_reverse];exact (Zg q).symm
theorem BK (x:A.handled=ae) (q:l≠I) (hsz:c.size<=ap) (m:S∉[I,l]) (h:s.heap.IsRevIter I l ((c.size:Int) - 1)) (G:s.heap.IsList l c) (C:s.heap.get? S=ab { cls:=.type "list",data:=.seq #[] p}) (E:∀s' d k,Moved (S::[I]) (λa b=>b=a) s s'->s'.heap.get? S=ab { cls:=.type "list",dict:=ae,data:=.seq d k,slots:=#[]}->tI (λi v=>c[c.size - 1 - i]?=ab v) d c.size->R (.ok (.ret res)) s'):
  aE (ay prog w) A.in1 (bX (.ref S) (.ref I) res)
   (λr s'=>match r with | .done f=>R (.ok f) s' | .again k=>k.quiet=ag/\dP (ay prog w) A k R s') (λe s'=>R (.error e) s') s:=by
 have W:=(Walks.listRev (prog:=prog) (w:=w) (A:=A.in1) x I l q c).toS;have u:S≠I:=λe=>m (e▸k_);have st:(λ(i:Nat) (s:aI)=>i<=c.size/\s.heap.IsRevIter I l ((c.size:Int) - 1 - (i:Int))/\s.heap.IsList l c) 0 s:=⟨aae _,by simpa using h,G⟩;have g:s.TypeIs (.ref I) "list_reverseiterator":=h.typeIs;unfold bX;refine d_ (ja g ?_);have y:db (.ref S) (.ref I)=ah:=by simp [db,u]
 have z:(cE "list_reverseiterator"==cE "list")=ah:=by decide
 have B:(cE "list_reverseiterator"==cE "tuple")=ah:=by decide
 simp only[y,z,B,mn,I_,Zj];refine d_ (fh h ?_);refine d_ (aau ?_);unfold dQ;refine d_ (fr g Ey ?_);show aE _ A.in1 (specialOf (bg I) (ee "__length_hint__") >>= _) _ _ _;refine d_ (fr g afb.lookup ?_);generalize j:("list_reverseiterator.__length_hint__":String)=n
 (fail_if_success (clear j n))
 wp_delta
 rw[show splitId n=ab ("list_reverseiterator","__length_hint__") from by subst j;decide +kernel];subst j;refine d_ (iE (b:=ag) g Rn ?_);rw[ace (show ¬(!ag)=ag from B_)];dsimp only;rw[aca adx];rw[ace (show ¬((sK "list_reverseiterator.__length_hint__"==sK "range_iterator.__length_hint__")=ag) from adD)];refine o_ ?_;try rw[ace B_]
 refine o_ ⟨ab1 F.plain_extend_loop _,?_⟩;exact kS W hsz _ m _ c.size 0 _ _ _ rfl (aae _) st C (ItemsOf.nil _) λs' d k D t o=>E s' d k D t o
theorem JL (B:A.handled=ae) (r:l≠I) (hsz:d.size<=ap) (j:S∉[I,l]) (q:s.heap.IsRevIter I l ((d.size:Int) - 1)) (F:s.heap.IsList l d) (x:s.heap.get? S=ab { cls:=.type "list",data:=.seq #[]}) (J:∀s' g n,Moved (S::[I]) (λa b=>b=a) s s'->s'.heap.get? S=ab { cls:=.type "list",dict:=ae,data:=.seq g n,slots:=#[]}->tI (λi v=>d[d.size - 1 - i]?=ab v) g d.size->R (.ok (.ret .none)) s'):
  aE (ay prog w) A.in1 (er.«list.__init__» ⟨[.ref S,.ref I],[]⟩)
   (λt s'=>match t with | .done f=>R (.ok f) s' | .again n=>n.quiet=ag/\dP (ay prog w) A n R s') (λe s'=>R (.error e) s') s:=by
 show aE _ A.in1 (do let u <- kf (.ref S);Builtin.List.listUpdate (.ref S) (λ_=>#[]);letGo u.toList.reverse;bX (.ref S) (.ref I) .none) _ _ s;refine d_ ?_;unfold kf;refine d_ (kF x rfl (o_ ?_));show aE _ A.in1 (sN S (λ_=>#[]) >>= λ_=>letGo (#[]:Array av).toList.reverse >>= λ_=>bX (.ref S) (.ref I) .none) _ _ s;refine d_ (ki x rfl ?_);have k:=aaE (cn (λ_=>(#[]:Array av))) x rfl;have m:∀b o,b≠S->s.heap.get? b=ab o->(s.heap.update S (cn (λ_=>(#[]:Array av)))).get? b=ab o :=
  λb o z e=>(aax _ _ (a6 z)).trans e
 refine d_ (wpAny_letGo ?_);have E:I≠S:=λe=>j (by simp [e]);have D:l≠S:=λe=>j (by simp [e]);refine BK B r hsz j (q.at λo e=>m _ o E e) (F.at λo e=>m _ o D e) k λs' g n H y p=>?_;exact J s' g n (Moved.trans (G:=λa b=>b=a) (λa b c C K=>K.trans C) ((Moved.refl (G:=λa b=>b=a) λ_=>rfl).then_heap (m_ _) λb o z e=>m b o (λh=>z (h▸k_)) e) H) y p
theorem pJ (y:A.handled=ae) (n:l≠I) (hsz:c.size<=ap) (f:s.heap.IsRevIter I l ((c.size:Int) - 1)) (x:s.heap.IsList l c) (z:∀s' p,Moved (s.heap.objs.size::[I]) (λa b=>b=a) { s with heap:=s.heap.push { cls:=.type "list",data:=.seq #[]}} s' ->
   s'.heap.get? s.heap.objs.size=ab { cls:=.type "list",dict:=ae,data:=.seq c.reverse p,slots:=#[]}->Q (.ref s.heap.objs.size) s'):
  aE (ay prog w) A (oI (.type "list") [.ref I]) Q E s:=by
 have j:I<s.heap.objs.size:=by obtain⟨o,r,_⟩:=f;exact L_ r
 have k:l<s.heap.objs.size:=by obtain⟨o,r,_⟩:=x;exact L_ r
 have m:s.heap.objs.size∉[I,l]:=λt=>by
  rcases n_.mp t with e | e
  .rw[<- e] at j;exact ZK _ j
  rw[<- e_.mp e] at k;exact ZK _ k
 refine callType_codes (Q₁:=λh d=>h=.ref s.heap.objs.size/\d={ s with heap:=s.heap.push { cls:=.type "list",data:=.seq #[]}}) F.called_list (F.typeCall_list_1 _) F.entry_list_init
  (code_list_new _ ⟨rfl,rfl⟩) λh d i=>?_
 obtain⟨rfl,rfl⟩:=i;have v:(s.heap.push { cls:=.type "list",data:=.seq #[]}).get? s.heap.objs.size=ab { cls:=.type "list",data:=.seq #[]}:=G_ _ rfl;refine⟨⟨_,v,rfl⟩,F.args_list_init_2 _ _,JL (A:=A.in1) y n hsz m (f.at λo e=>h_ _ e) (x.at λo e=>h_ _ e) v λs' u p t q g=>?_⟩;refine⟨rfl,z s' p t ?_⟩;rw[<- Ez g];exact q
def Itv (K:a8) (a:am) (n:Nat):It :=
 ⟨λi H=>∃xs x,SqL K H a xs/\xs.length=n/\i<n/\xs[n - 1 - i]?=ab x,λi H x H'=>H'=H/\∀xs,SqL K H a xs->xs[n - 1 - i]?=ab x,λi _=>n<=i⟩
theorem EY {K:a8} (a it:am) (n:Nat):Turn P w K S (Itv K a n) [it] it (λi h=>i<=n/\h.IsRevIter it a ((n:Int) - 1 - (i:Int))) where
 mem:=by simp
 obj:=λi h st b j=>by
  have e:b=it:=by simpa using j
  subst e
  obtain⟨_,o,e,c,d⟩:=st
  exact⟨o,e,λv z=>by rw[d] at z;cases z⟩
 keep:=λi h h' st k=>⟨st.1,st.2.at λo e=>k it adE o e⟩
 item:=by
  intro X D r m J i f s G H E I l st A
  subst D r m
  obtain⟨xs,x,F,hn,N,L⟩:=A
  obtain⟨its,R,p,hz⟩:=I.list F
  obtain⟨u,O,W⟩:=R.get L
  obtain⟨C,t,f2,q,y,B⟩:=l it adE
  have e:(n:Int) - 1 - (i:Int)=((n - 1 - i:Nat):Int):=adC
  obtain⟨_,st⟩:=st
  rw[e] at st
  refine wpAny_pyNext_rev_item st p.isList (x:=u) (by simpa using O) λh' g sb=>?_
  have T:Inv X f G H { s with heap:=h'}:=I.turned (t':=s.toks) (λb o j e=>(sb.2 b j).trans e) C t q y B
  obtain⟨o,Y,c,d⟩:=id g
  have M:((n - 1 - i:Nat):Int) - 1=(n:Int) - 1 - ((i+1:Nat):Int):=adC
  rw[M] at g
  exact⟨u,rfl,yG (s:={ s with heap:=h'}) Y c d adD ⟨x,H,T,W,⟨rfl,λys U=>by rw[I.list_inj U F];exact L⟩,⟨N,g⟩,λb j=>(l b j).1⟩⟩
 done:=by
  intro X D r m J i f s G H E I l st A
  subst D r m
  obtain⟨C,t,f2,q,y,B⟩:=l it adE
  obtain⟨V,st⟩:=st
  have Q:n<=i:=A
  have e:(n:Int) - 1 - (i:Int) = -1:=adC
  rw[e] at st
  exact wpAny_pyNext_rev_end (I.ok.hd J) st λh' Z=>⟨rfl,I.turned (t':=s.toks) (λb o j e=>Z b o j e) C t q y B⟩
 self:=λ_ _ _ _ _ st h=>fh st.2 h
theorem lJ:bb "reversed"=ab (.type "reversed"):=by decide +kernel
section
variable {X:Cx}{tg e:Expr}{p p1 p2 pos pos':ka}
def Y7 (K:a8) (te:TE):TI:=λc H R=>te c H λx b=>∃a xs,x=.ref a/\SqL K b a xs/\R (Itv K a xs.length) b
theorem Ro (t:Gl X "reversed") (z:X.mg "reversed"=ae) (C:PE X e te) (k:ax [e] X.env=(ah,br e X.env)::ax [] X.env:=by rfl) (i:(bt pos (ax [] X.env)).any (·.1)=ah:=by rfl):
  PI X tg (.Call (.Name "reversed" p) [e] [] pos) (Y7 X.K te):=by
 intro d s y H R I h;refine ZZ (eQ I t z lJ ?_ adD adD);refine ZD ?_ k i;rw[k];show aE _ _ (hO ((ah,br e X.env)::bt pos (ax [] X.env))) _ _ s;refine Z4 (My (C d s y H _ I h) λu c ⟨x,w,g,v,a,xs,B,r,q⟩=>?_);subst B;cases v;refine aam ?_;obtain⟨j,n,m,hz⟩:=g.list r;have f:=n.length;refine mB m.isList ?_;have A:((j.toArray.size:Nat):Int) - 1=(xs.length:Int) - 1:=by simp [f]
 rw[A];have l:(c.heap.push (vx a ((xs.length:Int) - 1))).IsRevIter c.heap.objs.size a ((xs.length:Int) - 1):=⟨_,G_ _ rfl,rfl,rfl⟩;refine fh l ?_;refine⟨c.heap.objs.size,[c.heap.objs.size],_,_,w,rfl,g.kept (t':=c.toks) λb o e=>h_ _ e,EY a c.heap.objs.size xs.length,⟨aae _,by simpa using l⟩,λb D=>?_,q⟩;have e:b=c.heap.objs.size:=by simpa using D
 subst e;exact g.fpOk (m_ _) (g.hok.fresh (m_ _))
def reO (o:Option O3) (a:am) (H:eH) (R:List T->(eH->Prop)->eH->Prop):Prop:=match o with
 |some (.lst ts)=>R ts.reverse (cJ a ts) H
 |_=>False
def Nz (te:vy):TI3:=λc H R=>te c H λx b=>match x with
 |.ref a=>reO (b a) a b R
 |_=>False
theorem Fb {K:a8}{xs:List V} (j:xs.length=ts.length):m9 K (Itv K a xs.length) ts.reverse (cJ a ts) H:=λH' n p g st=>by
 obtain⟨h,f,c⟩:=g.sqL st;have l:=c.length;rw[j];refine⟨λi b=>by rw[aal] at b;exact b,λi t e=>?_⟩;have b:i<ts.length:=by have:=(Z2.mp e).1;rw[aal] at this;exact this
 rw[List.getElem?_reverse b] at e;obtain⟨v,d,m⟩:=c.get e;refine⟨⟨h,v,f,l.symm,b,d⟩,λx k y=>?_⟩;obtain⟨o,y⟩:=y;subst o;have:=y h f;rw[d] at this;cases this;exact⟨.refl,g,m⟩
theorem Rp (m:Gl X "reversed") (n:X.mg "reversed"=ae) (s:o4 X e te) (u:ax [e] X.env=(ah,br e X.env)::ax [] X.env:=by rfl) (f:(bt pos (ax [] X.env)).any (·.1)=ah:=by rfl):
  PI3 X tg (.Call (.Name "reversed" p) [e] [] pos) (Nz te):=by
 refine PI.imp (Ro m n s u f) ?_;rintro y H R ⟨g,H3,R3,x,j,h,k⟩;refine⟨g,H3,_,x,j,h,λv H' t b w c r q=>?_⟩;cases t with
 |ref a =>
  have d:reO (b a) a b R3:=q
  cases e:b a with
  |none=>rw[e] at d;exact d.elim
  |some o =>
   rw[e] at d
   cases o with
   |lst ts =>
    obtain⟨xs,i,l⟩:=c.sqL (.inl e)
    exact⟨a,xs,r.ref,i,k _ _ (cJ a ts) H' b w c (Fb l.length.symm) d⟩
   |_=>exact d.elim
 |_=>exact q.elim
theorem Rq (te:vy) {c:St3}{H:eH}{R:List T->(eH->Prop)->eH->Prop}:Nz te c H R=te c H λx b=>match x with
 |.ref a=>reO (b a) a b R
 |_=>False:=rfl
theorem Wq (ts:List T) (a:am) (H:eH) (R:List T->(eH->Prop)->eH->Prop):reO (ab (.lst ts)) a H R=R ts.reverse (cJ a ts) H:=rfl
def Rr (te:TE):TE:=λc H Q=>te c H λx a=>∃p b,x=.ref p/\SqL X.K a p b/\∀l,a l=ae->Q (.ref l) (upd a l (.lst b.reverse))
theorem Fe (O:X.calm=ag) (r:Gl X "list") (n:X.mg "list"=ae) (k:Gl X "reversed") (v:X.mg "reversed"=ae) (M:PE X e te) (D:ax [e] X.env=(ah,br e X.env)::ax [] X.env:=by rfl) (f:(bt pos (ax [] X.env)).any (·.1)=ah:=by rfl) (i:(bt pos' (ax [] X.env)).any (·.1)=ah:=by rfl):
  PE X (.Call (.Name "list" p1) [.Call (.Name "reversed" p2) [e] [] pos'] [] pos) (Rr (X:=X) te):=by
 intro c s A H Q I h;refine ZZ (eQ I r n iZ ?_ adD adD);refine ZD ?_ rfl f;show aE _ _ (hO ((ah,br (.Call (.Name "reversed" p2) [e] [] pos') X.env)::bt pos (ax [] X.env))) _ _ s;refine Z4 ?_;refine ZZ (eQ I k v lJ ?_ adD adD);refine ZD ?_ D i;rw[D];show aE _ _ (hO ((ah,br e X.env)::bt pos' (ax [] X.env))) _ _ s;refine Z4 (My (M c s A H _ I h) λu s1 ⟨x,T,j,N,p,J,R,E,q⟩=>?_);subst R;cases N;obtain⟨a,w,l,hz⟩:=j.list E;have B:=w.length;have hsz:a.toArray.size<=ap:=by simp only[z_];omega
 refine aam ?_;refine mB l.isList ?_;refine aam ?_;have f:p<s1.heap.objs.size:=by obtain⟨o,P,_⟩:=l.isList;exact L_ P
 have t:(s1.heap.push (vx p ((a.toArray.size:Int) - 1))).IsRevIter s1.heap.objs.size p ((a.toArray.size:Int) - 1):=⟨_,G_ _ rfl,rfl,rfl⟩;refine pJ (s:={ s1 with heap:=s1.heap.push (vx p ((a.toArray.size:Int) - 1))}) (j.ok.hd O) (Zk f) hsz t (l.isList.at λo e=>h_ _ e) λs' K g y=>?_;generalize m:(s1.heap.push (vx p ((a.toArray.size:Int) - 1))).objs.size=z at g y;have d:s1.heap.objs.size<z:=by rw[<- m];simp [Heap.push]
 have F:∀b u,s1.heap.get? b=ab u->s'.heap.get? b=ab u:=λb u C=>g.heap b u (λS=>by
  have:=L_ C
  rcases n_.mp S with e | e
  ·
   rw[e] at this;exact ach (abj this d) (ZK _)
  ·
   rw[e_.mp e] at this;exact ZK _ this) (h_ _ (h_ _ C))
 have L:s'={ s1 with heap:=s'.heap,toks:=s'.toks}:=by
  obtain⟨Y,U,W,V,Z⟩:=s';have:=g.gens;have:=g.drawn;have:=g.os
  simp_all
 have G:Inv X c A (upd T z (.lst J.reverse)) { s1 with heap:=s'.heap,toks:=s'.toks} :=
  j.laid (t':=s'.toks) F (aai d) ⟨by rw[aal];exact hz,a.reverse,K,w.reverse,by simpa using y⟩
 rw[L];exact⟨.ref z,_,G,rfl,q _ (j.hok.fresh (aai d))⟩
def lrO (o:Option O3) (H:eH) (Q:sy):Prop:=match o with
 |some (.lst xs)=>∀p,H p=ae->Q (.ref p) (aY H p (.lst xs.reverse))
 |_=>False
def zu (te:vy):vy:=λc H Q=>te c H λx b=>match x with
 |.ref a=>lrO (b a) b Q
 |_=>False
theorem Ff (A:X.calm=ag) (j:Gl X "list") (i:X.mg "list"=ae) (g:Gl X "reversed") (s:X.mg "reversed"=ae) (x:o4 X e te) (D:ax [e] X.env=(ah,br e X.env)::ax [] X.env:=by rfl) (m:(bt pos (ax [] X.env)).any (·.1)=ah:=by rfl) (f:(bt pos' (ax [] X.env)).any (·.1)=ah:=by rfl):
  o4 X (.Call (.Name "list" p1) [.Call (.Name "reversed" p2) [e] [] pos'] [] pos) (zu te):=by
 refine PE.imp (Fe A j i g s x D m f) ?_;rintro E H Q ⟨p,H3,C,z,w,h,k⟩;refine⟨p,H3,_,z,w,h,λv H' t b y c r q=>?_⟩;cases t with
 |ref a =>
  have d:lrO (b a) b C:=q
  cases e:b a with
  |none=>rw[e] at d;exact d.elim
  |some o =>
   rw[e] at d
   cases o with
   |lst ts =>
    obtain⟨xs,u,B⟩:=c.sqL (.inl e)
    exact⟨a,xs,r.ref,u,λl n=>k _ _ _ _ (y.trans (aV n)) (c.newLst n B.reverse) .ofRef (d l (c.fresh n))⟩
   |_=>exact d.elim
 |_=>exact q.elim
theorem JM (te:vy) {c:St3}{H:eH}{Q:sy}:zu te c H Q=te c H λx b=>match x with
 |.ref a=>lrO (b a) b Q
 |_=>False:=rfl
theorem Wr (xs:List T) (H:eH) (Q:sy):lrO (ab (.lst xs)) H Q=∀p,H p=ae->Q (.ref p) (aY H p (.lst xs.reverse)):=rfl
variable {apos cpos:ka}{Ty id:String}
def NB (b:String) (m:T->List T->eH->sy->Prop) (c:vy):vy:=λd H Q=>c d H λx a=>ty3 b x a/\m x [] a Q
theorem Rt (p:mN Ty) (d:vT Ty name id) (e:t9 (.builtin id)=a5 (.type "method_descriptor")) (r:wX X id m) (q:o4 X o to)
  (a:cq o name X.env (br o X.env)=br o X.env:=by rfl) (b:(apos.endLine==cpos.line)=ag:=by rfl) :
  o4 X (.Call (.Attribute o name apos) [] [] cpos) (NB Ty m to):=by
 refine PE.imp (Qt p d e r q a b) ?_;rintro v H Q ⟨i,H3,u,t,n,h,k⟩;exact⟨i,H3,_,t,n,h,λx w s f g c j l=>⟨Ng c j l.1,s,[],f,u,j,.nil,c,l.2,k.at g⟩⟩
def JN:V->List V->Hp->VK->Prop:=λx vs H Q=>∃l xs i y,x=.ref l/\vs=[.int i,y]/\H l=ab (.lst xs)/\0<=i/\i<=xs.length/\xs.length<ap/\Q .non (upd H l (.lst (xs.take i.toNat++y::xs.drop i.toNat)))
theorem BL:MtR X "list.insert" JN:=by
 intro c s A H x vs v us Q I j m h;obtain⟨l,xs,i,y,rfl,rfl,f,p,o,hz,q⟩:=h;cases j;obtain⟨u,d,rfl,k,b⟩:=vals2 m;obtain⟨t,rfl⟩:=k;obtain⟨z,a,n,r,w,e⟩:=I.lstM f;have hsz:ap=16777216:=rfl;have g:¬(!gS i)=ag:=by rw[kQ adC adC];exact B_
 refine ab0 F.slot_list_insert ⟨_,e,rfl⟩ F.entry_list_insert (F.args_list_insert_3 _ _ _) (AutoSeq1.list_insert_list_int_val_1 l a.toArray n i t d g (by rw[z_];omega)) ⟨e,?_⟩;refine⟨.non,_,I.lset (its':=a.take i.toNat++d::a.drop i.toNat) f e ?_ ((r.take _).append (.cons b (r.drop _))) ?_,rfl,q⟩
 .dsimp only;rw[ace adC,z_,fI adC];apply Array.toList_inj.mp;simp;exact ZL adE
 rw[a_,i_,Zm,Zr];omega
def Ru (o:Option O3) (a:am) (i:Int) (t:T) (H:eH) (Q:sy):Prop:=match o with
 |some (.lst xs)=>(0<=i/\i<=xs.length/\xs.length<ap)/\Q .non (aY H a (.lst (xs.take i.toNat++t::xs.drop i.toNat)))
 |_=>False
def NK:T->List T->eH->sy->Prop:=λx ts H Q=>match x,ts with
 |.ref a,[.int i,t]=>Ru (H a) a i t H Q
 |_,_=>False
theorem NP (a:am) (i:Int) (t:T) (H:eH) (Q:sy):NK (.ref a) [.int i,t] H Q=Ru (H a) a i t H Q:=rfl
theorem Fg (xs:List T) (a:am) (i:Int) (t:T) (H:eH) (Q:sy):Ru (ab (.lst xs)) a i t H Q=((0<=i/\i<=xs.length/\xs.length<ap)/\Q .non (aY H a (.lst (xs.take i.toNat++t::xs.drop i.toNat)))):=rfl
theorem BP:wX X "list.insert" NK:=by
 refine MtR.imp BL ?_;rintro x xs H Q ⟨q,ts,H3,u,m,j,f,h,k⟩;cases q with
 |ref a =>
  cases ts with
  |nil=>exact h.elim
  |cons b ts =>
  cases ts with
  |nil=>cases b <;> exact h.elim
  |cons y ts =>
  cases ts with
  |cons _ _=>cases b <;> exact h.elim
  |nil =>
  cases b with
  |int i =>
   rw[NP] at h;cases e:H3 a with
   |none=>rw[e] at h;exact h.elim
   |some o =>
   rw[e] at h;cases o with
   |lst w=>rw[Fg] at h;obtain⟨t,d,r⟩:=f a _ e;obtain⟨⟨l,s,p⟩,h'⟩:=h;obtain⟨v,n,rfl,g,c⟩:=j.two';refine⟨a,t,i,n,m.ref,by rw[g.int],d,l,by rw[<- r.length];exact s,by rw[<- r.length];exact p,k _ _ _ _ (bN (by rw[d];exact trivial)) (f.wrL d ((r.take _).append (.cons c (r.drop _)))) .ofNon h'⟩
   |_=>exact h.elim
  |_=>exact h.elim
 |_=>exact h.elim
def mxH (o:Option O3) (H:eH) (Q:sy):Prop:=match o with
 |some (.lst xs)=>oq (ints3 xs) λns=>ns≠[]/\∀M,M∈ns->(∀a∈ns,a<=M)->Q (.int M) H
 |_=>False
def Fi:List T->eH->sy->Prop:=λts H Q=>match ts with
 |[.ref a]=>mxH (H a) H Q
 |_=>False
theorem Fj (a:am) (H:eH) (Q:sy):Fi [.ref a] H Q=mxH (H a) H Q:=rfl
theorem NQ (xs:List T) (H:eH) (Q:sy):mxH (ab (.lst xs)) H Q=oq (ints3 xs) λns=>ns≠[]/\∀M,M∈ns->(∀a∈ns,a<=M)->Q (.int M) H:=rfl
theorem JP (F:X.calm=ag):fM X (.builtin "max") Fi:=by
 intro p s O H xs us Q I B h;obtain⟨ts,H3,P,r,q,h,k⟩:=h;cases ts with
 |nil=>exact h.elim
 |cons t ts =>
 cases ts with
 |cons _ _=>cases t <;> exact h.elim
 |nil =>
 cases t with
 |ref a =>
  rw[Fj] at h;obtain⟨v,rfl,l⟩:=r.one';obtain⟨u,rfl,z⟩:=vals1 B;rw[l.ref] at z;cases z;cases e:H3 a with
  |none=>rw[e] at h;exact h.elim
  |some o =>
  rw[e] at h;cases o with
  |lst D =>
   rw[NQ] at h;obtain⟨N,A,J⟩:=q.sqL (.inl e);cases g:ints3 D with
   |none=>rw[g] at h;exact h.elim
   |some ns =>
   rw[g,iD] at h;obtain⟨i,h⟩:=h;obtain⟨b,m,K,_⟩:=I.list A;have w:=jx g J m;have c:AllInts b.toArray:=w.allInts;obtain⟨d,x⟩:=c.items;have n:s.heap.IsList a (intItems d):=by rw[<- x];exact K.isList
   have f:=sA d;rw[<- x,show b.toArray.toList=b from rfl,w.numsOf] at f;have hz:0<d.size:=by have:=T_ aT f;simp at this;have:=List.length_pos_iff.mpr i;omega
   refine max_intList (I.ok.hd F) n hz λv h' tk E G=>?_;obtain⟨t,rfl⟩:=intItems_at E;obtain⟨M,L⟩:=argBest_gt (numAt d) (d.size - 1);refine⟨.int _,H,I.kept G,⟨t,rfl⟩,k _ _ _ _ .refl q .ofInt (h _ ?_ λa y=>?_)⟩
   .rw[f,numAt_eq];exact getD_mem (by rw[b_,K_];omega)
   rw[f] at y;obtain⟨j,C,rfl⟩:=mem_getD y;rw[b_,K_] at C;rw[<- numAt_eq];exact L j adC
  |_=>exact h.elim
 |_=>cases h
end
theorem iH {o:Type} (k i l f:o->T) (p:o->Bool) (g:List o) (rest:St3) (m:still H) (C:g.length<=ap) (B:∀a∈g,∀Q:Bool->eH->Prop,Q (p a) H->tt (ab (k a)::ab (i a)::ab (l a)::rest) H Q) (A:∀a∈g,p a=ag->∀Q:sy,Q (f a) H->te (ab (k a)::ab (i a)::ab (l a)::rest) H Q) (n:j ((g.filter p).map f) H):
  ab8 (yV 3 (jw (eU 0) (jw (eU 1) (jw (eU 2) yU)))) tt te still j (g.map λa=>.tup [k a,i a,l a]) [] (v::u::w::rest) H:=by
 refine iG (λr s y H'=>∃(d e:List o) (v u w:Option T),y=v::u::w::rest/\r=d.map (λa=>.tup [k a,i a,l a])/\s=(e.filter p).map f/\e++d=g/\H'=H) ⟨g,[],v,u,w,rfl,rfl,rfl,rfl,rfl⟩ ?_ ?_
 .rintro s y H' ⟨d,e,v,u,w,rfl,c,rfl,b,rfl⟩;have h:d=[]:=aaK.mp c.symm;subst h;rw[P_] at b;subst b;exact⟨m,by rw[b_];exact W_ (Zh _ _) C,n⟩
 rintro x r s y H' N ⟨d,e,v,u,w,rfl,c,rfl,b,rfl⟩ z;cases d with
 |nil=>cases c
 |cons t d =>
 injection c with a1 a2;subst a1 a2;refine⟨m,rfl,?_⟩;show tt (ab (k t)::ab (i t)::ab (l t)::rest) H' _;refine B t (by rw[<- b];simp) _ ?_;cases q:p t with
 |true=>rw[aca rfl];refine A t (by rw[<- b];simp) q _ ⟨?_,z _ _ _ ⟨d,e++[t],_,_,_,rfl,rfl,by simp [q],by rw[<- b];simp,rfl⟩⟩;have:=T_ aT b;simp only[a_,i_] at this;rw[b_];have:=Zh p e;omega
 |false =>
 rw[ace B_];exact z _ _ _ ⟨d,e++[t],_,_,_,rfl,rfl,by simp [q],by rw[<- b];simp,rfl⟩
open L2 HT
theorem xH (h:tI (λi v=>∃t,v=dd (0+(i:Int)*1) t) a n):Vals ((af n).map λ(i:Nat)=>V.int (i:Int)) a.toList:=by
 obtain⟨m,g⟩:=h;have c:∀(l:List av) (k:Nat),(∀(j:Nat) (v:av),l[j]?=ab v->∃t,v=dd ((k:Int)+(j:Int)) t)->Vals ((eW k l.length).map λ(i:Nat)=>V.int (i:Int)) l:=λl=>by
  induction l with
  |nil=>intro k _;exact .nil
  |cons v r f =>
  intro k d;rw[i_,List.range'_succ,D_];refine .cons ?_ (f (k+1) λj u b=>?_)
  .obtain⟨t,e⟩:=d 0 v rfl;exact⟨t,by rw[e];congr 1⟩
  obtain⟨t,e⟩:=d (j+1) u (by rw[aa9];exact b);exact⟨t,by rw[e];congr 1;omega⟩
 have:=c a.toList 0 λj v b=>by obtain⟨t,e⟩:=g j v (by rw[<- Zu];exact b);exact⟨t,by rw[e];congr 1;omega⟩
 rw[K_,m,<- List.range_eq_range'] at this;exact this
section
variable {X:Cx}{p1 p2 pos pos':ka}
def Rv (te:TE):TE:=λb H Q=>te b H λx a=>∃n:Nat,x=.int (n:Int)/\n<=1000/\∀l,a l=ae->Q (.ref l) (upd a l (.lst ((af n).map λ(i:Nat)=>V.int (i:Int))))
theorem Fl (E:X.calm=ag) (k:Gl X "list") (j:X.mg "list"=ae) (f:Gl X "range") (r:X.mg "range"=ae) (m:bb "list"=ab (.type "list")) (B:PE X e te) (w:ax [e] X.env=(ah,br e X.env)::ax [] X.env:=by rfl) (l:(bt pos (ax [] X.env)).any (·.1)=ah:=by rfl) (d:(bt pos' (ax [] X.env)).any (·.1)=ah:=by rfl):
  PE X (.Call (.Name "list" p1) [.Call (.Name "range" p2) [e] [] pos'] [] pos) (Rv te):=by
 intro c s v H Q I h;refine ZZ (eQ I k j m ?_ adD adD);refine ZD ?_ rfl l;show aE _ _ (hO ((ah,br (.Call (.Name "range" p2) [e] [] pos') X.env)::bt pos (ax [] X.env))) _ _ s;refine Z4 ?_;refine ZZ (eQ I f r r2 ?_ adD adD);refine ZD ?_ w d;rw[w];show aE _ _ (hO ((ah,br e X.env)::bt pos' (ax [] X.env))) _ _ s;refine Z4 (My (B c s v H _ I h) λu s1 ⟨x,J,z,C,n,G,K,q⟩=>?_);subst G;obtain⟨t,rfl⟩:=C;refine aam ?_;refine call_range_1 ?_;refine aam ?_;have p:Inv X c v J { s1 with heap:=s1.heap.push { cls:=.type "range",data:=.fields #[.int 0 s1.toks,.int (n:Int) t,.int 1 (s1.toks+1)]},toks:=s1.toks+1+1}:=z.kept λb o e=>h_ _ e;have hsz:Builtin.Range.rangeSize 0 (n:Int) 1=((n:Nat):Int):=by rw[sx];split <;> omega
 refine call_list_range (p.ok.hd E) (IsRange.new ..) (small_one adC adC adC adC) hsz adC λh' tk a y F A g=>?_;have D:=xH g;refine⟨.ref _,_,p.laid (t':=tk) (o:=.lst ((af n).map λ(i:Nat)=>V.int (i:Int))) F (m_ _) ⟨by rw[b_,p_];show n<=16777216;omega,a.toList,y,D,?_⟩,rfl,q _ (p.hok.fresh (m_ _))⟩;rw[show a.toList.toArray=a by simp];exact A
def lrq (x:T) (H:eH) (Q:sy):Prop:=match x with
 |.int i=>(0<=i/\i<=1000)/\∀p,H p=ae->Q (.ref p) (aY H p (.lst ((af i.toNat).map λ(k:Nat)=>T.int (k:Int))))
 |_=>False
def zz (te:vy):vy:=λb H Q=>te b H λx a=>lrq x a Q
theorem JQ (te:vy):zz te a H Q=te a H λx b=>lrq x b Q:=rfl
theorem NT (i:Int):lrq (.int i) H Q=((0<=i/\i<=1000)/\∀p,H p=ae->Q (.ref p) (aY H p (.lst ((af i.toNat).map λ(k:Nat)=>T.int (k:Int))))):=rfl
theorem Fo {K:a8} (l:List Nat):fY K H (l.map λ(k:Nat)=>T.int (k:Int)) (l.map λ(k:Nat)=>V.int (k:Int)):=by
 induction l with
 |nil=>exact .nil
 |cons k r a=>exact .cons .ofInt a
theorem Fp (y:X.calm=ag) (d:Gl X "list") (j:X.mg "list"=ae) (c:Gl X "range") (m:X.mg "range"=ae) (p:o4 X e te) (u:ax [e] X.env=(ah,br e X.env)::ax [] X.env:=by rfl) (f:(bt pos (ax [] X.env)).any (·.1)=ah:=by rfl) (a:(bt pos' (ax [] X.env)).any (·.1)=ah:=by rfl):
  o4 X (.Call (.Name "list" p1) [.Call (.Name "range" p2) [e] [] pos'] [] pos) (zz te):=by
 refine PE.imp (Fl y d j c m iZ p u f a) ?_;rintro A H Q ⟨g,H3,z,s,o,h,k⟩;refine⟨g,H3,_,s,o,h,λv H' t x w b r q=>?_⟩;cases t with
 |int i=>rw[NT] at q;rw[r.int];refine⟨i.toNat,by rw[aa2 q.1.1],adC,λl n=>k _ _ _ _ (w.trans (aV n)) (b.newLst n (Fo _)) .ofRef (q.2 l (b.fresh n))⟩
 |_=>exact q.elim
variable {st:Expr}
def Ws (K:a8) (te:TE) (ts:TO):TE:=λc H Q=>te c H λx d=>ts c d λo b=>o=ab (-1)/\∃a xs,x=.ref a/\SqL K b a xs/\∀p,b p=ae->Q (.ref p) (upd b p (.lst xs.reverse))
theorem JR (z:PE X e te) (B:PO X (ab st) ts):PE X (.Subscript e (.Slice ae ae (ab st) p2) pos) (Ws X.K te ts):=by
 intro c s f H Q I h;refine mM (My (z c s f H _ I h) λv D ⟨x,C,l,m,u⟩=>?_);refine wpAny_Slice ?_;rw[mh];refine o_ (o_ (My (B c D f C _ l u) λvs s3 ⟨o,H3,k,ps,t,a,xs,n,y,q⟩=>?_));subst t n;cases m;have g:Inv X c f H3 { s3 with heap:=s3.heap.push { cls:=.type "slice",data:=.fields #[.none,.none,vs]}}:=k.kept (t':=s3.toks) λb p q=>h_ _ q;obtain⟨d,r,i,hz⟩:=g.list y;have j:=r.length;show aE (ay X.prog X.w) X.A (ip e (.Slice ae ae (ab st) p2) (.ref a) (.ref s3.heap.objs.size)) (EP X c f Q) X.xe { s3 with heap:=s3.heap.push { cls:=.type "slice",data:=.fields #[.none,.none,vs]}};refine tJ (T:="list") (ops:=[.ref a,.ref s3.heap.objs.size]) i.isList.typeIs slot_list_getitem.lookup ?_ (by with_unfolding_all rfl);refine im i.isList (Heap.IsSliceOf.new ..) .none .none ps adE ?_ (by rw[z_] <;> omega);rw[PySem.W.krv_pick];refine⟨.ref (s3.heap.push { cls:=.type "slice",data:=.fields #[.none,.none,vs]}).objs.size,_,g.laid (t':=s3.toks) (o:=.lst xs.reverse) (λb p q=>h_ _ q) (m_ _) ?_,rfl,q _ (g.hok.fresh (m_ _))⟩;refine⟨by simpa using hz,d.reverse,0,r.reverse,?_⟩;rw[show d.toArray.toList.reverse.toArray=d.reverse.toArray by simp];exact G_ _ rfl
def rvH (o:Option O3) (H:eH) (Q:sy):Prop:=match o with
 |some (.lst ts)=>∀p,H p=ae->Q (.ref p) (aY H p (.lst ts.reverse))
 |_=>False
def rvq (x:T) (o:Option Int) (H:eH) (Q:sy):Prop:=match x with
 |.ref a=>o=ab (-1)/\rvH (H a) H Q
 |_=>False
def Fq (te:vy) (ts:TO3):vy:=λa H Q=>te a H λx c=>ts a c λo b=>rvq x o b Q
theorem Rx (te:vy) (ts:TO3):Fq te ts a H Q=te a H λx c=>ts a c λo b=>rvq x o b Q:=rfl
theorem Wu (a:am) (o:Option Int):rvq (.ref a) o H Q=(o=ab (-1)/\rvH (H a) H Q):=rfl
theorem Wv (ts:List T):rvH (ab (.lst ts)) H Q=∀p,H p=ae->Q (.ref p) (aY H p (.lst ts.reverse)):=rfl
theorem zA (z:o4 X e te) (A:PO3 X (ab st) ts):o4 X (.Subscript e (.Slice ae ae (ab st) p2) pos) (Fq te ts):=by
 refine PE.imp (JR z A) ?_;rintro C H Q ⟨d,H3,D,n,s,h,k⟩;refine⟨d,H3,_,n,s,h,λx E u l f j t y=>⟨d,l,_,n.mono f,j,y,λo B m i c b=>?_⟩⟩;cases u with
 |ref a =>
  obtain⟨w,b⟩:=b;cases e:m a with
  |none=>rw[e] at b;exact b.elim
  |some v =>
  rw[e] at b;cases v with
  |lst ts=>obtain⟨xs,q,r⟩:=c.sqL (.inl e);refine⟨w,a,xs,t.ref,q,λp g=>k _ _ _ _ (f.trans (i.trans (aV g))) (c.newLst g r.reverse) .ofRef (b p (c.fresh g))⟩
  |rol ts=>exact b.elim
  |dct ts=>exact b.elim
  |dcp ts=>exact b.elim
  |exc _ _=>exact b.elim
  |xdt _=>exact b.elim
  |dci _=>exact b.elim
  |dif _ _=>exact b.elim
  |ins _ _=>exact b.elim
 |_=>exact b.elim
def isN:T->Bool
 |.non=>ag
 |_=>ah
def Ww:R3:=λx y H Q=>match y with
 |.non=>Q (.bl (isN x)) H
 |_=>False
theorem Y8 (x:T) (H:eH) (Q:sy):Ww x .non H Q=Q (.bl (isN x)) H:=rfl
theorem JS:isN .non=ag:=rfl
theorem JT (i:Int):isN (.int i)=ah:=rfl
theorem JV (x:ai):isN (.str x)=ah:=rfl
theorem JW (ts:List T):isN (.tup ts)=ah:=rfl
theorem Ry (b:Bool):isN (.bl b)=ah:=rfl
theorem qC:dj X (be .Is) Ww:=by
 refine OpR.imp Qj ?_;rintro x y H Q ⟨c,ty,H3,g,b,f,d,h,k⟩;cases ty with
 |non =>
  refine⟨f.non,?_⟩;have e:decide (x=.non)=isN c:=by
   cases c with
   |non=>rw[b.non];rfl
   |int i=>rw[b.int];rfl
   |str i=>rw[b.str];rfl
   |bl i=>rw[b.bl];rfl
   |ref a=>rw[b.ref];rfl
   |tup ts=>obtain⟨a,vs,rfl,_⟩:=b.tup;rfl
   |ty n=>rw[b.ty];rfl
  rw[e];exact k _ _ _ _ .refl d .ofBl h
 |_=>exact h.elim
end
end L3
open L3.T renaming int→v0,str→v1,tup→v2,ref→wa
namespace L2
end L2
namespace L3
open L2
def orq (x:T) (p q:Prop):Prop:=match x with
 |.non=>p
 |.tup (_::_)=>q
 |_=>False
def Wx (c d:vy):vy:=λb H Q=>c b H λx a=>orq x (d b a Q) (Q x a)
theorem Rz:dj X (bp .RShift) (rI3 (λ_ j=>0<=j) λi j=>.int (i / 2^j.toNat)):=uC Qg λ_ _ _=>.ofInt
end L3
namespace L2
end L2
namespace L3
open L2
section
variable {X:Cx}
def Ft:R3:=λx y H Q=>match x,y with
 |.non,.non=>Q (.bl ah) H
 |_,_=>False
theorem RC (H:eH) (Q:sy):Ft .non .non H Q=Q (.bl ah) H:=rfl
theorem JX:OpR X (be .IsNot) (λx y H Q=>x=.non/\y=.non/\Q (.bl ah) H):=by
 intro a s d H x y v u Q I b c h;obtain⟨rfl,rfl,q⟩:=h;cases b;cases c;exact wpAny_isNot_plain rfl (mV I q rfl)
theorem BR:dj X (be .IsNot) Ft:=by
 refine OpR.imp JX ?_;rintro x y H Q ⟨d,a,H3,f,c,e,b,h,k⟩;cases d with
 |non=>cases a with
  |non=>exact⟨c.non,e.non,k _ _ _ _ .refl b .ofBl h⟩
  |_=>exact h.elim
 |_=>exact h.elim
variable {pins:List (am × dL)}{σ:L2.St}
theorem Inv.freeze (I:Inv X pins σ H s) (e:H a=ab (.dK kvs)):∃o,s.heap.get? a=ab o/\Inv X pins σ (upd H a (.frz o (.dK kvs))) s:=by
 have z:=I.hok a _ e;obtain⟨k,i,vs,g,o,m,ep,f,l,r⟩:=id (show xr X.prog X.w H s.heap a (.dK kvs) from z);have d:∀b u,H b=ab u->(∀j,u≠.dK j)->b≠a:=λb u q n w=>by subst w;rw[e] at q;cases q;exact n _ rfl
 refine⟨o,f,?_⟩;have:=I.step (h':=s.heap) (g':=s.gens) (d':=s.drawn) (t':=s.toks) (H':=upd H a (.frz o (.dK kvs))) (ch:=[]) (λ_ z=>nomatch z) (λb o _ _ _ q _=>q) (λb o _ _ _ q _=>⟨_,q⟩)
  (λb o _ _ n=>by rw[bu (λw=>by subst w;rw[e] at n;cases n)];exact n) (λb o _ q=>⟨_,q⟩)
  (λb xs q=>by rw[bu (d b _ q λ_=>nofun)];exact q) (λb o u q=>by rw[bu (d b _ q λ_=>nofun)];exact q)
  (λb ps q=>⟨#[],by rw[bu (d b _ q λ_=>nofun),Array.append_empty];exact q⟩) (λ_ q=>q) (λb u q=>?_) I.bare
 .exact this
 by_cases h:b=a
 .subst h;rw[cu] at q;cases q;exact⟨f,k,i,vs,g,o,m,ep,f,l,r⟩
 rw[bu h] at q;exact (I.hok b u q).stay (λ_ _ _ r=>r) (λc r=>by rw[bu (d c _ r λ_=>nofun)];exact r) λc xs r=>by rw[bu (d c _ r λ_=>nofun)];exact r
end
theorem Wz (h:(bV P w).is k u=ag):RelV (kV k) u:=by
 rcases b8 h with ⟨i,t,b,a⟩ | ⟨y,t,b,a⟩
 .subst b a;exact⟨t,rfl⟩
 subst b a;exact⟨t,rfl⟩
theorem jB:∀{c:List d}{a:List f}{i:Nat}{x:d},gg F c a->c[i]?=ab x->∃y,a[i]?=ab y/\F x y
 |_,_,i,x,.nil,e=>by simp at e
 |_,_,0,x,.cons (b:=b) h t,e=>by simp at e;subst e;exact⟨b,rfl,h⟩
 |_,_,i+1,x,.cons h t,e=>by simpa using jB t (by simpa using e)
def Iti (d:am) (o:dL):It :=
 ⟨λi H=>∃kvs a,H d=ab (.frz o (.dK kvs))/\kvs[i]?=ab a,
  λi H v H'=>∃p k x,v=.ref p/\H p=ae/\H'=upd H p (.tup [kV k,x])/\∀kvs,H d=ab (.frz o (.dK kvs))->kvs[i]?=ab (k,x),
  λi H=>∃kvs,H d=ab (.frz o (.dK kvs))/\kvs.length<=i⟩
theorem BV:rX table "dict_itemiterator.__iter__"=ab er.«dict_keyiterator.__iter__» :=
 kR (id':="dict_keyiterator.__iter__") adz rfl adx adz
theorem Fv {k:L2.St} (I:Inv X a k H s) (e:H d=ab (.frz o (.dK kvs))) (h:o.data=.dict f ep):
  ∃vs,KV kvs vs/\s.heap.DictAt (bV X.prog X.w) d vs ep/\vs.length=f.size:=by
 obtain⟨i,_,_,vs,g,q,es',m,c,n,b,p,j,l⟩:=(show xr X.prog X.w H s.heap d (.frz o (.dK kvs)) from I.hok d _ e);rw[i] at c;cases c;rw[h] at b;cases b;exact⟨vs,g,⟨o,f,i,n,h,p,j,l⟩,by rw[<- j.length];simp⟩
theorem xJ {K:a8} (d it:am) (o:dL) (es:Array l5) (ep:Nat) (Z:o.data=.dict es ep):
  Turn P w K (.Tuple p x1 Y) (Iti d o) [it] it (λi h=>∃m l,IsItemIter h it d i es.size ep m l) where
 mem:=k_
 obj:=λi h st c f=>by
  obtain⟨m,l,g⟩:=st
  rw[e_.mp f]
  exact⟨_,g,λv z=>by cases z⟩
 keep:=λi h h' st k=>by
  obtain⟨m,l,g⟩:=st
  exact⟨m,l,k it adE _ g⟩
 item:=by
  intro X T O N f i j s S H E I G st R
  subst T O N
  obtain⟨kvs,⟨k,x⟩,M,W⟩:=R
  obtain⟨m,l,g⟩:=st
  obtain⟨vs,n,U,a⟩:=Fv I M Z
  obtain⟨⟨k',u⟩,hu,ek,ru⟩:∃q,vs[i]?=ab q/\k=q.1/\RelV x q.2:=jB n W
  subst ek
  rw[<- a] at g
  refine wpAny_pyNext_items_item g U hu λe h' hk ho B hsz kp=>?_
  refine⟨_,rfl,wpAny_letOwnedTupleGo_items ho λr D sb=>?_⟩
  have lt:∀{c o},s.heap.get? c=ab o->s.heap.objs.size≠c:=λq=>kb (L_ q)
  have J:s.heap.objs.size≠it:=lt g
  have C:∀{c:am},c∈[it]->c≠s.heap.objs.size:=λ{c} f=>by rw[e_.mp f];exact a6 J
  have V:∀c o,c∉[it]->s.heap.get? c=ab o->r.get? c=ab o:=λc o L q=>(sb.2 c λz=>L (z▸k_)).trans (kp c o (λz=>L (z▸k_)) q)
  have I1:Inv X j S (upd H s.heap.objs.size (.tup [kV k,x])) { s with heap:=s.heap.push { cls:=.type "tuple",data:=.seq #[e,u]},toks:=s.toks} :=
   I.laid (t':=s.toks) (λb o q=>h_ _ q) (m_ _) (show xr X.prog X.w _ _ _ (.tup [kV k,x]) from ⟨by show 2<=ap;decide,[e,u],.cons (Wz hk) (.cons ru .nil),adA.new _ _⟩)
  have I2:Inv X j S (upd H s.heap.objs.size (.tup [kV k,x])) { s with heap:=r}:=zr (s:={ s with heap:=s.heap.push { cls:=.type "tuple",data:=.seq #[e,u]}}) (ch:=[it]) (t':=s.toks) I1 (λc o L q=>by
   by_cases z:c=s.heap.objs.size
   ·
    subst z
    have t:(s.heap.push { cls:=.type "tuple",data:=.seq #[e,u]}).get? s.heap.objs.size=ab o:=q
    rw[G_ _ rfl] at t
    cases t
    exact (sb.2 _ J).trans B
   ·
    have t:(s.heap.push { cls:=.type "tuple",data:=.seq #[e,u]}).get? c=ab o:=q
    rw[Heap.get?_push_ne _ _ _ z] at t
    exact V c o L t) λc f=>⟨by rw[bu (C f)];exact (G c f).1,(G c f).2⟩
  refine⟨.ref s.heap.objs.size,_,I2,rfl,⟨s.heap.objs.size,k,x,rfl,I.hok.fresh (m_ _),rfl,λzs y=>by rw[M] at y;cases y;exact W⟩,⟨e,u,?_⟩,λc f=>by rw[bu (C f)];exact (G c f).1⟩
  rw[<- a]
  exact D
 done:=by
  intro X T O N f i j s S H E I G st R
  subst T O N
  obtain⟨kvs,M,W⟩:=R
  obtain⟨m,l,g⟩:=st
  obtain⟨vs,n,U,a⟩:=Fv I M Z
  have hl:=n.length
  rw[<- a] at g
  exact wpAny_pyNext_items_end (I.ok.hd f) g U (Zf adC) λh' eb=>⟨rfl,zr (ch:=[it]) (t':=s.toks) I (λb o nb q=>eb b o (λz=>nb (by simp [z])) q) G⟩
 self:=λA i s Q E st h=>by
  obtain⟨m,l,g⟩:=st
  have B:s.TypeIs (.ref it) "dict_itemiterator":=⟨_,g,rfl⟩
  refine hG B eI (aaN eI B BV ?_ (PySem.F.args_dict_itemiterator_iter_1 _))
  show aE _ _ (ret (.ref it)) _ _ s
  exact o_ ⟨_,rfl,"dict_itemiterator",_,B,PySem.F.slot_dict_itemiterator_next.lookup,h⟩
section
variable {elts:List Expr}{x1:Nat}{tpos pos apos cpos:ka}
def RD (te:TE):TI:=λc H R=>te c H λx b=>∃a kvs,x=.ref a/\b a=ab (.dK kvs)/\∀o,R (Iti a o) (upd b a (.frz o (.dK kvs)))
theorem Fw (N:PE X e te) (g:cq e "items" X.env (br e X.env)=br e X.env:=by rfl) (i:(apos.endLine==cpos.line)=ag:=by rfl):
  PI X (.Tuple elts x1 tpos) (.Call (.Attribute e "items" apos) [] [] cpos) (RD te):=by
 intro f s u H R I h;refine iF g i (My (N f s u H _ I h) λv s1 ⟨x,P,n,D,a,kvs,L,r,q⟩=>?_);subst L;cases D;obtain⟨z,k,vs,E,B⟩:=yJ n.hok r;obtain⟨o,A,O⟩:=Inv.freeze n r;obtain⟨y,M,_⟩:=Dk n (a:=a) (.inl ⟨kvs,.inl r⟩);refine⟨"dict","dict.items",i3,iX,PySem.F.type_dict_items,y,M,abi rfl (l6 (call_meetsIn iX y PySem.F.entry_dict_items (PySem.F.args_dict_items_1 _) (meets_dict_items (bV X.prog X.w) a k) ⟨⟨vs,B⟩,?_⟩))⟩;obtain⟨Q,p,ep,j,G,l,K,t,C⟩:=id B;rw[A] at j;cases j;have hsz:p.size=vs.length:=by rw[<- t.length];simp
 have m:Inv X f u (upd P a (.frz o (.dK kvs))) { s1 with heap:=s1.heap.push { cls:=.type "dict_items",data:=.fields #[.ref a]}}:=O.kept (t':=s1.toks) λb o q=>h_ _ q;refine wpAny_pyIter_items (knd:=bV X.prog X.w) (d:=a) (kvs:=vs) (ep:=ep) ⟨_,G_ _ rfl,rfl,rfl⟩ ⟨o,p,h_ _ A,G,l,K,t,C⟩ ?_;refine⟨_,[_],_,Iti a o,_,rfl,m.kept (t':=s1.toks) λb o q=>h_ _ q,xJ a _ o p ep l,⟨.none,.none,?_⟩,λc J=>?_,q o⟩
 .rw[hsz];exact G_ _ rfl
 rw[e_.mp J];exact m.fpOk (m_ _) (m.hok.fresh (m_ _))
def WD (d e f:TE):TE:=λb H Q=>d b H λx c=>∃a,x=.ref a/\IsD c a/\e b c λy g=>f b g λz H3=>∃kvs k,H3 a=ab (.dK kvs)/\y=kV k/\kvs.length<ap /\
 (∀v,fJ kvs k=ab v->Q v H3)/\(fJ kvs k=ae->Q z (upd H3 a (.dK (putK kvs k z))))
theorem JZ (S:PE X o td) (r:PE X e ty) (W:PE X f tx) (m:M2 X o "setdefault" apos e f cpos):PE X (.Call (.Attribute o "setdefault" apos) [e,f] [] cpos) (WD td ty tx):=by
 intro c s p H Q I h;refine wpAny_Call_method m.base m.few m.line i3 fA PySem.F.type_dict_setdefault (My (S c s p H _ I h) λu O ⟨x,H1,B,G,a,U,d,q1⟩=>?_);subst U;obtain rfl:u=bg a:=G;obtain⟨R,Z,_⟩:=Dk B d;refine⟨R,Z,?_⟩;rw[m.trees];refine abi rfl (lb (Z4 (My (r c O p H1 _ B q1) λiv J ⟨y,P,I2,T,q2⟩ =>
  Z4 (My (W c J p P _ I2 q2) λL s3 ⟨z,H3,n,A,kvs,k,E,V,l,q3,M⟩=>aam ?_))))
 subst V;obtain⟨Y,t,vs,g,C⟩:=yJ n.hok E;have i:=g.val k;refine call_meetsIn fA C.typeIs PySem.F.entry_dict_setdefault (PySem.F.args_dict_setdefault_3 _ _ _) (kt_meets_setdefault (bV X.prog X.w) a (mZ T) t L) ⟨vs,C,by rw[<- g.length];exact Y,λv D=>?_,λN h' j hs=>?_⟩
 .cases b:fJ kvs k with
  |none=>rw[b,D] at i;exact (show False from i).elim
  |some w =>
  rw[b,D] at i;exact⟨w,H3,n.tok _,i,q3 w b⟩
 have b:fJ kvs k=ae:=by
  cases b:fJ kvs k with
  |none=>rfl
  |some w=>rw[b,N] at i;exact (show False from i).elim
 have r:∃q,h'.get? a=ab q:=let ⟨q,_,_,hq,_⟩:=j;⟨q,hq⟩;have K:(putK kvs k z).length<=ap:=by have:=fZ kvs k z;omega
 exact⟨z,_,my n (by rw[E];exact ci) hs r (wV K t (g.put k A) j),A,M b⟩
end
def dq (k:Int):List (Int × T)->Option T
 |[]=>ae
 | (k',v)::r=>if k'=k then ab v else dq k r
def pK (k:Int) (v:T) (kvs:List (Int × T)):List (Int × T) :=
 if (kvs.any λa=>decide (a.1=k))=ag then kvs.map (λa=>if a.1=k then (a.1,v) else a) else kvs++[(k,v)]
theorem jc {K:a8}:∀{kvs:List (Int × T)}{vs:List (Key × V)}{t:T},ada K H kvs vs->dq k kvs=ab t->∃v,fJ vs (ce k:Key)=ab v/\Rep K H t v
 |[],_,_,_,e=>by cases e
 | (k',t')::r,_,t,.cons (b:=(kk,v')) ⟨e1,rv⟩ rr,e=>by
  simp only at e1 rv
  subst e1
  unfold dq at e
  by_cases a:k'=k
  ·
   rw[aca a] at e
   cases e
   exact⟨v',by rw[fK (by rw[a])],rv⟩
  ·
   rw[ace a] at e
   obtain⟨v,c,q⟩:=jc rr e
   exact⟨v,by rw[fL (by intro z;exact a (kX z))];exact c,q⟩
theorem gY {K:a8}:∀{kvs:List (Int × T)}{vs:List (Key × V)},ada K H kvs vs->(fJ vs (ce k:Key)).isSome=(dq k kvs).isSome
 |[],_,.nil=>rfl
 | (k',t')::r,_,.cons (b:=(kk,v')) ⟨e1,rv⟩ rr=>by
  simp only at e1 rv
  subst e1
  unfold dq
  by_cases a:k'=k
  ·
   rw[aca a,fK (by rw[a])];rfl
  ·
   rw[ace a,fL (by intro z;exact a (kX z))]
   exact gY rr
theorem uY {K:a8} (i:Rep K H t v) (r:ada K H kvs vs):ada K H (pK k t kvs) (putK vs (ce k:Key) v):=by
 have e:∀{kvs:List (Int × T)} {vs:List (Key × V)},ada K H kvs vs->(kvs.any λa=>decide (a.1=k))=(vs.any λa=>decide (a.1=(ce k:Key)))/\ada K H (kvs.map (λa=>if a.1=k then (a.1,t) else a)) (vs.map (λa=>if a.1=(ce k:Key) then (a.1,v) else a)):=by
  intro kvs;induction kvs with
  |nil=>intro vs r;cases r;exact⟨rfl,.nil⟩
  |cons p l m =>
  intro vs r;cases r with
  |cons q n =>
  rename_i b s;obtain⟨g,f⟩:=m n;obtain⟨h,j⟩:=q;obtain⟨u,o⟩:=b;simp only at h j;subst h;by_cases d:p.1=k
  .refine⟨by simp [d],?_⟩;simp only[D_,d,if_true];exact .cons ⟨rfl,i⟩ f
  have c:¬(ce p.1:Key)=ce k:=λz=>d (kX z);refine⟨by simp only[abM,d,c,aas,mo];exact g,?_⟩;simp only[D_,d,c,Zj];exact .cons ⟨rfl,j⟩ f
 obtain⟨g,f⟩:=e r;unfold pK putK;rw[g];split
 .exact f
 exact k5 r ⟨rfl,i⟩
section
variable {K:a8}
theorem mz.wrI (s:mz K H3 H) (h:H a=ab (.dK g)) (r:ada K H kvs c):mz K (aY H3 a (.dci kvs)) (upd H a (.dK c)):=λb o e=>by
 have f:jj K H (upd H a (.dK c)):=bN (by rw[h];exact trivial);by_cases d:b=a
 .subst d;rw[aA] at e;cases e;exact⟨c,cu,r.mono f⟩
 rw[aD d] at e;exact (s b o e).stay f λu q=>by rw[bu d];exact q
theorem mz.newI (s:mz K H3 H) (c:H p=ae):mz K (aY H3 p (.dci [])) (upd H p (.dK [])):=λa o e=>by
 by_cases b:a=p
 .subst b;rw[aA] at e;cases e;exact⟨[],cu,.nil⟩
 rw[aD b] at e;exact s.new c a o e
theorem mz.frzI (s:mz K H3 H) (g:H a=ab (.dK c)) (r:ada K H kvs c):mz K (aY H3 a (.dif o kvs)) (upd H a (.frz o (.dK c))):=λb u e=>by
 have f:jj K H (upd H a (.frz o (.dK c))):=bN (by rw[g];exact trivial);by_cases d:b=a
 .subst d;rw[aA] at e;cases e;exact⟨c,cu,r.mono f⟩
 rw[aD d] at e;exact (s b u e).stay f λu q=>by rw[bu d];exact q
end
section
variable {X:Cx}{pos pos' apos cpos tpos:ka}{elts:List Expr}{x1:Nat}
def zB:vy:=λ_ H Q=>∀p,H p=ae->Q (.ref p) (aY H p (.dci []))
theorem uZ:o4 X (.Dict [] [] pos) zB:=by
 refine PE.imp um ?_;rintro f H Q ⟨c,H3,d,e,b,h,k⟩ p a;exact k _ _ _ _ (aV a) (b.newI a) .ofRef (h p (b.fresh a))
def d1i (y:T) (p:am) (v:T) (H:eH) (Q:sy):Prop:=match y with
 |.int k=>H p=ab (.dci [])/\Q (.ref p) (aY H p (.dci [(k,v)]))
 |_=>False
def jN (tk b:vy):vy:=λa H Q=>∀p,H p=ae->tk a (aY H p (.dci [])) λy c=>b a c λv d=>d1i y p v d Q
theorem WF (x:Int) (p:am) (v:T):d1i (.int x) p v H Q=(H p=ab (.dci [])/\Q (.ref p) (aY H p (.dci [(x,v)]))):=rfl
theorem qD (B:o4 X k tk) (x:o4 X v tv):o4 X (.Dict [ab k] [v] pos) (jN tk tv):=by
 refine PE.imp (yN (uo B x yM) rfl rfl adE (by show 1<=15;decide)) ?_;rintro F H Q ⟨d,H3,D,q,o,h,k⟩ p j;have b:jj X.K H (upd H p (.dK [])):=aV j;refine⟨d,aY H3 p (.dci []),_,q.mono b,o.newI j,h p (o.fresh j),λy G w m g l A C=>?_⟩;refine⟨d,m,_,q.mono (b.trans g),l,C,λz E u i c f t s=>?_⟩;cases w with
 |int a =>
  have h':i p=ab (.dci [])/\D (.ref p) (aY i p (.dci [(a,u)])):=s
  obtain⟨ws,n,r⟩:=f p _ h'.1
  cases r
  refine⟨n,[(ce a,z)],by rw[(A.mono c).int];rfl,by show 1<=15;decide,?_⟩
  have e:jt [] [((ce a:Key),z)]=[((ce a:Key),z)]:=rfl
  rw[e]
  exact k _ _ _ _ (b.trans (g.trans (c.trans (bN (by rw[n];exact trivial))))) (f.wrI n (.cons ⟨rfl,t⟩ .nil)) .ofRef h'.2
 |_=>exact s.elim
def dgI (o:Option O3) (k:Int) (H:eH) (Q:sy):Prop:=match o with
 |some (.dci kvs)=>oq (dq k kvs) λt=>Q t H
 |some (.dif _ kvs)=>oq (dq k kvs) λt=>Q t H
 |_=>False
def WK:R3:=λx y H Q=>match x,y with
 |.ref a,.int k=>dgI (H a) k H Q
 |_,_=>False
theorem Y9 (a:am) (k:Int):WK (.ref a) (.int k) H Q=dgI (H a) k H Q:=rfl
theorem NZ (kvs:List (Int × T)) (k:Int):dgI (ab (.dci kvs)) k H Q=oq (dq k kvs) λt=>Q t H:=rfl
theorem Fx (o:dL) (kvs:List (Int × T)) (k:Int):dgI (ab (.dif o kvs)) k H Q=oq (dq k kvs) λt=>Q t H:=rfl
theorem nM (F:X.A.units+1<cK) (I:o4 X o z) (E:o4 X i ti) (N:Jd i:=by exact λ_ _=>rfl):o4 X (.Subscript o i pos) (ut WK z ti):=by
 refine PE.imp (yK F I E N) ?_;rintro R H Q ⟨l,H3,M,C,D,h,k⟩;refine⟨l,H3,_,C,D,h,λx S J p f n w L=>⟨l,p,_,C.mono f,n,L,λy P G g j c B u=>?_⟩⟩;cases J with
 |ref a =>
  cases G with
  |int b =>
   have h':dgI (g a) b g M:=u
   cases e:g a with
   |none=>rw[e] at h';exact h'.elim
   |some K =>
    rw[e] at h'
    cases K with
    |dci kvs =>
     rw[NZ] at h'
     obtain⟨vs,q,r⟩:=c a _ e
     cases d:dq b kvs with
     |none=>rw[d] at h';exact h'.elim
     |some t =>
      rw[d] at h'
      obtain⟨v,s,m⟩:=jc r d
      refine⟨a,v,w.ref,?_,k.at (f.trans j) _ _ _ _ .refl c m h'⟩
      rw[B.int,<- s]
      exact acR.k (k:=ce b) q
    |dif O kvs =>
     rw[Fx] at h'
     obtain⟨vs,q,r⟩:=c a _ e
     cases d:dq b kvs with
     |none=>rw[d] at h';exact h'.elim
     |some t =>
      rw[d] at h'
      obtain⟨v,s,m⟩:=jc r d
      refine⟨a,v,w.ref,?_,k.at (f.trans j) _ _ _ _ .refl c m h'⟩
      rw[B.int,<- s]
      exact .inl ⟨vs,ce b,.inr ⟨_,q⟩,rfl,rfl⟩
    |_=>exact h'.elim
  |_=>exact u.elim
 |_=>exact u.elim
def dpI (x y v:T) (H:eH) (Q:eH->Prop):Prop:=match x,y with
 |.ref a,.int k=>match H a with
  |some (.dci kvs)=>kvs.length<ap/\Q (aY H a (.dci (pK k v kvs)))
  |_=>False
 |_,_=>False
def RJ (o:Option O3) (a:am) (k:Int) (v:T) (H:eH) (Q:eH->Prop):Prop:=match o with
 |some (.dci kvs)=>kvs.length<ap/\Q (aY H a (.dci (pK k v kvs)))
 |_=>False
def zE (b c d:vy):TS3:=λD a H=>d a H λv g=>b a g λx f=>c a f λy H3=>dpI x y v H3 λe=>D.nx a e
theorem WL (a:am) (k:Int) (v:T) (Q:eH->Prop):dpI (.ref a) (.int k) v H Q=RJ (H a) a k v H Q:=rfl
theorem Fy (kvs:List (Int × T)) (a:am) (k:Int) (v:T) (Q:eH->Prop):RJ (ab (.dci kvs)) a k v H Q=(kvs.length<ap/\Q (aY H a (.dci (pK k v kvs)))):=rfl
theorem Fz (J:X.A.units+1<cK) (N:o4 X o td) (I:o4 X i z) (O:o4 X value B) (U:dt value (ab (.Subscript o i pos')) pos.line X.env=a5 ah:=by rfl) :
  PS3 X (.Assign [.Subscript o i pos'] value pos) (zE td z B):=by
 refine PS.imp (yL J N I O U) ?_;rintro D Y H ⟨c,H3,L,n,F,h,R,_⟩;refine⟨c,H3,_,n,F,h,λv Z B u d s M T=>⟨c,u,_,n.mono d,s,T,λx W P E b t G V=>⟨c,E,_,n.mono (d.trans b),t,V,λy p z g f l Q q=>?_⟩⟩⟩;cases P with
 |ref a =>
  cases z with
  |int j =>
   have h':RJ (g a) a j B g λp=>L.nx c p:=q
   cases e:g a with
   |none=>rw[e] at h';exact h'.elim
   |some S =>
    rw[e] at h'
    cases S with
    |dci kvs =>
     rw[Fy] at h'
     obtain⟨vs,C,r⟩:=l a _ e
     have w:=M.mono (b.trans f)
     have m:jj X.K p (upd p a (.dK (putK vs (ce j:Key) v))):=bN (by rw[C];exact trivial)
     refine⟨a,_,(G.mono f).ref,?_,R _ _ _ _ (d.trans (b.trans (f.trans m))) (n.mono (d.trans (b.trans (f.trans m)))) (l.wrI C (uY w r)) h'.2⟩
     rw[Q.int]
     exact adN.k (k:=ce j) C (by rw[<- aaZ r];exact h'.1)
    |_=>exact h'.elim
  |_=>exact q.elim
 |_=>exact q.elim
def diI (a:Bool) (y:T) (o:Option O3) (H:eH) (Q:sy):Prop:=match y,o with
 |.int k,ab (.dci kvs)=>Q (.bl (if a then !(dq k kvs).isSome else (dq k kvs).isSome)) H
 |_,_=>False
def RK (b:Bool) (y x:T) (H:eH) (Q:sy):Prop:=match x with
 |.ref a=>diI b y (H a) H Q
 |_=>False
def FJ (a:Bool) (d c:vy):vy:=λb H Q=>d b H λy f=>c b f λx e=>RK a y x e Q
theorem RL (b:Bool) (y:T) (a:am):RK b y (.ref a) H Q=diI b y (H a) H Q:=rfl
theorem WM (a:Bool) (k:Int) (kvs:List (Int × T)):diI a (.int k) (ab (.dci kvs)) H Q=Q (.bl (if a then !(dq k kvs).isSome else (dq k kvs).isSome)) H:=rfl
theorem FN {H:Hp}{f:sy} (j:mz X.K H3 H) (l:Rep X.K H h x) (m:Rep X.K H d y) (q:RK c d h H3 f):
  ∃a g b,x=.ref a/\acR H a y g/\(if c then !g.isSome else g.isSome)=b/\f (.bl b) H3:=by
 cases h with
 |ref a =>
  have h':diI c d (H3 a) H3 f:=q
  cases d with
  |int k =>
   cases e:H3 a with
   |none=>rw[e] at h';exact h'.elim
   |some i =>
    rw[e] at h'
    cases i with
    |dci kvs =>
     obtain⟨ws,n,r⟩:=j a _ e
     refine⟨a,fJ ws (ce k:Key),_,l.ref,by rw[m.int];exact acR.k (k:=ce k) n,rfl,?_⟩
     rw[gY r]
     exact h'
    |_=>exact h'.elim
  |_=>exact h'.elim
 |_=>exact q.elim
theorem jC (u:X.A.units+1<cK) (t:o4 X i ti) (v:o4 X o td) (w:ca .NotIn o=ah:=by rfl):PT3 X (.Compare i [.NotIn] [o] pos) (kE (FJ ag ti td)):=by
 refine PT.imp (wD (ql u t v) w) ?_;rintro G H Q ⟨d,H3,K,p,r,h,k⟩;refine⟨d,H3,_,p,r,h,λy L I m j l z C=>⟨d,m,_,p.mono j,l,C,λx F J D c f s E=>?_⟩⟩;obtain⟨a,n,b,e,g,B,q⟩:=FN f s (z.mono c) E;exact⟨a,n,e,g,by rw[show (!n.isSome)=b from B];exact⟨b,rfl,k _ _ _ (j.trans c) f q⟩⟩
def sdO (o:Option O3) (a:am) (k:Int) (v:T) (H:eH) (Q:sy):Prop:=match o with
 |some (.dci kvs)=>kvs.length<ap/\match dq k kvs with
  |some t=>Q t H
  |none=>Q v (aY H a (.dci (pK k v kvs)))
 |_=>False
def sdq (x y v:T) (H:eH) (Q:sy):Prop:=match x,y with
 |.ref a,.int k=>sdO (H a) a k v H Q
 |_,_=>False
def RM (o:Option O3):Prop:=match o with
 |some (.dci _)=>True
 |_=>False
def WN (x:T) (H:eH):Prop:=match x with
 |.ref a=>RM (H a)
 |_=>False
def FP (c d e:vy):vy:=λa H Q=>c a H λx b=>WN x b/\d a b λy f=>e a f λv H3=>sdq x y v H3 Q
theorem xK (a:am):WN (.ref a) H=RM (H a):=rfl
theorem RN (kvs:List (Int × T)):RM (ab (.dci kvs))=True:=rfl
theorem N5 (a:am) (k:Int) (v:T):sdq (.ref a) (.int k) v H Q=sdO (H a) a k v H Q:=rfl
theorem N6 (kvs:List (Int × T)) (a:am) (k:Int) (v:T):sdO (ab (.dci kvs)) a k v H Q=(kvs.length<ap/\match dq k kvs with
  |some t=>Q t H
  |none=>Q v (aY H a (.dci (pK k v kvs)))):=rfl
theorem J0 (Z:o4 X o td) (he:o4 X e E) (hf:o4 X f tv) (m:M2 X o "setdefault" apos e f cpos:=by exact⟨rfl,rfl,rfl,rfl⟩):o4 X (.Call (.Attribute o "setdefault" apos) [e,f] [] cpos) (FP td E tv):=by
 refine PE.imp (JZ Z he hf m) ?_;rintro σ H Q ⟨d,H3,Q3,G,U,h,k⟩;refine⟨d,H3,_,G,U,h,λx H1 tx p i n V J=>?_⟩;obtain⟨q,J⟩:=J;cases tx with
 |ref a =>
  cases B:p a with
  |none=>rw[xK,B] at q;exact q.elim
  |some I =>
  rw[xK,B] at q;cases I with
  |dci O =>
   obtain⟨M,D,_⟩:=n a _ B;refine⟨a,V.ref,.inl ⟨M,.inl D⟩,d,p,_,G.mono i,n,J,λy H2 E L l C ry q2=>⟨d,L,_,G.mono (i.trans l),C,q2,λz T tz A s g N c=>?_⟩⟩;cases E with
   |int b =>
    rw[N5] at c;cases e:A a with
    |none=>rw[e] at c;exact c.elim
    |some I =>
    rw[e] at c;cases I with
    |dci kvs =>
     rw[N6] at c;obtain⟨vs,F,r⟩:=g a _ e;have R:=i.trans (l.trans s);refine⟨vs,ce b,F,(ry.mono s).int,by rw[<- aaZ r];exact c.1,λv P=>?_,λY=>?_⟩
     .have w:=gY (k:=b) r;cases j:dq b kvs with
      |none=>rw[j,P] at w;cases w
      |some t =>
      rw[j] at c;obtain⟨v',S,W⟩:=jc r j;rw[P] at S;cases S;exact k _ _ _ _ R g W c.2
     have w:=gY (k:=b) r;cases j:dq b kvs with
     |some t=>rw[j,Y] at w;cases w
     |none =>
     rw[j] at c;have u:jj X.K T (upd T a (.dK (putK vs (ce b:Key) z))):=bN (by rw[F];exact trivial);exact k _ _ _ _ (R.trans u) (g.wrI F (uY N r)) (N.mono u) c.2
    |_=>exact c.elim
   |_=>exact c.elim
  |_=>exact q.elim
 |_=>exact q.elim
def itT (a:Int × T):T:=.tup [.int a.1,a.2]
def xM (a:am) (o:dL) (kvs:List (Int × T)):eH->Prop:=λH=>H a=ab (.dif o kvs)
def itO (u:Option O3) (a:am) (H:eH) (R:List T->(eH->Prop)->eH->Prop):Prop:=match u with
 |some (.dci kvs)=>∀o,R (kvs.map itT) (xM a o kvs) (aY H a (.dif o kvs))
 |_=>False
def itq (x:T) (H:eH) (R:List T->(eH->Prop)->eH->Prop):Prop:=match x with
 |.ref a=>itO (H a) a H R
 |_=>False
def zF (te:vy):TI3:=λb H R=>te b H λx a=>itq x a R
theorem FQ (te:vy):zF te σ H R=te σ H λx a=>itq x a R:=rfl
theorem N7 (a:am):itq (.ref a) H R=itO (H a) a H R:=rfl
theorem N8 (kvs:List (Int × T)) (a:am):itO (ab (.dci kvs)) a H R=∀o,R (kvs.map itT) (xM a o kvs) (aY H a (.dif o kvs)):=rfl
theorem xN {K:a8}{H:Hp}{o:dL}:m9 K (Iti a o) (kvs.map itT) (xM a o kvs) H:=λH' c A g st=>by
 obtain⟨vs,d,r⟩:=g a _ st;have x:=aaZ r;refine⟨λi l=>⟨vs,d,by rw[b_] at l;omega⟩,λi t e=>?_⟩;rw[J_] at e;cases q:kvs[i]? with
 |none=>rw[q] at e;cases e
 |some w =>
 rw[q] at e;cases e;obtain⟨⟨u,v⟩,f,j,h⟩:=jB r q;simp only at j h;subst j;refine⟨⟨vs,_,d,f⟩,λz m y=>?_⟩;obtain⟨p,n,s,rfl,b,rfl,k⟩:=y;have:=(k vs d).symm.trans f;cases this;exact⟨aV b,g.new b,mz.newTup (H3:=c) b (.cons .ofInt (.cons h .nil))⟩
theorem u5 (p:o4 X e te) (b:cq e "items" X.env (br e X.env)=br e X.env:=by rfl) (c:(apos.endLine==cpos.line)=ag:=by rfl):
  PI3 X (.Tuple elts x1 tpos) (.Call (.Attribute e "items" apos) [] [] cpos) (zF te):=by
 refine PI.imp (Fw p b c) ?_;rintro w H R ⟨g,H3,R3,u,m,h,k⟩;refine⟨g,H3,_,u,m,h,λv H' t j s d r q=>?_⟩;cases t with
 |ref a =>
  rw[N7] at q;cases f:j a with
  |none=>rw[f] at q;exact q.elim
  |some l =>
  rw[f] at q;cases l with
  |dci kvs=>rw[N8] at q;obtain⟨vs,i,n⟩:=d a _ f;exact⟨a,vs,r.ref,i,λo=>k _ _ _ _ _ (s.trans (bN (by rw[i];exact trivial))) (d.frzI i n) xN (q o)⟩
  |_=>exact q.elim
 |_=>exact q.elim
end
theorem qF {K:a8}:∀{c:List (ai × T)}{vs:List (ai × V)}{t:T},adt K H c vs->aR f c=ab t->∃v,vs.lookup f=ab v/\Rep K H t v
 |[],_,_,_,e=>by cases e
 | (g,t')::r,_,t,.cons (b:=(g',v')) ⟨e1,rv⟩ rr,e=>by
  simp only at e1 rv
  subst e1
  unfold aR at e
  by_cases a:g'=f
  ·
   rw[aca a] at e
   cases e
   exact⟨v',by rw[aaj,show (f==g')=ag from aa0.mpr a.symm],rv⟩
  ·
   rw[ace a] at e
   obtain⟨v,d,q⟩:=qF rr e
   exact⟨v,by rw[aaj,show (f==g')=ah from aak.mpr (a6 a)];exact d,q⟩
theorem nO {K:a8}:∀{c:List (ai × T)}{vs:List (ai × V)},adt K H c vs->aR f c=ae->vs.lookup f=ae
 |[],_,.nil,_=>rfl
 | (g,t')::r,_,.cons (b:=(g',v')) ⟨e1,rv⟩ rr,e=>by
  simp only at e1 rv
  subst e1
  unfold aR at e
  by_cases a:g'=f
  ·
   rw[aca a] at e;cases e
  ·
   rw[ace a] at e
   rw[aaj,show (f==g')=ah from aak.mpr (a6 a)]
   exact nO rr e
def dO (f:ai) (v:T):List (ai × T)->List (ai × T)
 |[]=>[(f,v)]
 | (g,x)::r=>if g=f then (g,v)::r else (g,x)::dO f v r
theorem u6 {K:a8} (c:Rep K H t v):∀{d:List (ai × T)}{vs:List (ai × V)},adt K H d vs->adt K H (dO f t d) (gQ f v vs)
 |[],_,.nil=>.cons ⟨rfl,c⟩ .nil
 | (g,t')::r,_,.cons (b:=(g',v')) ⟨e1,r1⟩ rr=>by
  simp only at e1 r1
  subst e1
  unfold dO gQ
  by_cases a:g'=f
  ·
   rw[aca a,aca a];exact .cons ⟨rfl,c⟩ rr
  ·
   rw[ace a,ace a];exact .cons ⟨rfl,r1⟩ (u6 c rr)
structure adf (K:a8) (C:am) (ns:List ai):Prop where
 cls:Cls K C
 no:∀n∈ns,ac2 K C n
structure MtC (P:bE) (w:bS) (K:a8) (mg:ai->Option av) (base:cv) (C:am) (k:Nat) (m:ai) (ps:List ai) (sp:Sp3):Prop where
 cls:Cls K C
 ex:∃(f:am) (fd:dk),Meth K C m f/\Binds K fd ps []/\lG P w K mg base k f fd ps sp
structure MkC (P:bE) (w:bS) (K:a8) (mg:ai->Option av) (base:cv) (C:am) (k:Nat) (x:ai) (ps:List ai) (sp:Sp3):Prop where
 at_:mg x=ab (.ref C)
 ex:∃(f:am) (fd:dk),Mk K C f/\Binds K fd ps []/\lG P w K mg base k f fd ps sp
structure GM (K:a8) (C:am) (m qual:ai) (st:eD) (ps:List ai) (f:am) (fd:dk):Prop where
 cls:Cls K C
 fn:Fun K m qual st f fd
 b:Binds K fd ps []
 mt:Meth K C m f
structure GI (K:a8) (mg:ai->Option av) (C:am) (x qual:ai) (st:eD) (ps:List ai) (f:am) (fd:dk):Prop where
 mk_:Mk K C f
 fn:Fun K "__init__" qual st f fd
 b:Binds K fd ps []
 at_:mg x=ab (.ref C)
theorem mz.wrO {K:a8} (s:mz K H3 H) (i:H a=ab (.ins C d vs)) (r:adt K H g c):mz K (aY H3 a (.ins C g)) (upd H a (.ins C d c)):=λb o e=>by
 have h:jj K H (upd H a (.ins C d c)):=bN (by rw[i];exact trivial);by_cases f:b=a
 .subst f;rw[aA] at e;cases e;exact⟨d,c,cu,r.mono h⟩
 rw[aD f] at e;exact (s b o e).stay h λu q=>by rw[bu f];exact q
section
variable {pos pos' apos p:ka}{H:eH}
def RP (C:am) (f:ai) (u:Option O3) (H:eH) (Q:sy):Prop:=match u with
 |some (.ins C' fs)=>C'=C/\oq (aR f fs) λt=>Q t H
 |_=>False
def WP (C:am) (f:ai) (x:T) (H:eH) (Q:sy):Prop:=match x with
 |.ref a=>RP C f (H a) H Q
 |_=>False
def Oa (C:am) (f:ai) (b:vy):vy:=λc H Q=>b c H λx a=>WP C f x a Q
theorem FT (a:am):WP C f (.ref a) H Q=RP C f (H a) H Q:=rfl
theorem RQ (a:List (ai × T)):RP C f (ab (.ins C a)) H Q=oq (aR f a) λt=>Q t H:=propext ⟨λh=>h.2,λh=>⟨rfl,h⟩⟩
theorem fV (c:adf X.K C ns) (F:o4 X e ta) (A:f∈ns:=by simp) (G:cq e f X.env (br e X.env)=br e X.env:=by rfl):o4 X (.Attribute e f pos) (Oa C f ta):=by
 refine PE.imp (Qk F G) ?_;rintro I H Q ⟨l,H3,D,x,o,h,k⟩;refine⟨l,H3,_,x,o,h,λv H' t b w d r q=>?_⟩;cases t with
 |ref a =>
  rw[FT] at q;cases j:b a with
  |none=>rw[j] at q;exact q.elim
  |some z =>
  rw[j] at q;cases z with
  |ins m n =>
   obtain⟨rfl,g⟩:=(show m=C/\oq (aR f n) λt=>D t b from q);clear q;obtain⟨E,vs,u,B⟩:=d a _ j;cases i:aR f n with
   |none=>rw[i] at g;exact g.elim
   |some t =>
   rw[i,iD] at g;obtain⟨s,y,p⟩:=qF B i;exact⟨a,m,E,vs,s,r.ref,u,c.cls,c.no f A,y,k _ _ _ _ w d p g⟩
  |_=>exact q.elim
 |_=>exact q.elim
def sfO (C:am) (f:ai) (a:am) (y:T) (u:Option O3) (H:eH) (Q:eH->Prop):Prop:=match u with
 |some (.ins C' fs)=>C'=C/\fs.length<1000/\Q (aY H a (.ins C (dO f y fs)))
 |_=>False
def sfq (C:am) (f:ai) (x y:T) (H:eH) (Q:eH->Prop):Prop:=match x with
 |.ref a=>sfO C f a y (H a) H Q
 |_=>False
def Ob (C:am) (f:ai) (b c:vy):TS3:=λD a H=>c a H λy e=>b a e λx d=>sfq C f x y d λH3=>D.nx a H3
theorem Oc (a:am) (y:T) (Q:eH->Prop):sfq C f (.ref a) y H Q=sfO C f a y (H a) H Q:=rfl
theorem WQ (a:am) (y:T) (b:List (ai × T)) (Q:eH->Prop):sfO C f a y (ab (.ins C b)) H Q=(b.length<1000/\Q (aY H a (.ins C (dO f y b)))):=propext ⟨λh=>h.2,λh=>⟨rfl,h⟩⟩
theorem rR (c:adf X.K C ns) (F:o4 X o ta) (I:o4 X value tv) (O:f∈ns:=by simp) (E:dt value (ab (.Attribute o f pos')) pos.line X.env=a5 ah:=by rfl):PS3 X (.Assign [.Attribute o f pos'] value pos) (Ob C f ta tv):=by
 refine PS.imp (Ql F I E) ?_;rintro D R H ⟨d,H3,B,p,z,h,M,_⟩;refine⟨d,H3,_,p,z,h,λy S G m e l L P=>⟨d,m,_,p.mono e,l,P,λx t J k b i A g=>?_⟩⟩;cases J with
 |ref a =>
  rw[Oc] at g;cases s:k a with
  |none=>rw[s] at g;exact g.elim
  |some N =>
  rw[s] at g;cases N with
  |ins r w=>obtain⟨rfl,Q,q⟩:=(show r=C/\w.length<1000/\B.nx d (aY k a (.ins C (dO f G w))) from g);obtain⟨v,vs,n,u⟩:=i a _ s;have j:jj X.K t (upd t a (.ins r v (gQ f y vs))):=bN (by rw[n];exact trivial);exact⟨a,r,v,vs,A.ref,n,c.cls,c.no f O,by rw[<- aaZ u];exact Q,M _ _ _ _ (e.trans (b.trans j)) (p.mono (e.trans (b.trans j))) (i.wrO n (u6 (L.mono b) u)) q⟩
  |_=>exact g.elim
 |_=>exact g.elim
def mtO (C:am) (m:ai) (u:Option O3) (q:Prop):Prop:=match u with
 |some (.ins C' fs)=>C'=C/\aR m fs=ae/\q
 |_=>False
def mtq (C:am) (m:ai) (x:T) (H:eH) (q:Prop):Prop:=match x with
 |.ref a=>mtO C m (H a) q
 |_=>False
def FW (C:am) (m:ai) (sp:Sp3) (d:vy) (t:TA3):vy:=λb H Q=>d b H λx a=>mtq C m x a (t b a λvs c=>sp (x::vs) c Q)
theorem Od (a:am) (q:Prop):mtq C m (.ref a) H q=mtO C m (H a) q:=rfl
theorem FZ (a:List (ai × T)) (q:Prop):mtO C m (ab (.ins C a)) q=(aR m a=ae/\q):=propext ⟨λh=>h.2,λh=>⟨rfl,h⟩⟩
theorem jd {pl:k0 Bool}(M:MtC X.prog X.w X.K X.mg X.base C n m ps sp) (G:mX n X.A) (T:o4 X o ta) (D:PA3 X (e::es) t)
  (j:ax (e::es) X.env=(ah,br e X.env)::ax es X.env:=by rfl) (l:(bt pos (ax es X.env)).any (·.1)=ah:=by rfl)
  (B:br (.Call (.Attribute o m apos) (e::es) [] pos) X.env=(do
   let ov <- br o X.env
   ny apos.atName
   let (f,first) <- fg [ov] (oB ov m pl)
   callWith pos f first (bt pos (ax (e::es) X.env)) (nN pos (hP [] X.env))):=by rfl) :
  o4 X (.Call (.Attribute o m apos) (e::es) [] pos) (FW C m sp ta t):=by
 obtain⟨f,Z,L,U,F⟩:=M.ex;refine PE.imp (Iz (dvs:=[]) (E:=E0) T M.cls L F G U .nil Dm D j l B) ?_;rintro W H Q ⟨c,H3,R,x,y,h,k⟩;refine⟨c,H3,_,x,y,h,λv H' t d u g r q=>?_⟩;cases t with
 |ref a =>
  rw[Od] at q;cases p:d a with
  |none=>rw[p] at q;exact q.elim
  |some O =>
  rw[p] at q;cases O with
  |ins Y fs=>obtain⟨rfl,z,q⟩:=q;obtain⟨S,vs,N,P⟩:=g a _ p;refine⟨a,S,vs,r.ref,N,nO P z,c,d,_,x.mono u,g,q,λus I ts s b i J V=>?_⟩;show uB X.K sp (v::(us++[])) I Q E0;rw[P_];exact⟨_,s,R,.cons (r.mono b) J,i,V,k.at (u.trans b)⟩
  |_=>exact q.elim
 |_=>exact q.elim
def Ga (C:am) (sp:Sp3) (t:TA3):vy:=λd H Q=>t d H λvs b=>∀a,b a=ae->sp (.ref a::vs) (aY b a (.ins C [])) λv c=>v=.non/\Q (.ref a) c
theorem zG (M:MkC X.prog X.w X.K X.mg X.base C n x ps sp) (O:mX (n+1) X.A) (N:Gl X x) (l:PA3 X (e::es) t) (D:(x==("__debug__":ai))=ah:=by decide)
  (Y:ax (e::es) X.env=(ah,br e X.env)::ax es X.env:=by rfl) (B:(bt pos (ax es X.env)).any (·.1)=ah:=by rfl):o4 X (.Call (.Name x p) (e::es) [] pos) (Ga C sp t):=by
 obtain⟨f,fd,R,o,F⟩:=M.ex;refine PE.imp (IK (dvs:=[]) (E:=E0) R F O N M.at_ o .nil Dm l D Y B) ?_;rintro σ H Q ⟨s,H3,Q3,U,L,h,k⟩;refine⟨s,H3,_,U,L,h,λus H' ts y S i P q=>λa c l j r=>?_⟩;show uB X.K sp (V.ref a::(us++[])) _ _ E0;rw[P_];have G:upd H' c (.own a) a=ae:=by rw[bu (a6 r)];exact l
 have g:jj X.K H' (upd H' c (.own a)):=aV j;have d:jj X.K (upd H' c (.own a)) (upd (upd H' c (.own a)) a (.ins C c [])):=aV G;refine⟨wa a::ts,aY y a (.ins C []),_,.cons .ofRef (P.mono (g.trans d)),λb W m=>?_,q a (i.fresh l),λv H2 t2 Z z u J I=>⟨?_,?_⟩⟩
 .by_cases o:b=a
  .subst o;rw[aA] at m;cases m;exact⟨c,[],cu,.nil⟩
  rw[aD o] at m;exact ((i.new j).new G) b W m
 .obtain⟨rfl,_⟩:=I;exact J.non
 exact k _ _ _ _ (S.trans (g.trans (d.trans z))) u .ofRef I.2
def ad_ (i j:Int):Prop:=i.natAbs<2^1000/\j.natAbs<2^1000
def Oe (i j:Int):Prop:=j=2/\i.natAbs<2^1000
theorem ad_.ok (h:ad_ i j):t4 i j:=by
 have a:=rL h.1;have c:=rL h.2;unfold t4;have:Builtin.Int.intTooBig ((Builtin.Int.intBits i:Int)+(Builtin.Int.intBits j:Int))=ah:=by
  unfold Builtin.Int.intTooBig;have b:(2000:Int)<=(bitsLine:Int):=adx
  rw[decide_eq_false_iff_not];omega
 rw[this,lc];exact B_
theorem J1:dj X (bp .Mult) (rI3 ad_ λi j=>.int (i*j)):=uC (opI λ_ _ _ _ _ _ _ a q=>mul_int q a.ok) λ_ _ _=>.ofInt
theorem J2:dj X (bp .Pow) (rI3 Oe λi j=>.int (i^j.toNat)):=uC (opI λi j _ _ _ _ _ a q=>pow_int (by rw[a.1];decide) (by
 have b:=rL a.2
 rw[a.1]
 omega) q) λ_ _ _=>.ofInt
def Og:R3:=λx y H Q=>match y with
 |.non=>Q (.bl (!isN x)) H
 |_=>False
theorem WR (x:T) (H:eH) (Q:sy):Og x .non H Q=Q (.bl (!isN x)) H:=rfl
theorem Gb:dj X (be .IsNot) Og:=by
 refine OpR.imp Il ?_;rintro x y H Q ⟨c,ty,H3,g,b,f,d,h,k⟩;cases ty with
 |non =>
  refine⟨f.non,?_⟩;have e:decide (x=.non)=isN c:=by
   cases c with
   |non=>rw[b.non];rfl
   |int i=>rw[b.int];rfl
   |str i=>rw[b.str];rfl
   |bl i=>rw[b.bl];rfl
   |ref a=>rw[b.ref];rfl
   |tup ts=>obtain⟨a,vs,rfl,_⟩:=b.tup;rfl
   |ty n=>rw[b.ty];rfl
  rw[e];exact k _ _ _ _ .refl d .ofBl h
 |_=>exact h.elim
end
def Stb (b:Bool) (t:nX):Prop:=t.led=!b/\t.dummies=#[]/\t.place.toList.Pairwise (·<·)
theorem xO {xs:Array Nat} (h:xs.toList.Pairwise (·<·)) (a:i<=k) (b:k<xs.size):xs.getD i j<=xs.getD k j:=by
 have c:i<xs.size:=gu a b;rcases aaO a with e | rfl
 .have:=Zn.mp h i k (by simpa using c) (by simpa using b) e;simp only[abw,S_ c,S_ b,aa_];simp only[ZQ] at this;omega
 exact m_ _
theorem Gd (h:xs.toList.Pairwise (·<·)):∀(f b a:Nat),b<=a->a<=xs.size->a - b<=f->(∀i,i<b->xs.getD i j<j)->(∀i,a<=i->i<xs.size->j<=xs.getD i j) ->
  e4 xs j f b a<=xs.size/\(∀i,i<e4 xs j f b a->xs.getD i j<j)/\∀i,e4 xs j f b a<=i->i<xs.size->j<=xs.getD i j
 |0,b,a,h1,h2,h3,h4,h5=>by
  obtain rfl:b=a:=by omega
  exact⟨h2,h4,h5⟩
 |f+1,b,a,h1,h2,h3,h4,h5=>by
  unfold e4
  by_cases c:b<a
  ·
   rw[aca c]
   dsimp only
   by_cases d:xs.getD ((b+a) / 2) j<j
   ·
    rw[aca d]
    exact Gd h f _ _ adC h2 adC (λi e=>gu (xO h (k:=(b+a) / 2) adC adC) d) h5
   ·
    rw[ace d]
    exact Gd h f _ _ adC adC adC h4 λi l g=>W_ (abC.mp d) (xO h l g)
  ·
   rw[ace c]
   obtain rfl:b=a:=by omega
   exact⟨h2,h4,h5⟩
theorem rT (h:xs.toList.Pairwise (·<·)):bP xs j<=xs.size/\(∀i,i<bP xs j->xs.getD i j<j)/\∀i,bP xs j<=i->i<xs.size->j<=xs.getD i j :=
 Gd h _ _ _ (aae _) (m_ _) adC (λi b=>ach b (kq _)) λi c a=>ach a adC
theorem J3 (h:xs.toList.Pairwise (·<·)) (a:i<xs.size):bP xs (xs[i]+1)=i+1:=by
 obtain⟨l,g,f⟩:=rT (j:=xs[i]+1) h;have e:∀k (b:k<xs.size),xs.getD k (xs[i]+1)=xs[k]:=λk b=>by rw[abw,S_ b];rfl
 rcases hZ (bP xs (xs[i]+1)) (i+1) with c | c | c
 .have:=f i adC a;rw[e i a] at this;omega
 .exact c
 have d:=g (i+1) c;rw[e (i+1) adC] at d;have:=Zn.mp h i (i+1) (by simpa using a) (by simp;omega) (aa5 _);simp only[ZQ] at this;omega
theorem J4 (h:xs.toList.Pairwise (·<·)):bP xs 0=0:=by
 obtain⟨_,a,_⟩:=rT (j:=0) h;rcases Nat.eq_zero_or_pos (bP xs 0) with c | c
 .exact c
 exact ach (a 0 c) (kq _)
theorem J5 (h:xs.toList.Pairwise (·<·)) (r:xs[bP xs j]?≠ab j):(SetTable.insertAt xs (bP xs j) j).toList.Pairwise (·<·):=by
 obtain⟨u,s,l⟩:=rT (j:=j) h;generalize bP xs j=p at *;have e:∀k (m:k<xs.size),xs.getD k j=xs[k]:=λk m=>by rw[abw,S_ m];rfl
 have g:∀b∈xs.toList.drop p,j<b:=λb d=>by obtain⟨i,f,rfl⟩:=ZG d;rw[Zr,K_] at f;rw[aaV,ZQ];have n:=l (p+i) adC adC;rw[e _ adC] at n;have t:=l p (m_ _) adC;rw[e _ adC] at t;have v:xs[p]' adC≠j:=λz=>r (by rw[S_ adC,z]);have o:=xO (j:=j) h (i:=p) (k:=p+i) adC adC;rw[e _ adC,e _ adC] at o;omega
 rw[SetTable.toList_insertAt,aaf];refine⟨h.sublist (h7 _ _),abS.mpr ⟨g,h.sublist (oa _ _)⟩,λa q b d=>?_⟩;have c:a<j:=by
  obtain⟨i,f,rfl⟩:=ZG q;rw[Zm,K_] at f;rw[aaW,ZQ];have:=s i adC
  rwa [e _ adC] at this
 rcases n_.mp d with rfl | d
 .exact c
 exact abj c (g b d)
theorem WT (j:Nat):nV #[] j=ah:=by unfold nV;rfl
theorem u9 {t:nX} (a:t.dummies=#[]):t.slot j≠.dummy/\(t.slot j=.empty->t.place[bP t.place j]?≠ab j):=by
 unfold SetTable.slot;dsimp only;rw[a,WT];cases c:t.place[bP t.place j]?==ab j
 .refine⟨adE,λ_ z=>?_⟩;rw[z] at c;simp at c
 simp
theorem qG (a:t.dummies=#[]):∀(f:Nat) (p:SetTable.Probe),p.dummy=ae->∀j d,SetTable.probe.go t (λ_=>h+1) h f p=ab (.empty j d)->t.slot j=.empty/\d=ae
 |0,_,_,_,_,e=>by cases e
 |f+1,p,hp,j,d,e=>by
  unfold SetTable.probe.go at e
  cases c:t.slot p.j with
  |empty =>
   rw[c] at e
   cases e
   exact⟨c,hp⟩
  |dummy=>exact ach c (u9 a).1
  |live i =>
   rw[c] at e
   dsimp only at e
   rw[ace (by simp only[aa0];omega)] at e
   refine qG a f _ ?_ j d e
   unfold SetTable.advance
   split
   ·
    exact hp
   ·
    exact hp
theorem Ge {t:nX} (f:t.dummies=#[]) (e:t.freeSlot h=ab (j,b)):t.slot j=.empty:=by
 unfold SetTable.freeSlot at e;split at e
 .rename_i g d c;obtain⟨a,rfl⟩:=qG f _ _ rfl _ _ c;cases e;exact a
 cases e
theorem Stb.stand (h:Stb b t) (n:Nat):Stb b (t.standIn n):=⟨h.1,rfl,by
 show (Array.range n).toList.Pairwise (·<·)
 rw[Array.toList_range]
 exact ke⟩
theorem Stb.or (h:Stb b t) (n:Nat):Stb b (t.orStandIn n):=by
 unfold SetTable.orStandIn;split
 .exact h
 exact h.stand n
theorem Stb.new (a:Stb b t) (f:Array (Int × av)) (h:Int) (x:av):Stb b (layNew t f h x).2.1:=by
 unfold layNew;split
 .rename_i j d e;have c:Stb b (t.put j).1:=by refine⟨a.1,?_,J5 a.2.2 ((u9 a.2.1).2 (Ge a.2.1 e))⟩;show (if nV t.dummies j then _ else t.dummies)=#[];rw[a.2.1,WT];rfl
  exact c.or _
 exact a.stand _
theorem Stb.relay (g:Stb b t) (h:Array (Int × av)) (n:Nat):Stb b (kH t h n).2.1:=by
 unfold kH;split
 .rename_i t' q e;dsimp only;split
  .unfold SetTable.relaid SetTable.laid at e;cases c:SetTable.layClean (SetTable.sizeAbove n - 1) (h.map (·.1)) with
   |none=>rw[c] at e;cases e
   |some owner =>
   rw [c] at e;cases e;refine ⟨g.1,rfl,?_⟩;dsimp only;rw [abx];refine List.Pairwise.filterMap _ (R:=(· < ·)) (λa k l y f m d => ?_) ke;cases j : owner.getD a ae with
   |none=>rw[j] at f;cases f
   |some z =>
   cases i:owner.getD k ae with
   |none=>rw[i] at d;cases d
   |some o =>
   rw[j] at f;rw[i] at d;cases f;cases d;exact l
  exact g.stand _
 exact g.stand _
def ivl:av->Int
 |.int n _=>n
 |_=>0
def ivs (a:List (Int × av)):List Int:=a.map λe=>ivl e.2
def SI (prog:bE) (w:bS) (h:cv) (a:am) (c:List Int):Prop:=∃o b ep t,h.get? a=ab o/\o.ExactSet/\o.data=.set b ep t/\ElemsOf (dr prog w) b.toList/\(ivs b.toList).Nodup/\(∀k,k∈ivs b.toList↔k∈c)/\b.size<=c.length/\t.fits b.size=ag/\Stb (w.params.followText "set-order") t
theorem SI.at' (x:SI prog w h a b) (k:∀o,h.get? a=ab o->h'.get? a=ab o):SI prog w h' a b:=by
 obtain⟨o,d,ep,t,c,r⟩:=x;exact⟨o,d,ep,t,k _ c,r⟩
theorem vd {h:cv} (c:h.get? a=ab o) (b:o.data=.set d ep t):(h.update a (sd es' t')).get? a=ab { o with data:=.set es' (ep+1) t'}:=by
 have:=aaE (sd es' t') c (by rw[putSet_of es' t' b];rfl);rw[putSet_of es' t' b] at this;exact this
theorem add_int (hS:SI prog w s.heap a n) (room:n.length+1<dy) (h:∀v h',eh a s.heap h'->SI prog w h' a (n++[k])->Q v { s with heap:=h'}):aE (ay prog w) A (setAddHashed a (.int k tk) ((dr prog w).hash k)) Q E s:=by
 obtain⟨o,f,ep,t,J,C,F,i,nd,U,hl,V,tb⟩:=hS;have p:(dr prog w).is k (.int k tk)=ag:=mw _ _ _ _;have hb:f.size<dy:=adC
 have G:∀e∈f.toList,∀l,(dr prog w).is l e.2=ag↔ivl e.2=l:=λe M l=>by
  obtain⟨⟨k2,h2,_⟩,_⟩:=i e M;obtain⟨t2,e2⟩:=hV h2;rw[e2];constructor
  .intro z;exact (dr prog w).inj _ _ _ (mw _ _ _ _) z
  rintro rfl;exact mw _ _ _ _
 unfold setAddHashed rp;refine aau (d_ (aby J F V ?_));dsimp only;rw[byScan_of (knd:=dr prog w) rfl hb i];simp only[↓reduceIte];unfold setAddByScan;refine d_ (d_ (abD (d_ (wpAny_setScan_of p J F V i ?_))));cases hr:List.findIdx? (λe=>(dr prog w).is k e.2) f.toList with
 |some j=>dsimp only;obtain⟨hj,pj,_⟩:=List.findIdx?_eq_some_iff_getElem.mp hr;have e0:=(G _ (Zt hj) k).mp pj;have hk:k∈ivs f.toList:=l_.mpr ⟨_,Zt hj,e0⟩;refine o_ (o_ (h _ s.heap (Heap.SameBut.refl a s.heap) ⟨o,f,ep,t,J,C,F,i,nd,λl=>?_,by rw[a_];omega,V,tb⟩));rw[U l,t_,e_];exact⟨.inl,λz=>z.elim id λe=>by rw[e];exact (U k).mp hk⟩
 |none =>
 dsimp only;have N:k∉ivs f.toList:=λz=>by obtain⟨e,M,hp⟩:=l_.mp z;have:=List.findIdx?_eq_none_iff.mp hr e M;rw[(G e M k).mpr hp] at this;cases this
 have gw:∀(b:Bool) {s1:aI} {Y:Unit->aI->Prop},Y () s1->aE (ay prog w) A (match b with | true=>uS "set.scan.the-table-gave-way" | false=>a5 ()) Y E s1:=λb s1 Y hq=>by
  cases b
  .exact o_ hq
  exact abD hq
 have K:=layNew_perm t f ((dr prog w).hash k) (.int k tk);have W:=layNew_fits t f ((dr prog w).hash k) (.int k tk);have m:=tb.new f ((dr prog w).hash k) (.int k tk);generalize layNew t f ((dr prog w).hash k) (.int k tk)=L at K W m |-;obtain⟨c,g,wd,gv⟩:=L;dsimp only at K W m |-;rw[aaJ] at K;have T:c.size=f.size+1:=by rw[<- K_,K.length_eq,a_,K_];rfl
 have q:∀d:Array (Int × av),d.toList.Perm c.toList->ElemsOf (dr prog w) d.toList/\(ivs d.toList).Nodup/\(∀l,l∈ivs d.toList↔l∈n++[k])/\d.size=f.size+1:=λd D=>by
  have p3:=D.trans K;have p4:=p3.map λe=>ivl e.2;have p5:(ivs d.toList).Perm (ivs f.toList++[k]):=by unfold ivs;rw[v_] at p4;exact p4
  refine⟨(i.push p rfl).perm p3,p5.nodup_iff.mpr ?_,λl=>?_,?_⟩
  .rw[aab];refine⟨nd,adE,λx hx y hy z=>?_⟩;rw[e_.mp hy] at z;exact N (z▸hx)
  .rw[p5.mem_iff,t_,t_,U l]
  rw[<- K_,D.length_eq,K_,T]
 have lk:(n++[k]).length=n.length+1:=by rw[a_];rfl
 refine d_ (gw _ ?_);have u:aE (ay prog w) A (do
   storeSet a c g
   if (!wd&&g.tooFull)=ag then do
     (match (kH g c (de c.size)).2.2 with | true=>uS "set.scan.the-table-gave-way" | false=>a5 ())
     storeSet a (kH g c (de c.size)).1 (kH g c (de c.size)).2.1
     a5 (ab ag)
    else a5 (ab ag)) (λr s'=>∃h',r=ab ag/\s'={ s with heap:=h'}/\eh a s.heap h'/\SI prog w h' a (n++[k])) E s:=by
  refine d_ (nn J F ?_ (nK adC))
  have P:=vd (es':=c) (t':=g) J F
  have I:=Heap.SameBut.update s.heap a (sd c g)
  split
  ·
   have D:=relayAll_perm g c (de c.size)
   have Z:=relayAll_fits g c (de c.size)
   have B:=m.relay c (de c.size)
   generalize kH g c (de c.size)=R at D Z B |-
   obtain⟨d,t2,g2⟩:=R
   dsimp only at D Z B |-
   obtain⟨X,S,O,q4⟩:=q d D
   refine d_ (gw _ (d_ (nn P rfl ?_ (nK adC))))
   exact o_ ⟨_,rfl,rfl,I.trans (Heap.SameBut.update _ a _),_,d,_,t2,vd P rfl,C,rfl,X,S,O,adC,Z,B⟩
  ·
   obtain⟨X,S,O,q4⟩:=q c (.refl _)
   exact o_ ⟨_,rfl,rfl,I,_,c,_,g,P,C,rfl,X,S,O,adC,W,m⟩
 have H:∀(r:Option Bool) (s':aI),(∃h',r=ab ag/\s'={ s with heap:=h'}/\eh a s.heap h'/\SI prog w h' a (n++[k]))->aE (ay prog w) A (match r with | some added=>a5 added | none=>rp a (.int k tk) ((dr prog w).hash k) 99999) Q E s':=by rintro r s' ⟨h',rfl,rfl,sb,hs⟩;exact o_ (h ag h' sb hs)
 split
 .refine d_ ?_;rw[hashByValue_scannable 8 (x:=.int k tk) rfl];refine o_ ?_;exact aad u H λ_ _ e=>e
 refine d_ (o_ ?_);simp only[↓reduceIte];exact aad u H λ_ _ e=>e
theorem RV {St:Nat->cv->Prop} (W:Walks prog w A.in1 J I j n P St) (B:am) (G:B∉I) (xs:List Int) (O:xs.length=n) (S:∀i v,P i v->∃x t,xs[i]?=ab x/\v=.int x t) (K:n+1<dy):
  ∀(k i:Nat) (s:aI),n - i=k->i<=n->St i s.heap->SI prog w s.heap B (xs.take i) ->
   (∀s',Moved (B::j) (λa b=>b=a) s s'->SI prog w s'.heap B xs->R (.ok (.ret .none)) s') ->
   dP (ay prog w) A (.builtin "set.update.loop" ⟨[.ref B,.ref J],[]⟩) R s:=by
 have l:=W.toS;have D:B∉j:=λh=>G (l.sub _ h);have E:∀c∈j,c∈B::j:=λc m=>u_ _ m;intro k;induction k with
 |zero =>
  intro i s T M st p d;have L:i=n:=adC
  subst L;refine abn eA ?_;rw[fq aaL _];show aE _ A.in1 (kK (.ref J) >>= _) _ _ s;refine d_ (l.done s _ _ st λs' g=>?_);show aE _ A.in1 (ret d3) _ _ s';rw[<- O,oS] at p;exact o_ (d s' (g.mono E) (p.at' λo e=>g.heap B _ D e))
 |succ k Q =>
 intro i s T M st p d;have H:i<n:=adC
 refine abn eA ?_;rw[fq aaL _];show aE _ A.in1 (kK (.ref J) >>= _) _ _ s;refine d_ (l.item i s _ _ H st λv s' pv u g=>?_);obtain⟨x,t,U,rfl⟩:=S i v pv;have q:=p.at' λo e=>g.heap B _ D e;show aE _ A.in1 (fg [dd x t] (setAdd B (.int x t)) >>= _) _ _ s';refine d_ (aau ?_);unfold setAdd;refine aau ?_;refine d_ ((dr prog w).pyHash (k:=x) (mw _ _ _ _) ?_);have N:xs.take (i+1)=xs.take i++[x]:=by rw[List.take_add_one,U];rfl
 refine add_int (s:={ s' with toks:=s'.toks+1}) q (by rw[Zm];omega) λv h' sb f=>?_;rw[<- N] at f;refine o_ ⟨ab1 aaL _,Q (i+1) _ adC H (l.frame _ s' _ _ u (h6 _) λc m o e=>?_) f λy C r=>?_⟩
 .rw[sb.2 c (λz:c=B=>G (by rw[<- z];exact m))];exact e
 refine d y (Moved.trans l.gtrans ((g.mono E).then_heap (h6 _) λc o m e=>?_) C) r;rw[sb.2 c (λz=>m (by rw[z];exact k_))];exact e
@[reducible] def nP (w:bS):dL:={ cls:=.type "set",dict:=ae,data:=.set #[] 0 (.fresh 0 0 (!w.params.followText "set-order"))}
section
variable {s:aI}
theorem J6 (b:h.get? a=ab (nP w)):SI prog w h a []:=⟨_,_,_,_,b,⟨rfl,rfl,rfl⟩,rfl,λe c=>by simp at c,by simp [ivs],λk=>by simp [ivs],m_ _,rfl,rfl,rfl,ic⟩
theorem Gf (a:av) (h:Q₁ (.ref s.heap.objs.size) { s with heap:=s.heap.push (nP w)}):dP (ay prog w) A (.call (.builtin "set.__new__") ⟨[.type "set",a],[]⟩) (wants Q₁ E) s:=by
 refine qf ?_;show aE _ A.in1 (checkBuiltinCall "set.__new__" ⟨[.type "set",a],[]⟩ >>= λ_=>again (.builtin "set.__new__" ⟨[.type "set",a],[]⟩)) _ _ s;refine d_ (wpAny_of_eq (PySem.F.newCall_set_1 a) (o_ ⟨ab1 qB _,abn F.entry_set_new ?_⟩));rw[fq qB _];unfold er.«set.__new__» Builtin.Frozenset.newClass;have sub:=sub_set_self;obtain⟨b,g,d,tk,c⟩:=s;dsimp only
 wp_walk
 refine abI (o_ ?_);dsimp only;simp only[newObj];exact d_ (wpAny_alloc (o_ (o_ h)))
theorem BW (V:A.handled=ae) (S:s.heap.IsList l a) (hx:xs.length=a.size) (hv:∀(i:Nat) (v:av),a[i]?=ab v->∃x t,xs[i]?=ab x/\v=.int x t) (n:a.size+1<dy) (h:∀(h':cv) (tk:Nat),SI prog w h' s.heap.objs.size xs->(∀b o,b<s.heap.objs.size->s.heap.get? b=ab o->h'.get? b=ab o)->Q (.ref s.heap.objs.size) { s with heap:=h',toks:=tk}):
  aE (ay prog w) A (oI (.type "set") [.ref l]) Q E s:=by
 obtain⟨cc,tl,L⟩:=aat.mro;have G:=aat.made;have M:=aat.sub;refine rc (qf ?_);show aE _ _ (callAny (.type "set") _) _ _ _;refine o_ ⟨Code.quiet_builtin _ adx,abn F.entry_type_call ?_⟩;rw[Around.under_plain (weight_type_call_type "set" [.ref l] []) rfl];have n1:=aat.notType;have n2:=aat.canCreate;have hct:=PySem.F.typeCall_set_1 (.ref l);repeat (any_goals (first | assumption | wp_step))
 refine abH (Gf (.ref l) (E:=E) (Q₁:=λk T=>k=.ref s.heap.objs.size/\T={ s with heap:=s.heap.push (nP w)}) ⟨rfl,rfl⟩) λr T B=>?_;cases r with
 |error e=>exact B
 |ok fl =>
 cases fl with
 |ret k =>
  obtain⟨rfl,rfl⟩:=B;have J:(s.heap.push (nP w)).get? s.heap.objs.size=ab (nP w):=G_ _ rfl;have hT:Shared.TypeIs { s with heap:=s.heap.push (nP w)} (.ref s.heap.objs.size) "set":=⟨_,J,rfl⟩;have hli:=aat.init.lookup;have Z:=aat.init.bind (.ref s.heap.objs.size);repeat (any_goals (first | assumption | wp_step))
  refine abH (codeAny_call_builtin (R:=wants (λr K=>r=.none/\∃h' tk,K={ s with heap:=h',toks:=tk}/\SI prog w h' s.heap.objs.size xs /\
    (∀b o,b<s.heap.objs.size->s.heap.get? b=ab o->h'.get? b=ab o)) E) aat.init.plain F.entry_set_init (check_set_init_1 hT ?_)) λU K d=>?_
  .have g:(s.heap.push (nP w)).IsList l a:=S.push _;obtain⟨ol,f,m,Y,j⟩:=id S;obtain⟨oc,od,oda,u⟩:=ol;simp only at m j;subst m;subst j;have O:(s.heap.push (nP w)).get? l=ab { cls:=.type "list",dict:=od,data:=.seq a Y,slots:=u}:=h_ _ f;have t1:=PySem.F.sub_list_set;have t2:=PySem.F.sub_list_frozenset;have t3:(cE "list"==cE "dict")=ah:=by decide
   unfold er.«set.__init__» noKeywords Builtin.Frozenset.updateFrom;generalize C:tm=PI
   wp_walk
   subst C;refine hH g ?_;refine d_ (qS ?_);have P:l<s.heap.objs.size:=L_ f;have I:A.in1.in1.in1.handled=ae:=by simp [V]
   have q:(s.heap.push (nP w)).objs.size=s.heap.objs.size+1:=aaH ..;have nJ:l≠(s.heap.push (nP w)).objs.size:=by rw[q];exact Zk (aay P)
   have nB:s.heap.objs.size∉[(s.heap.push (nP w)).objs.size,l]:=by
    rw[q];intro z;simp only[n_,ZR,aba] at z;rcases z with z | z
    .exact ach z (Zk (aa5 _))
    exact ach z (kb P)
   refine RV (Walks.list I _ l nJ a) s.heap.objs.size nB xs hx hv n (a.size - 0) 0 _ adC (aae _) ⟨⟨_,G_ _ rfl,rfl,rfl⟩,g.push _⟩ (J6 (h_ _ J)) ?_;intro s' p c;obtain⟨h',g',d',y,D⟩:=s';have eg:g'=s.gens:=p.gens;have X:d'=s.drawn:=p.drawn;have eo:D=s.os:=p.os;subst eg X eo;show aE _ _ _ _ _ _;refine o_ ?_;show aE _ _ (ret d3) _ _ _;refine o_ ⟨rfl,h',y,rfl,c,λb o N e=>p.heap b o ?_ (h_ _ (h_ _ e))⟩;intro z;simp only[n_,ZR,aba] at z;rcases z with z | z
   .exact ach z (Zk N)
   rw[q] at z;exact ach z (Zk (aay N))
  cases U with
  |error e=>exact d
  |ok H =>
  cases H with
  |ret r =>
   obtain⟨rfl,h',tk,rfl,c,W⟩:=d;repeat (any_goals (first | assumption | wp_step))
   exact h _ _ c W
  |_=>exact d.elim
 |_=>exact B.elim
end
open PySem.W
theorem acL:vT "set_iterator" "__next__" "set_iterator.__next__":=.of (owner:="set_iterator") (n:="__next__") (by rw[fv,abr];kernel_rfl) adx adx adx
 (by first | exact .inr adx | exact .inl adx) (by rw[abX];kernel_rfl)
theorem zH:vT "set_iterator" "__iter__" "set_iterator.__iter__":=.of (owner:="set_iterator") (n:="__iter__") (by rw[fv,abr];kernel_rfl) adx adx adx
 (by first | exact .inr adx | exact .inl adx) (by rw[abX];kernel_rfl)
theorem Gg:Manifest.owners.lookup (String.ofList ['r','o','t','a','r','e','t','i','_','t','e','s'].reverse)=ab Manifest.sig_set_iterator:=by kernel_rfl
theorem qH:rX table "set_iterator.__next__"=ab er.«set_iterator.__next__»:=entryFor_of_tree adz
theorem qI (a:av):vE "set_iterator.__next__" ⟨[a],[]⟩:=by
 unfold vE;rw[sw (id:="set_iterator.__next__") (n:=['_','_','t','x','e','n','_','_']) (o:=['r','o','t','a','r','e','t','i','_','t','e','s']) adz Gg];kernel_rfl
theorem BX (a:av):vE "set_iterator.__iter__" ⟨[a],[]⟩:=by
 unfold vE;rw[sw (id:="set_iterator.__iter__") (n:=['_','_','r','e','t','i','_','_']) (o:=['r','o','t','a','r','e','t','i','_','t','e','s']) adz Gg];kernel_rfl
theorem BZ:rX table "set_iterator.__iter__"=ab er.«dict_keyiterator.__iter__» :=
 kR (id':="dict_keyiterator.__iter__") adz (by first | rfl | decide +kernel | (unfold String.splitOn;simp +decide [String.splitOnAux])) adx adz
theorem xP:rX table "set.__iter__"=ab er.«frozenset.__iter__» :=
 kR (id':="frozenset.__iter__") adz (by first | rfl | decide +kernel | (unfold String.splitOn;simp +decide [String.splitOnAux])) adx adz
@[reducible] def sbt (w:bS):Bool:=w.params.followText "set-order"
@[reducible] def dwn (a:Array (Int × av)) (t:nX):Bool:=!t.plain&&decide (a.size>1)
def Swy (w:bS) (h:cv) (J a tp:am) (vs:List av) (i:Nat) (c:Array (Int × av)) (ep:Nat) (t:nX) (first:av):Prop :=
 (∃b:Nat,first=.int b 0/\sbt w=ag/\(ow (w.params.setOrder a ep) c).toList.map (·.2)=vs) \/
 (∃b:Nat,first=.int b 0/\sbt w=ah/\dwn c t=ah/\t.led=ag/\t.place.toList.Pairwise (·<·)/\bP t.place b=i/\c.toList.map (·.2)=vs) \/
 (∃pl:List Nat,first=.ref tp/\tp≠J/\h.IsTuple tp (pl.map λp:Nat=>dd (p:Int) 0).toArray/\pl.length=vs.length/\∀(k p:Nat),pl[k]?=ab p->(c[p]?).map (λe=>e.2)=vs[k]?)
def Sww (w:bS) (h:cv) (J a tp:am) (vs:List av) (i:Nat):Prop:=∃o b ep t c first,h.get? a=ab o/\o.data=.set b ep t/\t.fits b.size=ag/\b.size=vs.length/\h.get? J=ab c/\c.cls=.type "set_iterator"/\c.data=.fields #[first,.int i 0,.ref a,.int vs.length 0,.int ep 0]/\Swy w h J a tp vs i b ep t first
theorem nQ {i j:Nat} (r:s.heap.get? a=ab o) (q:o.data=.set b ep t) (n:t.fits b.size=ag) (hsz:b.size=vs.length) (C:Swy w h J a tp vs i b ep t (.int j 0)) (u:∀v sl',vs[i]?=ab v->Swy w h J a tp vs (i+1) b ep t (.int (sl':Nat) 0)->Q (ab (v,sl')) s) (B:vs[i]?=ae->Q ae s):aE (ay prog w) A (setNext a j i ep) Q E s:=by
 unfold setNext;refine d_ (aby r q n ?_);dsimp only;unfold ro;refine d_ (d_ (abI (o_ ?_)));show aE _ _ (if sbt w=ag then _ else _) _ _ _;rcases C with ⟨j,e,k,d⟩ | ⟨j,e,k,l,g,f,p,d⟩ | ⟨pl,e,_⟩
 .cases e;rw[aca k,ace adE];refine d_ ?_;unfold setWalk;refine d_ (aby r q n ?_);dsimp only;unfold ro;refine d_ (d_ (abI (o_ ?_)));show aE _ _ (if sbt w=ag then _ else _) _ _ _;rw[aca k];refine d_ (abI (o_ (o_ ?_)));show Q (((ow (w.params.setOrder a ep) b)[i]?).map λe=>(e.2,j)) s;have m:vs[i]?=((ow (w.params.setOrder a ep) b)[i]?).map (·.2):=by rw[<- d,J_,Zu]
  cases y:(ow (w.params.setOrder a ep) b)[i]? with
  |none=>exact B (by rw[m,y];rfl)
  |some x=>exact u x.2 j (by rw[m,y];rfl) (.inl ⟨j,rfl,k,d⟩)
 .cases e;rw[ace (by rw[k];simp)];show aE _ _ (if dwn b t=ag then _ else _) _ _ _;rw[ace (by rw[l];simp)];show aE _ _ ((if (!t.led&&!b.isEmpty)=ag then _ else a5 ()) >>= _) _ _ _;rw[ace (by rw[g];simp)];refine d_ (o_ (o_ ?_));rw[p];have D:t.place.size=b.size:=by simp only[SetTable.fits,Zx,aa0] at n;exact n.1
  have m:vs[i]?=(b[i]?).map (·.2):=by rw[<- d,J_,Zu]
  by_cases c:i<b.size
  .have z:i<t.place.size:=adC
   rw[S_ c,S_ z];refine u _ _ (by rw[m,S_ c];rfl) (.inr (.inl ⟨_,rfl,k,l,g,f,J3 f z,d⟩))
  rw[abk adC];exact B (by rw[m,abk adC];rfl)
 cases e
theorem mH {h:cv} (a:h.get? J=ab b) (d:b.data=.fields e) (k:Nat) (x:av):∃c,(h.update J (ix (·.setIfInBounds k x))).get? J=ab c/\c.cls=b.cls/\c.data=.fields (e.setIfInBounds k x) :=
 ⟨_,aaE _ a (Obj.isFreed_of_fields (mT d _)),Obj.cls_mapFields ..,mT d _⟩
theorem Swy.at' (x:Swy w h J a tp vs i c ep t first) (k:∀o,tp≠J->h.get? tp=ab o->h'.get? tp=ab o):Swy w h' J a tp vs i c ep t first:=by
 rcases x with x | x | ⟨pl,e,b,⟨o,d,r⟩,x⟩
 .exact .inl x
 .exact .inr (.inl x)
 exact .inr (.inr ⟨pl,e,b,⟨o,k o b d,r⟩,x⟩)
theorem J7 (hJ:Sww w s.heap J a tp vs i) (F:a≠J) (B:vs[i]?=ab v) (hQ:∀h',Sww w h' J a tp vs (i+1)->(∀b o,b≠J->s.heap.get? b=ab o->h'.get? b=ab o)->Q (ab v) { s with heap:=h'}):aE (ay prog w) A (kK (.ref J)) Q E s:=by
 obtain⟨o,R,ep,t,oJ,first,y,l,G,hsz,c,U,d,W⟩:=hJ;have Z:s.TypeIs (.ref J) "set_iterator":=⟨oJ,c,U⟩;unfold kK;refine d_ (me (eR (name:=ee "__next__") Z acL (aaN acL Z qH ?_ (qI _))));unfold er.«set_iterator.__next__»;refine d_ (o_ (d_ (rb c d ?_)));dsimp only;refine d_ (fN y l G ?_);rw[ace (by rw[hsz];simp)];have D:∀g:Nat,first=.int g 0->aE (ay prog w) A.in1 (setNext a g i ep >>= λr=>match r with
   |some (x,next)=>tN (.ref J) 0 (eM next) >>= λ_=>tN (.ref J) 1 (eM ((i:Int)+1)) >>= λ_=>ret x
   |none=>tN (.ref J) 2 .none >>= λ_=>newExc (.type "StopIteration") [] >>= λe=>tP e) (λM s'=>∃v,M=Fin.done (Flow.ret v)/\aE (ay prog w) A (a5 (ab v)) Q E s') (λe s'=>aE (ay prog w) A (isInstance e (.type "StopIteration") >>= λb=>if b=ag then a5 ae else throw e) Q E s') s:=by
  rintro g rfl
  refine d_ (nQ (h:=s.heap) (J:=J) (tp:=tp) y l G hsz W (λv' C e N=>?_) λe=>by rw[B] at e;cases e)
  rw[B] at e
  cases e
  dsimp only
  refine d_ (abb c d adE ?_)
  obtain⟨Y,H,L,I⟩:=mH c d 0 (eM C)
  refine d_ (abb H I adE ?_)
  obtain⟨o2,g2,c2,d2⟩:=mH H I 1 (eM ((i:Int)+1))
  have f:∀b o,b≠J->s.heap.get? b=ab o->((s.heap.update J (ix (·.setIfInBounds 0 (eM C)))).update J (ix (·.setIfInBounds 1 (eM ((i:Int)+1))))).get? b=ab o:=λb o j e=>by
   rw[aaa _ _ _ _ j,aaa _ _ _ _ j];exact e
  exact o_ ⟨_,rfl,o_ (hQ _ ⟨o,R,ep,t,o2,_,f _ _ F y,l,G,hsz,g2,(c2.trans L).trans U,by rw[d2];rfl,N.at' λo hn e=>f _ _ hn e⟩ f)⟩
 rcases id W with ⟨g,rfl,j,K⟩ | ⟨g,rfl,j,hdr,X,hris,hsl,K⟩ | ⟨pl,rfl,u,T,S,n⟩
 .exact D g rfl
 .exact D g rfl
 dsimp only;obtain⟨ot,k,P,nt,q⟩:=id T;refine d_ (kF k q ?_);obtain⟨p,V⟩:∃p,pl[i]?=ab p:=by
  have:i<pl.length:=by
   rcases abl i vs.length with z | z
   .omega
   rw[Zf z] at B;cases B
  exact⟨_,g_ this⟩
 have e1:((pl.map λp:Nat=>dd (p:Int) 0).toArray)[((i:Nat):Int).toNat]?=ab (.int (p:Int) 0):=by rw[aaw,abt,J_,V];rfl
 dsimp only;rw[e1];dsimp only;have m:=n i p V;rw[B] at m;cases O:R[p]? with
 |none=>rw[O] at m;cases m
 |some x =>
 rw[O] at m;cases m;unfold setNextDrawn;refine d_ (d_ (aby y l G ?_));dsimp only;rw[ace adE,aaw,O];refine o_ (d_ (abb c d adE ?_));obtain⟨Y,H,L,I⟩:=mH c d 1 (eM ((i:Int)+1));have f:∀b o,b≠J->s.heap.get? b=ab o->(s.heap.update J (ix (·.setIfInBounds 1 (eM ((i:Int)+1))))).get? b=ab o:=λb o j e=>by rw[aaa _ _ _ _ j];exact e
 exact o_ ⟨_,rfl,o_ (hQ _ ⟨o,R,ep,t,Y,_,f _ _ F y,l,G,hsz,H,L.trans U,by rw[I];rfl,.inr (.inr ⟨pl,rfl,u,⟨ot,f _ _ u k,P,nt,q⟩,S,n⟩)⟩ f)⟩
theorem rW {J:am} (f:A.handled=ae) (d:∀h',(∀b o,s.heap.get? b=ab o->h'.get? b=ab o)->Q ae { s with heap:=h'}):aE (ay prog w) A.in1 (newExc (.type "StopIteration") [] >>= λe=>tP e) (λc s'=>∃v,c=Fin.done (Flow.ret v)/\aE (ay prog w) A (a5 (ab v)) Q E s') (λe s'=>aE (ay prog w) A (isInstance e (.type "StopIteration") >>= λb=>if b=ag then a5 ae else throw e) Q E s') s:=by
 refine d_ ?_;simp only[newExc,newTuple];refine d_ (aan ?_ (by size_fits));refine d_ (m:=rV _ _) (wpAny_of_eq (a:=d3) (by first | rfl | (simp only[rV];rfl)) ?_);refine aan ?_ (by size_fits);simp only[tP];refine d_ (wpAny_handled ?_);rw[show A.in1.handled=ae from f];refine d_ (o_ (wpAny_throw ?_));refine d_ (iE (T:="StopIteration") (b:=ag) ⟨_,G_ _ rfl,rfl⟩ isSubtype_stop ?_);exact o_ (d _ λb o e=>h_ _ (h_ _ e))
theorem J8 (g:A.handled=ae) (C:Sww w s.heap J a tp vs vs.length) (v:∀h',(∀b o,b≠J->s.heap.get? b=ab o->h'.get? b=ab o)->Q ae { s with heap:=h'}):aE (ay prog w) A (kK (.ref J)) Q E s:=by
 obtain⟨o,S,ep,t,N,first,q,j,u,hsz,c,L,d,n⟩:=C;have y:s.TypeIs (.ref J) "set_iterator":=⟨N,c,L⟩;have x:vs[vs.length]?=ae:=Zf (m_ _);unfold kK;refine d_ (me (eR (name:=ee "__next__") y acL (aaN acL y qH ?_ (qI _))));unfold er.«set_iterator.__next__»;refine d_ (o_ (d_ (rb c d ?_)));dsimp only;refine d_ (fN q j u ?_);rw[ace (by rw[hsz];simp)];rcases id n with ⟨M,rfl,_⟩ | ⟨M,rfl,_⟩ | ⟨pl,rfl,B,⟨P,l,F,nt,m⟩,K,z⟩
 .dsimp only;refine d_ (nQ (h:=s.heap) (J:=J) (tp:=tp) (i:=vs.length) q j u hsz n (λI r e _=>by rw[x] at e;cases e) λ_=>?_);dsimp only;refine d_ (abb c d adE ?_);exact rW (J:=J) g λh' k=>v h' λb o f e=>k b o (by rw[aaa _ _ _ _ f];exact e)
 .dsimp only;refine d_ (nQ (h:=s.heap) (J:=J) (tp:=tp) (i:=vs.length) q j u hsz n (λI r e _=>by rw[x] at e;cases e) λ_=>?_);dsimp only;refine d_ (abb c d adE ?_);exact rW (J:=J) g λh' k=>v h' λb o f e=>k b o (by rw[aaa _ _ _ _ f];exact e)
 dsimp only;refine d_ (kF l m ?_);have D:((pl.map λp:Nat=>dd (p:Int) 0).toArray)[((vs.length:Nat):Int).toNat]?=ae:=by rw[aaw,abt,J_,Zf adC];rfl
 dsimp only;rw[D];dsimp only;refine d_ (abb c d adE ?_);obtain⟨R,G,O,H⟩:=mH c d 0 (eM 0);refine d_ (abb G H adE ?_);exact rW (J:=J) g λh' k=>v h' λb o f e=>k b o (by rw[aaa _ _ _ _ f,aaa _ _ _ _ f];exact e)
theorem J9 (C:A.handled=ae) (q:a≠J) (vs:List av):Walks prog w A J [J,a,tp] [J] vs.length (λi v=>vs[i]?=ab v) (λi h=>Sww w h J a tp vs i) where
 sub:=λb d=>by simp at d;simp [d]
 frame:=λi h h' st l=>by
  obtain⟨o,B,ep,t,m,first,u,r,x,hsz,c,k,f,z⟩:=st
  exact⟨o,B,ep,t,m,first,l a adE _ u,r,x,hsz,l J adE _ c,k,f,z.at' λo _ e=>l tp adE o e⟩
 item:=λi s Q E y st g=>J7 st q (g_ y) λh' n j=>g _ h' s.toks (g_ y) n λb o d e=>j b o (by simpa using d) e
 done:=λs Q E st g=>J8 C st λh' j=>g h' s.toks λb o d e=>j b o (by simpa using d) e
 self:=λi s Q E st g=>by
  obtain⟨o,B,ep,t,m,first,u,r,x,hsz,c,k,f,z⟩:=st
  have p:s.TypeIs (.ref J) "set_iterator":=⟨m,c,k⟩
  refine hG p zH (aaN zH p BZ ?_ (BX _))
  show aE _ _ (ret (.ref J)) _ _ s
  exact o_ ⟨_,rfl,"set_iterator",_,p,acL.lookup,g⟩
theorem jD {c:Type}:∀{l:List c}{i:Nat}(b:i<l.length),(l[i]::l.eraseIdx i).Perm l
 |x::l,0,_=>.refl _
 |x::l,i+1,b=>by
  have a:i<l.length:=by simpa using b
  show (l[i]::x::l.eraseIdx i).Perm (x::l)
  exact (so _ _ _).trans ((jD a).cons _)
theorem xQ (c:n≠0) (h:∀i d,i<n->Q i { s with drawn:=d}):aE (ay prog w) A (choose a n) Q E s:=λb p hb=>by
 show Sem.wp _ b (.choose a n .pure) _ _ p s;rw[Sem.wp_choose];refine⟨c,?_⟩;rw[Sem.wp_pure];exact h _ _ (Nat.mod_lt _ (Nat.pos_of_ne_zero c))
theorem qJ {c:Type}:∀(n:Nat) (xs:List c) (s:aI) {Q:List c->aI->Prop},xs.length=n->(∀b d,b.Perm xs->Q b { s with drawn:=d})->aE (ay prog w) A (drawOrder n xs) Q E s
 |0,xs,s,Q,hl,h=>by
  rw[aap hl] at h |-
  exact o_ (h [] s.drawn .nil)
 |n+1,[],_,_,hl,_=>by cases hl
 |n+1,x::xs,s,Q,hl,h=>by
  show aE _ _ (choose .order (x::xs).length >>= λi=>match (x::xs)[i]? with
   |some y=>drawOrder n ((x::xs).eraseIdx i) >>= λr=>a5 (y::r)
   |none=>pu "internal:drawOrder") _ _ _
  refine d_ (xQ adE λi d a=>?_)
  rw[g_ a]
  dsimp only
  refine d_ (qJ n _ _ (by rw[abE a];omega) λb d' e=>o_ (h _ d' ?_))
  exact (e.cons _).trans (jD a)
theorem zJ (next:Nat->Nat):∀(f k:Nat) (left:List b) (out:Array b),left.length=f->(pickOrder.go next f k left out).toList.Perm (out.toList++left)
 |0,k,left,out,hl=>by
  rw[aap hl,P_]
  exact .refl _
 |f+1,k,left,out,hl=>by
  have a:next k%left.length<left.length:=Nat.mod_lt _ adC
  unfold pickOrder.go
  rw[g_ a]
  dsimp only
  refine (zJ next f _ _ _ (by rw[abE a];omega)).trans ?_
  rw[aaJ,y_]
  exact (jD a).append_left _
open L2 PySem.W
def Ky (O:KeyOrd) (a:Nat->O.α) (p:Array Nat) (i:Nat):O.α:=a (p.getD i 0)
def Up (O:KeyOrd) (a:Nat->O.α) (p:Array Nat) (k:Nat):Prop:=∀i j,i<=j->j<k->O.kle (Ky O a p i) (Ky O a p j)
def Dn (O:KeyOrd) (a:Nat->O.α) (p:Array Nat) (k:Nat):Prop:=∀i j,i<=j->j<k->O.kle (Ky O a p j) (Ky O a p i)
def Kpt (h h':cv):Prop:=∀b o,h.get? b=ab o->h'.get? b=ab o
theorem Ca:bb "sorted"=ab (.builtin "sorted"):=by decide +kernel
open L2 PySem.W M
theorem Ka:Kpt h (js (h.push (dc "list" vs.toArray 0)) h.objs.size vs out)/\∃c,(js (h.push (dc "list" vs.toArray 0)) h.objs.size vs out).get? h.objs.size=ab (dc "list" out c):=by
 have a:(h.push (dc "list" vs.toArray 0)).get? h.objs.size=ab (dc "list" vs.toArray 0):=G_ _ rfl;refine⟨λb o e=>?_,?_⟩
 .have d:b<h.objs.size:=L_ e;unfold js;rw[aaa _ _ _ _ (Zk d)];refine h_ _ (h_ _ ?_);rw[aaa _ _ _ _ (Zk d)];exact h_ _ e
 unfold js;exact⟨_,ko (h_ _ (h_ _ (ko a λ_=>#[]))) λ_=>out⟩
theorem zK:∀{vs:List av},(∀v∈vs,∃n t,v=dd n t)->ef vs (vs.map ivl)
 |[],_=>.nil
 |v::vs,h=>by
  obtain⟨n,t,rfl⟩:=h v (.head _)
  exact .cons n t (zK λv a=>h v (.tail _ a))
def qK (vs:List av) (a:List Int):Prop:=ef vs (vs.map ivl)/\(vs.map ivl).Nodup/\(∀k,k∈vs.map ivl↔k∈a)/\vs.length<=a.length
theorem xR {a:Array (Int × av)} (c:ElemsOf (dr prog w) a.toList) (j:(ivs a.toList).Nodup) (h:∀k,k∈ivs a.toList↔k∈b) (m:a.size<=b.length) (p:vs.Perm (a.toList.map (·.2))):qK vs b/\a.size=vs.length:=by
 have f:=p.map ivl;rw[X_] at f;have d:(vs.map ivl).Perm (ivs a.toList):=f;have e:a.size=vs.length:=by rw[p.length_eq,b_,K_]
 refine⟨⟨zK λv i=>?_,d.nodup_iff.mpr j,λk=>by rw[d.mem_iff,h],adC⟩,e⟩;obtain⟨x,g,rfl⟩:=l_.mp (p.mem_iff.mp i);obtain⟨⟨k,l,_⟩,_⟩:=c x g;obtain⟨t,e⟩:=hV l;exact⟨k,t,e⟩
section
variable {s:aI}
theorem Gh (U:SI prog w s.heap a y) (Y:y.length<dy) (S:∀h' d J tp vs,Sww w h' J a tp vs 0->qK vs y->Kpt s.heap h'->s.heap.objs.size<=J->(tp=a\/s.heap.objs.size<=tp)->Q (.ref J) { s with heap:=h',drawn:=d}):aE (ay prog w) A (tm (.ref a)) Q E s:=by
 obtain⟨o,f,ep,t,n,N,m,l,D,K,C,q,H⟩:=U;have P:s.TypeIs (.ref a) "set":=⟨o,n,N.1⟩;refine hG P kz (aaN kz P xP ?_ (PySem.F.args_set_iter_1 _));unfold er.«frozenset.__iter__» Builtin.Frozenset.slot0 slotArgs;simp only[List.isEmpty_nil,Z0,I_,↓reduceIte,bind_assoc,aaD,bne_self_eq_false];unfold Builtin.Frozenset.addrOf Builtin.Frozenset.sizeOf;refine d_ (o_ (d_ (o_ (d_ (d_ (fN n m q (o_ ?_)))))));unfold setDrawn;refine d_ (d_ (aby n m q ?_));dsimp only;unfold ro;refine d_ (d_ (abI (o_ (o_ ?_))));show aE _ _ (if (!sbt w&&dwn f t)=ag then _ else _) _ _ _;have g:∀vs:List av,qK vs y/\f.size=vs.length->Swy w s.heap s.heap.objs.size a a vs 0 f ep t (.int ((0:Nat):Int) 0)->aE (ay prog w) A.in1 (setEpoch a >>= λe=>sR "set_iterator" [eM 0,eM 0,.ref a,eM f.size,eM e] >>= λr=>ret r) (λG s'=>∃v,G=Fin.done (Flow.ret v)/\∃O r,s'.TypeIs v O/\ms (.type O) "__next__"=a5 (ab r)/\Q v s') E s:=by rintro vs ⟨j,hsz⟩ T;refine d_ (nv n m q ?_);unfold sR;refine d_ (aan (o_ ⟨_,rfl,"set_iterator",_,⟨_,G_ _ rfl,rfl⟩,acL.lookup,?_⟩));refine S _ s.drawn _ a vs ⟨o,f,ep,t,_,_,h_ _ n,m,q,hsz,G_ _ rfl,rfl,by rw[<- hsz];rfl,T.at' λo _ e=>h_ _ e⟩ j (λb o e=>h_ _ e) (m_ _) (.inl rfl)
 by_cases c:(!sbt w&&dwn f t)=ag
 .rw[aca c];refine d_ (qJ f.size (af f.size) s p_ λu d B=>?_);have W:ap=16777216:=rfl;have X:dy=4096:=rfl;have V:u.length=f.size:=by rw[B.length_eq,p_]
  refine d_ (qV ?_ (by rw[b_];omega));have x:=h_ (h:=s.heap) { cls:=.type "tuple",data:=.seq (u.map λ(i:Nat)=>eM i).toArray} n;refine d_ (nv (s:={ s with heap:=_,drawn:=d}) x m q ?_);unfold sR;refine d_ (aan (o_ ⟨_,rfl,"set_iterator",_,⟨_,G_ _ rfl,rfl⟩,acL.lookup,?_⟩));have pv:(u.map λp=>((f[p]?).map λe=>e.2).getD .none).Perm (f.toList.map (·.2)):=by
   refine (B.map _).trans (List.Perm.of_eq ?_);apply h9;intro i;rw[J_,J_];by_cases j:i<f.size
   .rw[aaC j,abo,Zu,S_ j];rfl
   rw[Zf (by simpa using j),Zu,abk adC];rfl
  obtain⟨j,hsz⟩:=xR l D K C pv;have M:s.heap.objs.size≠(s.heap.push { cls:=.type "tuple",data:=.seq (u.map λ(i:Nat)=>eM i).toArray}).objs.size:=by rw[aaH];omega
  refine S _ d _ s.heap.objs.size _ ⟨o,f,ep,t,_,_,h_ _ x,m,q,hsz,G_ _ rfl,rfl,by rw[<- hsz];rfl,.inr (.inr ⟨u,rfl,M,⟨_,h_ _ (G_ _ rfl),rfl,_,rfl⟩,by rw[b_],λk p R=>?_⟩)⟩ j (λb o e=>h_ _ (h_ _ e)) (by show s.heap.objs.size<=(s.heap.push _).objs.size;rw[aaH];exact h6 _) (.inr (m_ _));rw[J_,R,abo];have I:p<f.size:=by have:=B.mem_iff.mp (ZC R);exact F_.mp this
  rw[S_ I];rfl
 rw[ace c];refine d_ (o_ ?_);cases z:sbt w with
 |true=>refine g _ (xR l D K C ?_) (.inl ⟨0,rfl,z,rfl⟩);exact (zJ (w.params.setOrder a ep) f.size 0 f.toList #[] adE).map _
 |false =>
  have L:dwn f t=ah:=by
   rw[z] at c
   cases e:dwn f t with
   |false=>rfl
   |true=>rw[e] at c;exact ach rfl c
  refine g _ (xR l D K C (.refl _)) (.inr (.inl ⟨0,rfl,z,L,?_,H.2.2,J4 H.2.2,rfl⟩))
  rw[H.1]
  show (!sbt w)=ag
  rw[z]
  rfl
end
theorem Gi (h:ef a ns):a.length=ns.length:=by
 induction h with
 |nil=>rfl
 |cons x t _ b=>rw[i_,i_,b]
theorem Gj {Q:Bool->aI->Prop} (d:s.TypeIs (.ref r) "set") (h:Q ah s):aE (ay prog w) A (dQ (.ref r)) Q E s:=by
 unfold dQ;refine d_ (fr d PySem.F.slot_set_len.lookup ?_);generalize a:("set.__len__":String)=c
 wp_delta
 rw[show splitId c=ab ("set","__len__") from by subst a;decide +kernel];subst a;refine d_ (iE (T:="set") (b:=ag) d (by rw[abX];kernel_rfl) ?_);refine kn (λz=>ach z adD) λ_=>?_;refine kn (λ_=>?_) λz=>ach adx z;exact d_ (ja d (o_ h))
theorem Kc (Z:A.handled=ae) (I:SI prog w s.heap a C) (hr:C.length<dy) (O:S≠a) (B:s.heap.get? S=ab (dc "list" #[] 0)) (hR:∀h' tk d vs c,(∀b o,b≠S->s.heap.get? b=ab o->h'.get? b=ab o)->h'.get? S=ab (dc "list" vs.toArray c)->qK vs C->R (.ok (.ret res)) { s with heap:=h',toks:=tk,drawn:=d}):
  aE (ay prog w) A.in1 (bX (.ref S) (.ref a) res) (λE s'=>match E with
   |.done f=>R (.ok f) s'
   |.again y=>y.quiet=ag/\dP (ay prog w) A y R s') (λe s'=>R (.error e) s') s:=by
 have U:∀h':cv,Kpt s.heap h'->∀d,Shared.TypeIs { s with heap:=h',drawn:=d} (.ref a) "set":=λh' k d=>by
  obtain⟨o,es,ep,t,K,N,r⟩:=id I
  exact⟨o,k _ _ K,N.1⟩
 have hsl:ap=16777216:=rfl
 have hsb:dy=4096:=rfl
 have Y:S<s.heap.objs.size:=L_ B
 unfold bX
 refine d_ (ja (T:="set") (U s.heap (λ_ _ e=>e) s.drawn) ?_)
 have e1:db (.ref S) (.ref a)=ah:=by simp [db,O]
 have e2:(cE "set"==cE "list")=ah:=by decide
 have e3:(cE "set"==cE "tuple")=ah:=by decide
 simp only[e1,e2,e3,mn,I_,Zj]
 refine d_ (Gh I hr λD d J tp vs st x l G M=>?_)
 have L:a≠J:=by
  obtain⟨o,es,ep,t,K,r⟩:=I
  exact Zk (V_ (L_ K) G)
 have W:=J9 (prog:=prog) (w:=w) (A:=A.in1) Z (J:=J) (a:=a) (tp:=tp) L vs
 have X:S∉[J,a,tp]:=λz=>by
  simp only[n_,ZR,aba] at z
  rcases z with z | z | z
  ·
   exact Zk (V_ Y G) z
  ·
   exact O z
  ·
   rcases M with q | q
   ·
    exact O (z.trans q)
   ·
    exact Zk (V_ Y q) z
 have p:∀(h:cv) (c tk:Nat),Sww w h J a tp vs 0->(∀b o,b≠S->s.heap.get? b=ab o->h.get? b=ab o)->h.get? S=ab (dc "list" #[] c)->dP (ay prog w) A (.builtin "list.extend.loop" ⟨[.ref S,.ref J,res],[]⟩) R { s with heap:=h,toks:=tk,drawn:=d}:=by
  intro h c tk st l B
  refine kS W.toS (by have:=x.2.2.2;omega) S X res vs.length 0 _ #[] c rfl (aae _) st B (ItemsOf.nil _) λs' n y V m Q=>?_
  rw[Moved.eq_with V]
  have ev:n=vs.toArray:=by
   apply Array.ext_getElem?
   intro i
   by_cases P:i<n.size
   ·
    have:=Q.2 i _ (S_ P)
    rw[S_ P,abt,this]
   ·
    rw[abk adC,abt,Zf (by have:=Q.1;omega)]
  rw[ev] at m
  refine hR s'.heap s'.toks d vs y (λb o g e=>V.heap b o (λz=>?_) (l b o g e)) m x
  rcases n_.mp z with z | z
  ·
   exact g z
  ·
   exact Zk (V_ (L_ e) G) (e_.mp z)
 refine d_ (aau (Gj (U D l d) ?_))
 have j:=l _ _ B
 refine kn (λ_=>?_) λ_=>o_ ⟨ab1 g9 _,p _ 0 _ st (λb o _ e=>l b o e) j⟩
 refine d_ (abD (d_ ?_))
 show aE _ _ (sN S (·.push .none) >>= λ_=>sN S (·.pop)) _ _ _
 refine d_ (ki j rfl ?_)
 have v:=aaE (cn (·.push d3)) j rfl
 refine ki (hz:=by seq_fits) v rfl ?_
 have H:=aaE (cn (·.pop)) v rfl
 have u:∀b o,b≠S->D.get? b=ab o->((D.update S (cn (·.push d3))).update S (cn (·.pop))).get? b=ab o:=λb o g e=>(aax _ _ (a6 g)).trans ((aax _ _ (a6 g)).trans e)
 exact o_ ⟨ab1 g9 _,p _ _ _ (W.frame 0 _ _ st λb g o e=>u b o (λz=>X (z▸g)) e) (λb o g e=>u b o g (l b o e)) H⟩
theorem vf {Q:List av->aI->Prop} (z:A.handled=ae) (u:SI prog w s.heap a l) (D:l.length<dy) (h:∀h' tk d vs,Kpt s.heap h'->s.heap.objs.size<h'.objs.size->qK vs l->Q vs { s with heap:=h',toks:=tk,drawn:=d}):aE (ay prog w) A (collect (.ref a)) Q E s:=by
 have v:a<s.heap.objs.size:=by obtain⟨o,H,ep,t,C,r⟩:=u;exact L_ C
 unfold collect;refine d_ (qS (abn entry_proto_collect' ?_));refine d_ (m:=newList []) (md (o_ ⟨Code.quiet_builtin _ adx,abn entry_list_iadd' ?_⟩))
 let st:aI:={ s with heap:=s.heap.push (dc "list" #[] 0)}
 let G:Result->aI->Prop:=λq t=>∃h' tk d vs c,q=.ok (.ret (.ref s.heap.objs.size))/\t={ s with heap:=h',toks:=tk,drawn:=d}/\Kpt s.heap h'/\h'.get? s.heap.objs.size=ab (dc "list" vs.toArray c)/\qK vs l
 have p:=Kc (A:=A) (s:=st) (R:=G) (res:=.ref s.heap.objs.size) (S:=s.heap.objs.size) z (u.at' λo e=>h_ _ e) D (kb v) (G_ _ rfl) (λh' tk d vs c F g i=>⟨h',tk,d,vs,c,rfl,rfl,λb o e=>F b o (Zk (L_ e)) (h_ _ e),g,i⟩);have j:∀q t,G q t->∃h' tk d vs c,q=.ok (.ret (.ref s.heap.objs.size))/\h'.get? s.heap.objs.size=ab (dc "list" vs.toArray c)/\t={ s with heap:=h',toks:=tk,drawn:=d}/\Q vs t:=by rintro q t ⟨h',tk,d,vs,c,k,rfl,B,g,i⟩;exact⟨h',tk,d,vs,c,k,g,rfl,h h' tk d vs B (L_ g) i⟩
 refine aad (A:=A.in1) p (λf t x=>?_) λe t x=>?_
 .cases f with
  |done f=>obtain⟨h',tk,d,vs,c,k,g,rfl,n⟩:=j _ _ x;cases k;exact d_ (m:=load s.heap.objs.size) (ra g (o_ n))
  |again I =>
  refine⟨x.1,abH x.2 λq t y=>?_⟩;obtain⟨h',tk,d,vs,c,rfl,g,rfl,n⟩:=j _ _ y;exact d_ (m:=load s.heap.objs.size) (ra g (o_ n))
 obtain⟨_,_,_,_,_,k,_⟩:=j _ _ x;cases k
abbrev kdO (st:a3):SortKind:=l7 st
def gal:Bool->a7->Array a7->Nat->Nat->Nat->StateT a3 k0 (Option Nat):=sortPriv% PySem.Builtin.gallop
def Kd (a:Nat->StateT a3 k0 (Option Bool)) (n b c:Nat):StateT a3 k0 (Option Nat):=do
 let mut lo:=b
 let mut hi:=c
 for _ in [0:n] do
  if lo ≥ hi then break
  let m:=lo+(hi - lo) / 2
  let ab mr <- a m | return ae
  if mr then lo:=m+1 else hi:=m
 return ab hi
def xT (c:Bool) (a:a7) (xs:Array a7) (b i:Nat):StateT a3 k0 (Option Bool):=do
 let x <- eC xs (b+i)
 if c then lt' x a else return (<- lt' a x).map (!·)
theorem RW (c:Bool) (d:a7) (xs:Array a7) (b n a:Nat):gal c d xs b n a=(do
 let mut la:=0
 let mut of:=1
 let ab rt <- xT c d xs b a | return ae
 if rt then
  let e:=n - a
  for _ in [0:n] do
   if of ≥ e then break
   let ab mr <- xT c d xs b (a+of) | return ae
   if !mr then break
   la:=of
   of:=2*of+1
  Kd (xT c d xs b) n (a+la+1) (a+min of e)
 else
  let e:=a+1
  for _ in [0:n] do
   if of ≥ e then break
   let ab fd <- xT c d xs b (a - of) | return ae
   if fd then break
   la:=of
   of:=2*of+1
  Kd (xT c d xs b) n (a+1 - min of e) (a - la)):=rfl
def Iny (x:a7):Prop:=∃n t,x.1=.int n t
def nu (x:a7):Int:=numOf x.1
theorem nR {st:a3} (g:kdO st=cw) (f:Iny x) (e:Iny y) (h:Q (ab (decide (nu x<nu y))) st):kw (ay prog w) A E s (lt' x y) Q st:=by
 obtain⟨a,t,d⟩:=f;obtain⟨b,u,c⟩:=e;rw[lt'_eq];refine C_ (fS ?_);rw[show l7 st=cw from g,d,c,keyLt'_oneType];refine C_ (iA (me ?_));refine oneLt_int ?_;unfold nu at h;rw[d,c] at h;exact⟨rfl,O_ h⟩
theorem bA {st:a3} (a:i<xs.size) (h:Q xs[i] st):kw (ay prog w) A E s (eC xs i) Q st:=by
 rw[elem'_eq,S_ a];exact O_ h
def Cut (B:Nat->Bool) (n k:Nat):Prop:=k<=n/\(∀i,i<k->B i=ag)/\∀i,k<=i->i<n->B i=ah
theorem vg {st:a3} (F:∀i (Q:Option Bool->a3->Prop),i<n->Q (ab (B i)) st->kw (ay prog w) A E s (f i) Q st) (d:∀i j,i<=j->j<n->B j=ag->B i=ag) (h:∀k,Cut B n k->Q (ab k) st) (t:g<=b) (G:b<=n) (v:∀i,i<g->B i=ag) (q:∀i,b<=i->i<n->B i=ah):kw (ay prog w) A E s (Kd f n g b) Q st:=by
 unfold Kd;refine C_ (abd (Z7 (I:=λx c a=>a=st/\∃l r,c=(ae,l,r)/\l<=r/\r<=n/\r - l<=n - x/\(∀i,i<l->B i=ag)/\∀i,r<=i->i<n->B i=ah)
  (Q:=λc a=>a=st/\∃k,c=(ae,k,k)/\Cut B n k) ?_ ?_ ⟨rfl,g,b,rfl,t,G,adC,v,q⟩) ?_)
 .rintro x c a _ H ⟨rfl,l,r,rfl,C,m,y,o,p⟩;dsimp only;by_cases c:l ≥ r
  .rw[aca c];exact O_ ⟨rfl,r,by rw[show l=r by omega],m,λi b=>o i adC,p⟩
  rw[ace c];refine C_ (F _ _ adC ?_);dsimp only;cases e:B (l+(r - l) / 2) with
  |true=>rw[aca rfl];exact O_ ⟨rfl,_,r,rfl,adC,m,adC,λi b=>d i _ adC adC e,p⟩
  |false =>
  rw[ace B_];refine O_ ⟨rfl,l,_,rfl,adC,adC,adC,o,λi b z=>?_⟩;cases u:B i with
  |false=>rfl
  |true=>rw[d _ i b z u] at e;cases e
 .rintro c a ⟨rfl,l,r,rfl,C,m,y,o,p⟩;exact⟨rfl,r,by rw[show l=r by omega],m,λi b=>o i adC,p⟩
 rintro c a ⟨rfl,k,rfl,D⟩;exact O_ (h k D)
theorem zL {st:a3} (K:kdO st=cw) (C:∀i (h:i<xs.size),Iny xs[i]) (H:Iny u) (R:b+n<=xs.size) (L:d<n) (B:Nat->Bool) (O:∀i (h:b+i<xs.size),B i=if y=ag then decide (nu xs[b+i]<nu u) else !decide (nu u<nu xs[b+i])) (f:∀i j,i<=j->j<n->B j=ag->B i=ag) (h:∀k,Cut B n k->Q (ab k) st):kw (ay prog w) A E s (gal y u xs b n d) Q st:=by
 rw[RW];have r:∀i (Q:Option Bool->a3->Prop),i<n->Q (ab (B i)) st->kw (ay prog w) A E s (xT y u xs b i) Q st:=by
  intro i Q v q;have t:b+i<xs.size:=adC
  unfold xT;refine C_ (bA t ?_);rw[O i t] at q;cases y with
  |true=>rw[aca rfl] at q |-;exact nR K (C _ _) H q
  |false =>
  rw[ace B_] at q |-;exact C_ (nR K H (C _ _) (O_ q))
 have fls:∀i j,i<=j->j<n->B i=ah->B j=ah:=λi j M P e=>by
  cases N:B j with
  |false=>rfl
  |true=>rw[f i j M P N] at e;cases e
 refine C_ (r _ _ L ?_);dsimp only;cases J:B d with
 |true =>
  rw[aca rfl];refine C_ (abd (Z7 (I:=λx c a=>a=st/\∃l o,c=(ae,l,o)/\l<n - d/\l<o/\x+1<=o/\B (d+l)=ag)
   (Q:=λc a=>a=st/\∃l o,c=(ae,l,o)/\l<n - d/\l<o/\B (d+l)=ag/\(o<n - d->B (d+o)=ah)) ?_ ?_ ⟨rfl,0,1,rfl,adC,adC,adC,J⟩) ?_)
  .rintro x c a _ C ⟨rfl,l,o,rfl,m,p,D,g⟩;dsimp only;by_cases c:o ≥ n - d
   .rw[aca c];exact O_ ⟨rfl,l,o,rfl,m,p,g,λz=>ach z adC⟩
   rw[ace c];refine C_ (r _ _ adC ?_);dsimp only;cases e:B (d+o) with
   |false=>rw[aca adD];exact O_ ⟨rfl,l,o,rfl,m,p,g,λ_=>e⟩
   |true =>
   rw[ace adD];exact O_ ⟨rfl,o,_,rfl,adC,adC,adC,e⟩
  .rintro c a ⟨rfl,l,o,rfl,m,p,D,g⟩;exact⟨rfl,l,o,rfl,m,p,g,λz=>ach z adC⟩
  rintro c a ⟨rfl,l,o,rfl,m,p,g,G⟩;dsimp only;refine vg r f h adC adC (λi v=>f i _ adC adC g) λi v F=>?_;exact fls (d+o) i adC F (G adC)
 |false =>
 rw[ace B_];refine C_ (abd (Z7 (I:=λx c a=>a=st/\∃l o,c=(ae,l,o)/\l<d+1/\l<o/\x+1<=o/\B (d - l)=ah)
  (Q:=λc a=>a=st/\∃l o,c=(ae,l,o)/\l<d+1/\l<o/\B (d - l)=ah/\(o<d+1->B (d - o)=ag)) ?_ ?_ ⟨rfl,0,1,rfl,adC,adC,adC,J⟩) ?_)
 .rintro x c a _ C ⟨rfl,l,o,rfl,m,p,D,g⟩;dsimp only;by_cases c:o ≥ d+1
  .rw[aca c];exact O_ ⟨rfl,l,o,rfl,m,p,g,λz=>ach z adC⟩
  rw[ace c];refine C_ (r _ _ adC ?_);dsimp only;cases e:B (d - o) with
  |true=>rw[aca rfl];exact O_ ⟨rfl,l,o,rfl,m,p,g,λ_=>e⟩
  |false =>
  rw[ace B_];exact O_ ⟨rfl,o,_,rfl,adC,adC,adC,e⟩
 .rintro c a ⟨rfl,l,o,rfl,m,p,D,g⟩;exact⟨rfl,l,o,rfl,m,p,g,λz=>ach z adC⟩
 rintro c a ⟨rfl,l,o,rfl,m,p,g,G⟩;dsimp only;refine vg r f h adC adC (λi v=>?_) λi v F=>fls _ i adC F g;by_cases z:o<d+1
 .exact f i (d - o) adC adC (G z)
 omega
def mlo:Array a7->Array a7->StateT a3 k0 (Array a7):=sortPriv% PySem.Builtin.mergeLo
def Gk (g:Nat):StateT a3 k0 Unit:=(sortPriv% PySem.Builtin.setMinGallop) g
abbrev LS:=Option (Array a7) × Array a7 × Nat × Nat × Nat × Nat
abbrev LG:=Option (Array a7) × Array a7 × Nat × Nat × Nat × Nat × Nat
abbrev LO:=Option (Array a7) × Array a7 × Nat × Nat × Nat
section
variable (a b:Array a7)
def dnL (o:Array a7) (i j:Nat):Array a7:=o++a.extract i a.size++b.extract j b.size
def laL (o:Array a7) (i j:Nat):Array a7:=o++b.extract j b.size++a.extract i a.size
def stL (e:Nat) (o:Array a7) (i j d c:Nat):StateT a3 k0 (ForInStep LS):=do
 let y <- eC b j
 let x <- eC a i
 match <- lt' y x with
 |some bw =>
  if bw then do
   let y <- eC b j
   if j+1==b.size then a5 (.done (ab (dnL a b (o.push y) i (j+1)),o.push y,i,j+1,0,c+1))
   else if c+1 ≥ e then a5 (.done (ae,o.push y,i,j+1,0,c+1)) else a5 (.yield (ae,o.push y,i,j+1,0,c+1))
  else do
   let x <- eC a i
   if i+1+1==a.size then a5 (.done (ab (laL a b (o.push x) (i+1) j),o.push x,i+1,j,d+1,0))
   else if d+1 ≥ e then a5 (.done (ae,o.push x,i+1,j,d+1,0)) else a5 (.yield (ae,o.push x,i+1,j,d+1,0))
 |_=>a5 (.done (ab (dnL a b o i j),o,i,j,d,c))
def enL (o:Array a7) (i j d k c:Nat):StateT a3 k0 (ForInStep LG):=do
 let x <- eC a i
 if i+1+1==a.size then a5 (.done (ab (laL a b (o.push x) (i+1) j),o.push x,i+1,j,d,k,c))
 else if decide (k<7)&&decide (c<7) then a5 (.done (ae,o.push x,i+1,j,d,k,c)) else a5 (.yield (ae,o.push x,i+1,j,d,k,c))
def hfL (o:Array a7) (i j d k e:Nat):StateT a3 k0 (ForInStep LG):=do
 let y <- eC b j
 if j+1==b.size then a5 (.done (ab (dnL a b (o.push y) i (j+1)),o.push y,i,j+1,d,k,e))
 else do
  let x <- eC a i
  match <- gal ag x b (j+1) (b.size - (j+1)) 0 with
  |some c =>
   if c>0 then
    if j+1+c==b.size then a5 (.done (ab (dnL a b (o.push y++b.extract (j+1) (j+1+c)) i (j+1+c)),o.push y++b.extract (j+1) (j+1+c),i,j+1+c,d,k,c))
    else enL a b (o.push y++b.extract (j+1) (j+1+c)) i (j+1+c) d k c
   else enL a b (o.push y) i (j+1) d k c
  |_=>a5 (.done (ab (dnL a b (o.push y) i (j+1)),o.push y,i,j+1,d,k,e))
def gaL (o:Array a7) (i j c e d:Nat):StateT a3 k0 (ForInStep LG):=do
 Gk c
 let y <- eC b j
 match <- gal ah y a i (a.size - i) 0 with
 |some k =>
  if k>0 then
   if i+k+1==a.size then a5 (.done (ab (laL a b (o++a.extract i (i+k)) (i+k) j),o++a.extract i (i+k),i+k,j,c,k,d))
   else if i+k==a.size then a5 (.done (ab (dnL a b (o++a.extract i (i+k)) (i+k) j),o++a.extract i (i+k),i+k,j,c,k,d))
   else hfL a b (o++a.extract i (i+k)) (i+k) j c k d
  else hfL a b o i j c k d
 |_=>a5 (.done (ab (dnL a b o i j),o,i,j,c,e,d))
def ouL (c:LO):StateT a3 k0 (ForInStep LO):=do
 let r <- iO [0:a.size+b.size] ((ae,c.2.1,c.2.2.1,c.2.2.2.1,0,0):LS) λ_ r=>stL a b c.2.2.2.2 r.2.1 r.2.2.1 r.2.2.2.1 r.2.2.2.2.1 r.2.2.2.2.2
 match r.1 with
 |some z=>a5 (.done (ab z,r.2.1,r.2.2.1,r.2.2.2.1,c.2.2.2.2))
 |none=>do
  uS "list.sort.gallop"
  let q <- iO [0:a.size+b.size] ((ae,r.2.1,r.2.2.1,r.2.2.2.1,c.2.2.2.2+1,r.2.2.2.2.1,r.2.2.2.2.2):LG) λ_ q =>
   if q.2.2.2.2.1>1 then gaL a b q.2.1 q.2.2.1 q.2.2.2.1 (q.2.2.2.2.1 - 1) q.2.2.2.2.2.1 q.2.2.2.2.2.2 else gaL a b q.2.1 q.2.2.1 q.2.2.2.1 q.2.2.2.2.1 q.2.2.2.2.2.1 q.2.2.2.2.2.2
  match q.1 with
  |some z=>a5 (.done (ab z,q.2.1,q.2.2.1,q.2.2.2.1,q.2.2.2.2.1))
  |none=>do
   Gk (q.2.2.2.2.1+1)
   a5 (.yield (ae,q.2.1,q.2.2.1,q.2.2.2.1,q.2.2.2.2.1+1))
theorem aU {b c:Type}{x y:StateT a3 k0 b}{f g:b->StateT a3 k0 c}(h:x=y) (k:∀a,f a=g a):x >>= f=y >>= g:=by rw[h];exact bind_congr k
theorem RX:mlo a b=(do
 uS "list.sort.merge-lo"
 let y <- eC b 0
 if 1==b.size then a5 (dnL a b #[y] 0 1)
 else if 0+1==a.size then a5 (laL a b #[y] 0 1)
 else do
  let g <- get
  let c <- iO [0:a.size+b.size] ((ae,#[y],0,1,rS g):LO) λ_ c=>ouL a b c
  match c.1 with
  |some z=>a5 z
  |none=>pu "internal:list.sort.merge-bound"):=by
 refine aU rfl λ_=>aU rfl λy=>?_
 refine T_ (λz=>ite ((1==b.size)=ag) (a5 (dnL a b #[y] 0 1)) z) ?_
 refine T_ (λz=>ite ((0+1==a.size)=ag) (a5 (laL a b #[y] 0 1)) z) ?_
 refine aU rfl λg=>aU (T_ (λf=>iO [0:a.size+b.size] ((ae,#[y],0,1,rS g):LO) f) ?_) ?_
 ·
  funext x c
  refine aU rfl λr=>?_
  cases e:r.1 with
  |some z=>rfl
  |none=>exact aU rfl λ_=>aU rfl λq=>by cases q.1 <;> rfl
 ·
  intro c
  cases c.1 <;> rfl
end
def SL (l:List a7):Prop:=l.Pairwise λx y=>nu x<=nu y
structure MI (O X Y T:List a7):Prop where
 x:SL (O++X)
 y:SL (O++Y)
 p:(O++X++Y).Perm T
theorem MI.symm {O X Y T:List a7}(h:MI O X Y T):MI O Y X T:=⟨h.y,h.x,by
 refine kv ?_ h.p
 rw[y_,y_]
 exact abu.append_left _⟩
theorem MI.mv {O P X Y T:List a7}(h:MI O (P++X) Y T) (f:∀p∈P,∀y∈Y,nu p<=nu y):MI (O++P) X Y T:=by
 obtain⟨b,c,e⟩:=h;refine⟨by rw[y_];exact b,?_,by rw[<- y_] at e;exact e⟩;unfold SL at *;rw[<- y_,aaf] at b;rw[aaf] at c |-;refine⟨b.1,c.2.1,λp a y d=>?_⟩;rcases t_.mp a with z | z
 .exact c.2.2 p z y d
 exact f p z y d
theorem MI.le {O X Y T:List a7}{x:a7}(h:MI O (x::X) Y T):∀z∈x::X,nu x<=nu z:=by
 have:=(aaf.mp h.x).2.1;intro z hz;rcases n_.mp hz with rfl | hz
 .exact ZJ _
 exact (abS.mp this).1 z hz
def gF (a b r:Array a7):Prop:=SL r.toList/\r.toList.Perm (a.toList++b.toList)
def SSt (st a:a3):Prop:=kdO a=kdO st/\aS a=aS st/\bm a=bm st/\dS a=dS st
section
variable {prog:bE}
theorem kW (xs:Array a7) (i:Nat):(xs.extract i xs.size).toList=xs.toList.drop i:=by
 simp only[Array.toList_extract,aaQ];exact ZL adE
theorem Gm (xs:Array a7) (i k:Nat):(xs.extract i (i+k)).toList=(xs.toList.drop i).take k:=by
 simp [aaQ]
structure LiL (a b o:Array a7) (i j:Nat):Prop where
 hi:i+1<a.size
 hj:j<b.size
 hn:o.size=i+j
 hm:MI o.toList (a.toList.drop i) (b.toList.drop j) (a.toList++b.toList)
structure TwL (a b:Array a7):Prop where
 a1:1<=a.size
 b1:1<=b.size
 ia:∀i (h:i<a.size),Iny a[i]
 ib:∀i (h:i<b.size),Iny b[i]
 sa:SL a.toList
 sb:SL b.toList
 hd:∀x∈a.toList,∀(h:0<b.size),nu b[0]<=nu x
 tl:∀y∈b.toList,∀(h:a.size - 1<a.size),nu y<=nu a[a.size - 1]
theorem je {xs:Array a7} (h:i<xs.size):xs.toList.drop i=xs[i]::xs.toList.drop (i+1):=by
 rw[Z3 (by simpa using h),ZQ]
theorem zM (h:MI o.toList (a.toList.drop i) (b.toList.drop j) (a.toList++b.toList)) (c:j=b.size):gF a b (dnL a b o i j):=by
 have e:(dnL a b o i j).toList=o.toList++a.toList.drop i++b.toList.drop j:=by unfold dnL;rw[Zz,Zz,kW,kW]
 refine⟨?_,by rw[e];exact h.p⟩;rw[e,Z6 (l:=b.toList) (by simp;omega),P_];exact h.x
theorem WW (h:MI o.toList (a.toList.drop i) (b.toList.drop j) (a.toList++b.toList)) (c:i=a.size):gF a b (dnL a b o i j):=by
 have e:(dnL a b o i j).toList=o.toList++a.toList.drop i++b.toList.drop j:=by unfold dnL;rw[Zz,Zz,kW,kW]
 refine⟨?_,by rw[e];exact h.p⟩;rw[e,Z6 (l:=a.toList) (by simp;omega),P_];exact h.y
theorem zN (t:TwL a b) (h:MI o.toList (a.toList.drop i) (b.toList.drop j) (a.toList++b.toList)) (g:i+1=a.size):gF a b (laL a b o i j):=by
 have e:(laL a b o i j).toList=o.toList++b.toList.drop j++a.toList.drop i:=by unfold laL;rw[Zz,Zz,kW,kW]
 refine⟨?_,by rw[e];exact h.symm.p⟩;have c:=h.x;have d:a.toList.drop i=[a[i]' adC]:=by rw[je adC,Z6 (by simp;omega)]
 rw[e,d];rw[d] at c;unfold SL at *;rw[aaf] at c |-;refine⟨h.y,adE,λz hz u f=>?_⟩;rcases t_.mp hz with q | q
 .exact c.2.2 z q u f
 rw[e_.mp f];have:=t.tl z (fk q) adC;simpa only[show a.size - 1=i by omega] using this
theorem LiL.pushB (h:LiL a b o i j) (c:∀x∈a.toList.drop i,nu (b[j]'h.hj)<=nu x):MI (o.push (b[j]'h.hj)).toList (a.toList.drop i) (b.toList.drop (j+1)) (a.toList++b.toList):=by
 have m:=h.hm.symm;rw[je h.hj] at m;rw[aaJ];exact (MI.mv (P:=[b[j]'h.hj]) m λp d y e=>by rw[e_.mp d];exact c y e).symm
theorem LiL.pushA (h:LiL a b o i j) (c:∀y∈b.toList.drop j,nu (a[i]'(abY h.hi))<=nu y):MI (o.push (a[i]'(abY h.hi))).toList (a.toList.drop (i+1)) (b.toList.drop j) (a.toList++b.toList):=by
 have m:=h.hm;rw[je (abY h.hi)] at m;rw[aaJ];exact MI.mv (P:=[a[i]'_]) m λp d y e=>by rw[e_.mp d];exact c y e
theorem Ke (t:TwL a b) {st:a3} (v:kdO st=cw) (h:LiL a b o i j) (l:∀z c,gF a b z->Q (.done (ab z,c)) st) (r:∀o' i' j' c,LiL a b o' i' j'->o'.size=o.size+1->Q (.done (ae,o',i',j',c)) st/\Q (.yield (ae,o',i',j',c)) st):kw (ay prog w) A E s (stL a b u o i j q p) Q st:=by
 have g:=abY h.hi;unfold stL;refine C_ (bA h.hj (C_ (bA g (C_ (nR v (t.ib _ _) (t.ia _ _) ?_)))));dsimp only;by_cases c:nu (b[j]'h.hj)<nu a[i]
 .rw[aca (A_ c)];refine C_ (bA h.hj ?_);have m:=h.pushB λx n=>by have d:=h.hm;rw[je g] at d n;exact ZM (ZX c) (d.le x n)
  by_cases e:j+1=b.size
  .rw[aca (by simp [e])];exact O_ (l _ _ (zM m e))
  rw[ace (by simp [e])];have f:=r (o.push (b[j]'h.hj)) i (j+1) (0,p+1) ⟨h.hi,by have:=h.hj;omega,by rw[Zo,h.hn];omega,m⟩ (Zo _);split
  .exact O_ f.1
  exact O_ f.2
 rw[ace (Ex c)];refine C_ (bA g ?_);have m:=h.pushA λy k=>by have d:=h.hm.symm;rw[je h.hj] at d k;exact ZM (Int.not_lt.mp c) (d.le y k)
 by_cases e:i+1+1=a.size
 .rw[aca (by simp [e])];exact O_ (l _ _ (zN t m e))
 rw[ace (by simp [e])];have f:=r (o.push a[i]) (i+1) j (q+1,0) ⟨by have:=h.hi;omega,h.hj,by rw[Zo,h.hn];omega,m⟩ (Zo _);split
 .exact O_ f.1
 exact O_ f.2
theorem SSt.refl {st:a3}:SSt st st:=⟨rfl,rfl,rfl,rfl⟩
theorem SSt.trans {st a b:a3}(h:SSt st a) (g:SSt a b):SSt st b:=⟨g.1.trans h.1,g.2.1.trans h.2.1,g.2.2.1.trans h.2.2.1,g.2.2.2.trans h.2.2.2⟩
theorem jO {st:a3} (h:∀st',SSt st st'->Q () st'):kw (ay prog w) A E s (Gk g) Q st:=f6 (h _ ⟨rfl,rfl,rfl,rfl⟩)
theorem nT {xs:Array a7} (h:SL xs.toList) (a:i<=j) (b:j<xs.size):nu (xs[i]'(gu a b))<=nu xs[j]:=by
 rcases aaO a with z | z
 .have:=Zn.mp h i j (by simp;omega) (by simpa using b) z;simpa using this
 subst z;exact ZJ _
theorem nU {st:a3}{b n l:Nat} (x:kdO st=cw) (t:∀i j (c:i<=j) (m:b+j<xs.size),j<n->nu (xs[b+i]' adC)<=nu xs[b+j]) (r:∀i (h:i<xs.size),Iny xs[i]) (o:Iny d) (v:b+n<=xs.size) (p:l<n) (h:∀k,k<=n->(∀i (a:b+i<xs.size),i<k->nu xs[b+i]<=nu d)->(∀i (a:b+i<xs.size),k<=i->i<n->nu d<nu xs[b+i])->Q (ab k) st):kw (ay prog w) A E s (gal ah d xs b n l) Q st:=by
 refine zL x r o v p (λi=>if h:b+i<xs.size then !decide (nu d<nu xs[b+i]) else ah) (λi a=>by rw[dif_pos a];rfl) (λi j c m e=>?_) λk g=>h k g.1 (λi a f=>?_) λi a q u=>?_
 .rw[dif_pos adC] at e |-;have:=t i j c adC m;have y:=of_decide_eq_false (abz _▸e);rw[x_ adC];rfl
 .have:=g.2.1 i f;dsimp only at this;rw[dif_pos a] at this;have:=of_decide_eq_false (abz _▸this);omega
 have:=g.2.2 i q u;dsimp only at this;rw[dif_pos a] at this;rw[Bool.not_eq_false'] at this;exact Zw this
theorem nY {st:a3}{b n l:Nat} (x:kdO st=cw) (v:∀i j (d:i<=j) (m:b+j<xs.size),j<n->nu (xs[b+i]' adC)<=nu xs[b+j]) (r:∀i (h:i<xs.size),Iny xs[i]) (o:Iny c) (t:b+n<=xs.size) (p:l<n) (h:∀k,k<=n->(∀i (a:b+i<xs.size),i<k->nu xs[b+i]<nu c)->(∀i (a:b+i<xs.size),k<=i->i<n->nu c<=nu xs[b+i])->Q (ab k) st):kw (ay prog w) A E s (gal ag c xs b n l) Q st:=by
 refine zL x r o t p (λi=>if h:b+i<xs.size then decide (nu xs[b+i]<nu c) else ah) (λi a=>by rw[dif_pos a];rfl) (λi j d m e=>?_) λk g=>h k g.1 (λi a f=>?_) λi a q u=>?_
 .rw[dif_pos adC] at e |-;have:=v i j d adC m;have:=Zw e;exact A_ adC
 .have:=g.2.1 i f;dsimp only at this;rw[dif_pos a] at this;exact Zw this
 have:=g.2.2 i q u;dsimp only at this;rw[dif_pos a] at this;exact Int.not_lt.mp (of_decide_eq_false this)
theorem dD {xs:Array a7} (h:z∈xs.toList.drop i):∃k,∃a:i+k<xs.size,z=xs[i+k]:=by
 obtain⟨k,a,rfl⟩:=ZG h;rw[Zr,K_] at a;exact⟨k,adC,by rw[aaV,ZQ]⟩
theorem mem_mid {xs:Array a7} (h:z∈(xs.toList.drop i).take n):∃k,k<n/\∃a:i+k<xs.size,z=xs[i+k]:=by
 obtain⟨k,a,rfl⟩:=ZG h;rw[Zm,Zr,K_] at a;exact⟨k,adC,adC,by rw[aaW,aaV,ZQ]⟩
theorem vh (xs:List a7) (i k:Nat):xs.drop i=(xs.drop i).take k++xs.drop (i+k):=by rw[<- k7,Zi]
def StG (a b:Array a7) (n:Nat) (Q:ForInStep LG->a3->Prop) (st:a3):Prop:=(∀z c d,SSt st d->gF a b z->Q (.done (ab z,c)) d)/\∀o i j c d,SSt st d->LiL a b o i j->n<=o.size->Q (.done (ae,o,i,j,c)) d/\Q (.yield (ae,o,i,j,c)) d
theorem StG.next {st e:a3} (h:StG a b n Q st) (g:SSt st e) (k:n<=m):StG a b m Q e:=⟨λz c d f hz=>h.1 z c d (g.trans f) hz,λo i j c d f p l=>h.2 o i j c d (g.trans f) p (W_ k l)⟩
theorem zO (t:TwL a b) {st:a3}{i j d k p n:Nat} (q:i+1<a.size) (g:j<b.size) (l:o.size=i+j) (r:MI o.toList (a.toList.drop i) (b.toList.drop j) (a.toList++b.toList)) (c:∀y∈b.toList.drop j,nu a[i]<=nu y) (hz:n<=o.size) (h:StG a b n Q st):kw (ay prog w) A E s (enL a b o i j d k p) Q st:=by
 unfold enL;refine C_ (bA adC ?_);have m:=LiL.pushA ⟨q,g,l,r⟩ c;by_cases e:i+1+1=a.size
 .rw[aca (by simp [e])];exact O_ (h.1 _ _ _ .refl (zN t m e))
 rw[ace (by simp [e])];have f:=h.2 (o.push a[i]) (i+1) j (d,k,p) st .refl ⟨adC,g,by rw[Zo,l];omega,m⟩ (by rw[Zo];omega);split
 .exact O_ f.1
 exact O_ f.2
theorem zP (t:TwL a b) {st:a3} (L:kdO st=cw) (l:LiL a b o i j) (u:∀x∈a.toList.drop i,nu (b[j]'l.hj)<=nu x) (hz:n<=o.size) (h:StG a b n Q st):kw (ay prog w) A E s (hfL a b o i j J k N) Q st:=by
 have C:=l.hi;have F:=l.hj;unfold hfL;refine C_ (bA l.hj ?_);have m:=l.pushB u;by_cases e:j+1=b.size
 .rw[aca (by simp [e])];exact O_ (h.1 _ _ _ .refl (zM m e))
 rw[ace (by simp [e])];refine C_ (bA adC (C_ (nY L (λi j K F _=>nT t.sb adC F) t.ib (t.ia _ _) adC adC λf O M D=>?_)));dsimp only;have I:∀x∈a.toList.drop i,nu a[i]<=nu x:=λx B=>by obtain⟨q,d,rfl⟩:=dD B;exact nT t.sa adC d
 by_cases c:f>0
 .rw[aca c];have G:=m.symm;rw[vh b.toList (j+1) f] at G;have v:=(G.mv λp H x B=>by
   obtain⟨q,d,z,rfl⟩:=mem_mid H
   exact ZM (ZX (M q z d)) (I x B)).symm
  rw[<- Gm,<- Zz] at v;by_cases g:j+1+f=b.size
  .rw[aca (by simp [g])];exact O_ (h.1 _ _ _ .refl (zM v g))
  rw[ace (by simp [g])];refine zO t C adC ?_ v (λy r=>?_) ?_ h
  .rw[aaz,Zo,abT,l.hn];omega
  .obtain⟨q,d,rfl⟩:=dD r;simpa only[mm] using D (f+q) adC adC adC
  rw[aaz,Zo];omega
 rw[ace c];refine zO t C adC (by rw[Zo,l.hn];omega) m (λy r=>?_) (by rw[Zo];omega) h;obtain⟨q,d,rfl⟩:=dD r;exact D q d adC adC
theorem Kf (t:TwL a b) {st:a3} (v:kdO st=cw) (l:LiL a b o i j) (h:StG a b o.size Q st):kw (ay prog w) A E s (gaL a b o i j H I L) Q st:=by
 have N:=l.hi;have u:=l.hj;unfold gaL;refine C_ (jO λG f=>C_ (bA l.hj (C_ (nU (f.1.trans v) (λi j J u _=>nT t.sa adC u) t.ia (t.ib _ _) adC adC λk M K C=>?_))));dsimp only;have h':=h.next f (m_ _);by_cases c:k>0
 .rw[aca c];have m:=l.hm;rw[vh a.toList i k] at m;have g:=m.mv λp D y F=>by obtain⟨q,d,z,rfl⟩:=mem_mid D;obtain⟨O,r,rfl⟩:=dD F;exact ZM (K q z d) (nT t.sb adC r)
  rw[<- Gm,<- Zz] at g;by_cases e:i+k+1=a.size
  .rw[aca (by simp [e])];exact O_ (h'.1 _ _ _ .refl (zN t g e))
  rw[ace (by simp [e])];by_cases n:i+k=a.size
  .rw[aca (by simp [n])];exact O_ (h'.1 _ _ _ .refl (WW g n))
  rw[ace (by simp [n])];refine zP t (f.1.trans v) ⟨adC,u,by rw[aaz,abT,l.hn];omega,g⟩ (λx B=>?_) (by rw[aaz];omega) h';obtain⟨q,d,rfl⟩:=dD B;exact ZX (by simpa only[mm] using C (k+q) adC adC adC)
 rw[ace c];refine zP t (f.1.trans v) l (λx B=>?_) (m_ _) h';obtain⟨q,d,rfl⟩:=dD B;exact ZX (C q d adC adC)
theorem Kg (t:TwL a b) {st:a3} (K:kdO st=cw) (J:LiL a b c.2.1 c.2.2.1 c.2.2.2.1) (F:∀z c d,SSt st d->gF a b z->Q (.done (ab z,c)) d) (O:∀o i j H d,SSt st d->LiL a b o i j->c.2.1.size+1<=o.size->Q (.yield (ae,o,i,j,H)) d):kw (ay prog w) A E s (ouL a b c) Q st:=by
 obtain⟨T,o,i,j,H⟩:=c;dsimp only at J O;have S:=t.a1;unfold ouL;dsimp only;refine C_ (abd (Z7 (I:=λx r d=>d=st/\∃n u p q,r=(ae,n,u,p,q)/\LiL a b n u p/\o.size+x<=n.size)
  (Q:=λr d=>d=st/\((∃z q,r=(ab z,q)/\gF a b z)\/∃n u p q,r=(ae,n,u,p,q)/\LiL a b n u p/\o.size+1<=n.size)) ?_ ?_ ⟨rfl,o,i,j,_,rfl,J,m_ _⟩) ?_)
 .rintro x r d _ R ⟨rfl,n,u,p,q,rfl,l,D⟩;dsimp only;exact Ke t K l (λz c hz=>⟨rfl,.inl ⟨z,c,rfl,hz⟩⟩) λf k m c y e=>⟨⟨rfl,.inr ⟨f,k,m,c,rfl,y,adC⟩⟩,rfl,f,k,m,c,rfl,y,adC⟩
 .rintro r d ⟨rfl,n,u,p,q,rfl,l,D⟩;exact⟨rfl,.inr ⟨n,u,p,q,rfl,l,adC⟩⟩
 rintro r d ⟨rfl,⟨z,q,rfl,hz⟩ | ⟨n,u,p,q,rfl,l,D⟩⟩
 .exact O_ (F _ _ _ .refl hz)
 dsimp only;refine C_ (iA (abD ⟨rfl,?_⟩));refine C_ (abd (Z7 (I:=λx r h=>SSt d h/\∃f k m q,r=(ae,f,k,m,q)/\LiL a b f k m/\o.size+1<=f.size)
  (Q:=λr h=>SSt d h/\((∃z q,r=(ab z,q)/\gF a b z)\/∃f k m q,r=(ae,f,k,m,q)/\LiL a b f k m/\o.size+1<=f.size)) ?_ ?_ ⟨.refl,n,u,p,_,rfl,l,D⟩) ?_)
 .rintro x r h _ R ⟨g,f,k,m,q,rfl,y,v⟩;dsimp only;split <;> exact Kf t (g.1.trans K) y ⟨λz c C B hz=>⟨g.trans B,.inl ⟨z,c,rfl,hz⟩⟩,λG M N c C B L P=>⟨⟨g.trans B,.inr ⟨G,M,N,c,rfl,L,adC⟩⟩,g.trans B,G,M,N,c,rfl,L,adC⟩⟩
 .rintro r h ⟨g,f,k,m,q,rfl,y,v⟩;exact⟨g,.inr ⟨f,k,m,q,rfl,y,v⟩⟩
 rintro r h ⟨g,⟨z,q,rfl,hz⟩ | ⟨f,k,m,q,rfl,y,v⟩⟩
 .exact O_ (F _ _ _ g hz)
 exact C_ (jO λC B=>O_ (O _ _ _ _ _ (g.trans B) y v))
theorem Kh (t:TwL a b) {st:a3} (K:kdO st=cw) (h:∀z d,SSt st d->gF a b z->Q z d):kw (ay prog w) A E s (mlo a b) Q st:=by
 have L:=t.a1;have M:=t.b1;rw[RX];refine C_ (iA (abD ⟨rfl,?_⟩));refine C_ (bA adC ?_);have G:MI [] (b[0]::b.toList.drop 1) (a.toList.drop 0) (a.toList++b.toList):=by have:=je (xs:=b) (i:=0) adC;rw[abW] at this;rw[abW,<- this];exact⟨t.sb,t.sa,abu⟩
 have m:MI (#[b[0]]:Array a7).toList (a.toList.drop 0) (b.toList.drop 1) (a.toList++b.toList):=(MI.mv (P:=[b[0]]) G λp C x y=>by rw[e_.mp C];exact t.hd x y adC).symm;by_cases e:1=b.size
 .rw[aca (by simp [<- e])];exact O_ (h _ _ .refl (zM m e))
 rw[ace (by simpa using e)];by_cases k:0+1=a.size
 .rw[aca (by simp [<- k])];exact O_ (h _ _ .refl (zN t m k))
 rw[ace (by simpa using k)];refine C_ (fS (C_ (abd (Z7 (I:=λx c d=>SSt st d/\∃o i j f,c=(ae,o,i,j,f)/\LiL a b o i j/\x<o.size)
  (Q:=λc d=>SSt st d/\∃z q,c=(ab z,q)/\gF a b z) ?_ ?_ ⟨.refl,_,0,1,_,rfl,⟨adC,adC,rfl,m⟩,by show 0<1;omega⟩) ?_)))
 .rintro x c d _ y ⟨g,o,i,j,f,rfl,l,J⟩;exact Kg t (g.1.trans K) l (λz c r u hz=>⟨g.trans u,z,c,rfl,hz⟩) λF D H n r u B v=>⟨g.trans u,F,D,H,n,rfl,B,by dsimp only at v;omega⟩
 .rintro c d ⟨g,o,i,j,f,rfl,l,J⟩;have:=l.hn;have:=l.hi;have:=l.hj;omega
 rintro c d ⟨g,z,q,rfl,hz⟩;exact O_ (h z d g hz)
end
def mhi:Array a7->Array a7->StateT a3 k0 (Array a7):=sortPriv% PySem.Builtin.mergeHi
abbrev RS:=Option (Array a7) × Nat × Nat × Array a7 × Nat × Nat
abbrev RG:=Option (Array a7) × Nat × Nat × Array a7 × Nat × Nat × Nat
abbrev RO:=Option (Array a7) × Nat × Nat × Array a7 × Nat
section
variable (a b:Array a7)
def dnR (o:Array a7) (i j:Nat):Array a7:=a.extract 0 i++b.extract 0 j++o.reverse
def fbR (o:Array a7) (i j:Nat):Array a7:=b.extract 0 j++a.extract 0 i++o.reverse
def stR (e i j:Nat) (o:Array a7) (d c:Nat):StateT a3 k0 (ForInStep RS):=do
 let y <- eC b (j - 1)
 let x <- eC a (i - 1)
 match <- lt' y x with
 |some f =>
  if f then do
   let x <- eC a (i - 1)
   if i - 1==0 then a5 (.done (ab (dnR a b (o.push x) (i - 1) j),i - 1,j,o.push x,d+1,0))
   else if d+1 ≥ e then a5 (.done (ae,i - 1,j,o.push x,d+1,0)) else a5 (.yield (ae,i - 1,j,o.push x,d+1,0))
  else do
   let y <- eC b (j - 1)
   if j - 1==1 then a5 (.done (ab (fbR a b (o.push y) i (j - 1)),i,j - 1,o.push y,0,c+1))
   else if c+1 ≥ e then a5 (.done (ae,i,j - 1,o.push y,0,c+1)) else a5 (.yield (ae,i,j - 1,o.push y,0,c+1))
 |_=>a5 (.done (ab (dnR a b o i j),i,j,o,d,c))
def enR (i j:Nat) (o:Array a7) (d k c:Nat):StateT a3 k0 (ForInStep RG):=do
 let x <- eC a (i - 1)
 if i - 1==0 then a5 (.done (ab (dnR a b (o.push x) (i - 1) j),i - 1,j,o.push x,d,k,c))
 else if decide (k<7)&&decide (c<7) then a5 (.done (ae,i - 1,j,o.push x,d,k,c)) else a5 (.yield (ae,i - 1,j,o.push x,d,k,c))
def hfR (i j:Nat) (o:Array a7) (c k d:Nat):StateT a3 k0 (ForInStep RG):=do
 let y <- eC b (j - 1)
 if j - 1==1 then a5 (.done (ab (fbR a b (o.push y) i (j - 1)),i,j - 1,o.push y,c,k,d))
 else do
  let x <- eC a (i - 1)
  match <- gal ag x b 0 (j - 1) (j - 1 - 1) with
  |some t =>
   if j - 1 - t>0 then
    if t==1 then a5 (.done (ab (fbR a b (o.push y++(b.extract t (j - 1)).reverse) i t),i,t,o.push y++(b.extract t (j - 1)).reverse,c,k,j - 1 - t))
    else if t==0 then a5 (.done (ab (dnR a b (o.push y++(b.extract t (j - 1)).reverse) i t),i,t,o.push y++(b.extract t (j - 1)).reverse,c,k,j - 1 - t))
    else enR a b i t (o.push y++(b.extract t (j - 1)).reverse) c k (j - 1 - t)
   else enR a b i (j - 1) (o.push y) c k (j - 1 - t)
  |_=>a5 (.done (ab (dnR a b (o.push y) i (j - 1)),i,j - 1,o.push y,c,k,d))
def gaR (i j:Nat) (o:Array a7) (c e d:Nat):StateT a3 k0 (ForInStep RG):=do
 Gk c
 let y <- eC b (j - 1)
 match <- gal ah y a 0 i (i - 1) with
 |some t =>
  if i - t>0 then
   if t==0 then a5 (.done (ab (dnR a b (o++(a.extract t i).reverse) t j),t,j,o++(a.extract t i).reverse,c,i - t,d))
   else hfR a b t j (o++(a.extract t i).reverse) c (i - t) d
  else hfR a b i j o c (i - t) d
 |_=>a5 (.done (ab (dnR a b o i j),i,j,o,c,e,d))
def ouR (c:RO):StateT a3 k0 (ForInStep RO):=do
 let r <- iO [0:a.size+b.size] ((ae,c.2.1,c.2.2.1,c.2.2.2.1,0,0):RS) λ_ r=>stR a b c.2.2.2.2 r.2.1 r.2.2.1 r.2.2.2.1 r.2.2.2.2.1 r.2.2.2.2.2
 match r.1 with
 |some z=>a5 (.done (ab z,r.2.1,r.2.2.1,r.2.2.2.1,c.2.2.2.2))
 |none=>do
  uS "list.sort.gallop"
  let q <- iO [0:a.size+b.size] ((ae,r.2.1,r.2.2.1,r.2.2.2.1,c.2.2.2.2+1,r.2.2.2.2.1,r.2.2.2.2.2):RG) λ_ q =>
   if q.2.2.2.2.1>1 then gaR a b q.2.1 q.2.2.1 q.2.2.2.1 (q.2.2.2.2.1 - 1) q.2.2.2.2.2.1 q.2.2.2.2.2.2 else gaR a b q.2.1 q.2.2.1 q.2.2.2.1 q.2.2.2.2.1 q.2.2.2.2.2.1 q.2.2.2.2.2.2
  match q.1 with
  |some z=>a5 (.done (ab z,q.2.1,q.2.2.1,q.2.2.2.1,q.2.2.2.2.1))
  |none=>do
   Gk (q.2.2.2.2.1+1)
   a5 (.yield (ae,q.2.1,q.2.2.1,q.2.2.2.1,q.2.2.2.2.1+1))
theorem RZ:mhi a b=(do
 uS "list.sort.merge-hi"
 let y <- eC a (a.size - 1)
 if a.size - 1==0 then a5 (dnR a b #[y] (a.size - 1) b.size)
 else if b.size==1 then a5 (fbR a b #[y] (a.size - 1) b.size)
 else do
  let g <- get
  let c <- iO [0:a.size+b.size] ((ae,a.size - 1,b.size,#[y],rS g):RO) λ_ c=>ouR a b c
  match c.1 with
  |some z=>a5 z
  |none=>pu "internal:list.sort.merge-bound"):=by
 refine aU rfl λ_=>aU rfl λy=>?_
 refine T_ (λz=>ite ((a.size - 1==0)=ag) (a5 (dnR a b #[y] (a.size - 1) b.size)) z) ?_
 refine T_ (λz=>ite ((b.size==1)=ag) (a5 (fbR a b #[y] (a.size - 1) b.size)) z) ?_
 refine aU rfl λg=>aU (T_ (λf=>iO [0:a.size+b.size] ((ae,a.size - 1,b.size,#[y],rS g):RO) f) ?_) ?_
 ·
  funext x c
  refine aU rfl λr=>?_
  cases e:r.1 with
  |some z=>rfl
  |none=>exact aU rfl λ_=>aU rfl λq=>by cases q.1 <;> rfl
 ·
  intro c
  cases c.1 <;> rfl
end
structure MR (O X Y T:List a7):Prop where
 x:SL (X++O)
 y:SL (Y++O)
 p:(X++Y++O).Perm T
theorem MR.symm {O X Y T:List a7}(h:MR O X Y T):MR O Y X T:=⟨h.y,h.x,(abu.append_right _).trans h.p⟩
theorem MR.mv {O P X Y T:List a7}(h:MR O (X++P) Y T) (d:∀p∈P,∀y∈Y,nu y<=nu p):MR (P++O) X Y T:=by
 obtain⟨a,b,e⟩:=h;refine⟨by rw[<- y_];exact a,?_,kv ?_ e⟩
 .unfold SL at *;rw[y_,aaf] at a;rw[aaf] at b |-;refine⟨b.1,a.2.1,λy c z hz=>?_⟩;rcases t_.mp hz with q | q
  .exact d z q y c
  exact b.2.2 y c z q
 rw[y_,y_,y_];refine List.Perm.append_left _ ?_;rw[<- y_,<- y_];exact abu.append_right _
section
variable {prog:bE}
theorem Kl (xs:Array a7) (i:Nat):(xs.extract 0 i).toList=xs.toList.take i:=by simp [aaQ]
theorem Km (xs:Array a7) (i j:Nat):(xs.extract i j).toList=(xs.toList.drop i).take (j - i):=by simp [aaQ]
theorem acJ {xs:Array a7} (h:i<xs.size):xs.toList.take (i+1)=xs.toList.take i++[xs[i]]:=by
 rw[List.take_succ_eq_append_getElem (by simpa using h),ZQ]
theorem vm (xs:List a7) (h:i<=j):xs.take j=xs.take i++(xs.drop i).take (j - i):=by
 have:=List.take_add (l:=xs) (i:=i) (j:=j - i)
 rwa [show i+(j - i)=j by omega] at this
theorem eO {xs:Array a7} (h:z∈xs.toList.take i):∃k,k<i/\∃a:k<xs.size,z=xs[k]:=by
 obtain⟨k,a,rfl⟩:=ZG h;rw[Zm,K_] at a;exact⟨k,adC,adC,by rw[aaW,ZQ]⟩
structure LiR (a b o:Array a7) (i j:Nat):Prop where
 i1:1<=i
 ia:i<=a.size
 j2:2<=j
 jb:j<=b.size
 hn:o.size+i+j=a.size+b.size
 hm:MR o.toList.reverse (a.toList.take i) (b.toList.take j) (a.toList++b.toList)
abbrev MRo (a b o:Array a7) (i j:Nat):Prop:=MR o.toList.reverse (a.toList.take i) (b.toList.take j) (a.toList++b.toList)
theorem zQ:(dnR a b o i j).toList=a.toList.take i++b.toList.take j++o.toList.reverse:=by unfold dnR;rw[Zz,Zz,Kl,Kl,abF]
theorem rY (h:MRo a b o i j) (c:i=0):gF a b (dnR a b o i j):=by
 refine⟨?_,by rw[zQ];exact h.p⟩;rw[zQ,c,gE,aaS];exact h.y
theorem Sd (h:MRo a b o i j) (c:j=0):gF a b (dnR a b o i j):=by
 refine⟨?_,by rw[zQ];exact h.p⟩;rw[zQ,c,gE,P_];exact h.x
theorem rZ (t:TwL a b) (h:MRo a b o i j) (f:j=1):gF a b (fbR a b o i j):=by
 have g:=t.b1;have e:(fbR a b o i j).toList=b.toList.take j++a.toList.take i++o.toList.reverse:=by unfold fbR;rw[Zz,Zz,Kl,Kl,abF]
 refine⟨?_,by rw[e];exact h.symm.p⟩;have c:=h.y;have d:b.toList.take j=[b[0]' adC]:=by rw[f,acJ (i:=0) adC];rfl
 rw[e,d,y_,abv];rw[d,abv] at c;unfold SL at *;refine abS.mpr ⟨λz hz=>?_,h.x⟩;rcases t_.mp hz with q | q
 .exact t.hd z (aaX q) adC
 exact (abS.mp c).1 z q
theorem sr (h:MRo a b o (i+1) j) (f:i<a.size) (c:∀y∈b.toList.take j,nu y<=nu a[i]):MRo a b (o.push a[i]) i j:=by
 have m:=h;unfold MRo at m |-;rw[acJ f] at m;rw[aaJ,aa3];exact m.mv λp d y e=>by rw[e_.mp d];exact c y e
theorem zR (h:MRo a b o i (j+1)) (f:j<b.size) (c:∀x∈a.toList.take i,nu x<=nu b[j]):MRo a b (o.push b[j]) i j:=by
 have m:=h.symm;unfold MRo;rw[acJ f] at m;rw[aaJ,aa3];exact (m.mv λp d y e=>by rw[e_.mp d];exact c y e).symm
theorem Ko (h:MRo a b o i j) (l:k<=i) (n:i<=a.size) (c:∀q (f:q<a.size),k<=q->q<i->∀y∈b.toList.take j,nu y<=nu a[q]):MRo a b (o++(a.extract k i).reverse) k j:=by
 have m:=h;unfold MRo at m |-;rw[vm _ l] at m;rw[Zz,aa3,abF,fi,Km];refine m.mv λp g y e=>?_;obtain⟨q,f,d,rfl⟩:=mem_mid g;exact c _ d adC adC y e
theorem Kp (h:MRo a b o i j) (l:k<=j) (n:j<=b.size) (c:∀q (f:q<b.size),k<=q->q<j->∀x∈a.toList.take i,nu x<=nu b[q]):MRo a b (o++(b.extract k j).reverse) i k:=by
 have m:=h.symm;unfold MRo;rw[vm _ l] at m;rw[Zz,aa3,abF,fi,Km];refine (m.mv λp g y e=>?_).symm;obtain⟨q,f,d,rfl⟩:=mem_mid g;exact c _ d adC adC y e
theorem upto {xs:Array a7} (h:SL xs.toList) (a:i<xs.size) (hz:z∈xs.toList.take (i+1)):nu z<=nu xs[i]:=by
 obtain⟨k,c,b,rfl⟩:=eO hz;exact nT h adC a
theorem Kq (t:TwL a b) {st:a3} (B:kdO st=cw) (h:LiR a b o (i+1) (j+1)) (l:∀z c,gF a b z->Q (.done (ab z,c)) st) (q:∀o' i' j' c,LiR a b o' i' j'->o'.size=o.size+1->Q (.done (ae,i',j',o',c)) st/\Q (.yield (ae,i',j',o',c)) st):kw (ay prog w) A E s (stR a b r (i+1) (j+1) o p n) Q st:=by
 have g:i<a.size:=h.ia;have f:j<b.size:=h.jb;have k:=h.j2;have C:=h.hn;unfold stR;simp only[abU];refine C_ (bA f (C_ (bA g (C_ (nR B (t.ib _ _) (t.ia _ _) ?_)))));dsimp only;by_cases c:nu b[j]<nu a[i]
 .rw[aca (A_ c)];refine C_ (bA g ?_);have m:=sr h.hm g λy u=>ZM (upto t.sb f u) (ZX c);by_cases e:i=0
  .rw[aca (by simp [e])];exact O_ (l _ _ (rY m e))
  rw[ace (by simp [e])];have d:=q (o.push a[i]) i (j+1) (p+1,0) ⟨adC,adC,k,h.jb,by rw[Zo];omega,m⟩ (Zo _);split
  .exact O_ d.1
  exact O_ d.2
 rw[ace (Ex c)];refine C_ (bA f ?_);have m:=zR h.hm f λx v=>ZM (upto t.sa g v) (Int.not_lt.mp c);by_cases e:j=1
 .rw[aca (by simp [e])];exact O_ (l _ _ (rZ t m e))
 rw[ace (by simp [e])];have d:=q (o.push b[j]) (i+1) j (0,n+1) ⟨h.i1,h.ia,adC,adC,by rw[Zo];omega,m⟩ (Zo _);split
 .exact O_ d.1
 exact O_ d.2
def StR (a b:Array a7) (n:Nat) (Q:ForInStep RG->a3->Prop) (st:a3):Prop:=(∀z c d,SSt st d->gF a b z->Q (.done (ab z,c)) d)/\∀o i j c d,SSt st d->LiR a b o i j->n<=o.size->Q (.done (ae,i,j,o,c)) d/\Q (.yield (ae,i,j,o,c)) d
theorem zT (t:TwL a b) {st:a3} (g:i<a.size) (q:2<=j) (r:j<=b.size) (u:o.size+(i+1)+j=a.size+b.size) (p:MRo a b o (i+1) j) (c:∀y∈b.toList.take j,nu y<=nu a[i]) (hz:n<=o.size) (h:StR a b n Q st):kw (ay prog w) A E s (enR a b (i+1) j o d k l) Q st:=by
 unfold enR;simp only[abU];refine C_ (bA g ?_);have m:=sr p g c;by_cases e:i=0
 .rw[aca (by simp [e])];exact O_ (h.1 _ _ _ .refl (rY m e))
 rw[ace (by simp [e])];have f:=h.2 (o.push a[i]) i j (d,k,l) st .refl ⟨adC,adC,q,r,by rw[Zo];omega,m⟩ (by rw[Zo];omega);split
 .exact O_ f.1
 exact O_ f.2
theorem zU (t:TwL a b) {st:a3} (J:kdO st=cw) (f:i<a.size) (l:j<b.size) (P:1<=j) (R:o.size+(i+1)+(j+1)=a.size+b.size) (H:MRo a b o (i+1) (j+1)) (v:∀x∈a.toList.take (i+1),nu x<=nu b[j]) (hz:n<=o.size) (h:StR a b n Q st):kw (ay prog w) A E s (hfR a b (i+1) (j+1) o G k O) Q st:=by
 unfold hfR;simp only[abU];refine C_ (bA l ?_);have m:=zR H l v;by_cases e:j=1
 .rw[aca (by simp [e])];exact O_ (h.1 _ _ _ .refl (rZ t m e))
 rw[ace (by simp [e])];refine C_ (bA f (C_ (nY J (λi j I l _=>nT t.sb adC l) t.ib (t.ia _ _) adC adC λu F C D=>?_)));dsimp only;simp only[aaG] at C D;by_cases c:j - u>0
 .rw[aca c];have B:=Kp m F adC λq g L N x M=>ZM (upto t.sa f M) (D q g L N);have K:(o.push b[j]++(b.extract u j).reverse).size+(i+1)+u=a.size+b.size:=by rw[aaz,Zo,nl,abT];omega
  by_cases p:u=1
  .rw[aca (by simp [p])];exact O_ (h.1 _ _ _ .refl (rZ t B p))
  rw[ace (by simp [p])];by_cases z:u=0
  .rw[aca (by simp [z])];exact O_ (h.1 _ _ _ .refl (Sd B z))
  rw[ace (by simp [z])];refine zT t f adC adC K B (λy r=>?_) (by rw[aaz,Zo];omega) h;obtain⟨q,g,d,rfl⟩:=eO r;exact ZX (C q d g)
 rw[ace c];refine zT t f adC adC (by rw[Zo];omega) m (λy r=>?_) (by rw[Zo];omega) h;obtain⟨q,g,d,rfl⟩:=eO r;exact ZX (C q d adC)
theorem Kr (t:TwL a b) {st:a3} (C:kdO st=cw) (l:LiR a b o (i+1) (j+1)) (h:StR a b o.size Q st):kw (ay prog w) A E s (gaR a b (i+1) (j+1) o L M S) Q st:=by
 have I:i<a.size:=l.ia;have g:j<b.size:=l.jb;have K:=l.j2;have p:=l.hn;unfold gaR;simp only[abU];refine C_ (jO λr k=>C_ (bA g (C_ (nU (k.1.trans C) (λi j N g _=>nT t.sa adC g) t.ia (t.ib _ _) adC adC λu H F G=>?_))));dsimp only;simp only[aaG] at F G;have h':StR a b o.size Q r:=⟨λz c f B hz=>h.1 z c f (k.trans B) hz,λo i j c f B P p=>h.2 o i j c f (k.trans B) P p⟩;by_cases c:i+1 - u>0
 .rw[aca c];have m:=Ko l.hm H adC λq n O R y J=>ZM (upto t.sb g J) (ZX (G q n O R));by_cases e:u=0
  .rw[aca (by simp [e])];exact O_ (h'.1 _ _ _ .refl (rY m e))
  rw[ace (by simp [e])];obtain⟨v,rfl⟩:∃v,u=v+1:=⟨u - 1,adC⟩;refine zU t (k.1.trans C) adC g adC (by rw[aaz,nl,abT];omega) m (λx D=>?_) (by rw[aaz];omega) h';obtain⟨q,n,d,rfl⟩:=eO D;exact F q d n
 rw[ace c];refine zU t (k.1.trans C) I g adC p l.hm (λx D=>?_) (m_ _) h';obtain⟨q,n,d,rfl⟩:=eO D;exact F q d adC
theorem LiR.dest (h:LiR a b o i j):∃c d,i=c+1/\j=d+1:=⟨i - 1,j - 1,by have:=h.i1;omega,by have:=h.j2;omega⟩
theorem Ks (t:TwL a b) {st:a3} (K:kdO st=cw) (J:LiR a b c.2.2.2.1 c.2.1 c.2.2.1) (F:∀z c d,SSt st d->gF a b z->Q (.done (ab z,c)) d) (O:∀o i j H d,SSt st d->LiR a b o i j->c.2.2.2.1.size+1<=o.size->Q (.yield (ae,i,j,o,H)) d):kw (ay prog w) A E s (ouR a b c) Q st:=by
 obtain⟨T,i,j,o,H⟩:=c;dsimp only at J O;have S:=t.a1;unfold ouR;dsimp only;refine C_ (abd (Z7 (I:=λx r d=>d=st/\∃u p n q,r=(ae,u,p,n,q)/\LiR a b n u p/\o.size+x<=n.size)
  (Q:=λr d=>d=st/\((∃z q,r=(ab z,q)/\gF a b z)\/∃u p n q,r=(ae,u,p,n,q)/\LiR a b n u p/\o.size+1<=n.size)) ?_ ?_ ⟨rfl,i,j,o,_,rfl,J,m_ _⟩) ?_)
 .rintro x r d _ R ⟨rfl,u,p,n,q,rfl,l,D⟩;dsimp only;obtain⟨u,p,rfl,rfl⟩:=l.dest;exact Kq t K l (λz c hz=>⟨rfl,.inl ⟨z,c,rfl,hz⟩⟩) λf h k c y e=>⟨⟨rfl,.inr ⟨h,k,f,c,rfl,y,adC⟩⟩,rfl,h,k,f,c,rfl,y,adC⟩
 .rintro r d ⟨rfl,u,p,n,q,rfl,l,D⟩;exact⟨rfl,.inr ⟨u,p,n,q,rfl,l,adC⟩⟩
 rintro r d ⟨rfl,⟨z,q,rfl,hz⟩ | ⟨u,p,n,q,rfl,l,D⟩⟩
 .exact O_ (F _ _ _ .refl hz)
 dsimp only;refine C_ (iA (abD ⟨rfl,?_⟩));refine C_ (abd (Z7 (I:=λx r m=>SSt d m/\∃h k f q,r=(ae,h,k,f,q)/\LiR a b f h k/\o.size+1<=f.size)
  (Q:=λr m=>SSt d m/\((∃z q,r=(ab z,q)/\gF a b z)\/∃h k f q,r=(ae,h,k,f,q)/\LiR a b f h k/\o.size+1<=f.size)) ?_ ?_ ⟨.refl,u,p,n,_,rfl,l,D⟩) ?_)
 .rintro x r m _ R ⟨g,h,k,f,q,rfl,y,v⟩;dsimp only;obtain⟨h,k,rfl,rfl⟩:=y.dest;split <;> exact Kr t (g.1.trans K) y ⟨λz c C B hz=>⟨g.trans B,.inl ⟨z,c,rfl,hz⟩⟩,λG M N c C B L P=>⟨⟨g.trans B,.inr ⟨M,N,G,c,rfl,L,adC⟩⟩,g.trans B,M,N,G,c,rfl,L,adC⟩⟩
 .rintro r m ⟨g,h,k,f,q,rfl,y,v⟩;exact⟨g,.inr ⟨h,k,f,q,rfl,y,v⟩⟩
 rintro r m ⟨g,⟨z,q,rfl,hz⟩ | ⟨h,k,f,q,rfl,y,v⟩⟩
 .exact O_ (F _ _ _ g hz)
 exact C_ (jO λC B=>O_ (O _ _ _ _ _ (g.trans B) y v))
theorem Ku (t:TwL a b) {st:a3} (J:kdO st=cw) (h:∀z d,SSt st d->gF a b z->Q z d):kw (ay prog w) A E s (mhi a b) Q st:=by
 have K:=t.a1;have M:=t.b1;rw[RZ];refine C_ (iA (abD ⟨rfl,?_⟩));refine C_ (bA adC ?_);have F:MRo a b #[] (a.size - 1+1) b.size:=by unfold MRo;rw[ZL (by simp;omega),ZL adE];simp only[List.reverse_nil];exact⟨by rw[P_];exact t.sa,by rw[P_];exact t.sb,by rw[P_]⟩
 have m:MRo a b #[a[a.size - 1]] (a.size - 1) b.size:=sr F adC λy v=>t.tl y (aaX v) adC;by_cases e:a.size - 1=0
 .rw[aca (by simp [e])];exact O_ (h _ _ .refl (rY m e))
 rw[ace (by simp;omega)];by_cases k:b.size=1
 .rw[aca (by simp [k])];exact O_ (h _ _ .refl (rZ t m k))
 rw[ace (by simp [k])];refine C_ (fS (C_ (abd (Z7 (I:=λx c d=>SSt st d/\∃i j o f,c=(ae,i,j,o,f)/\LiR a b o i j/\x<o.size)
  (Q:=λc d=>SSt st d/\∃z q,c=(ab z,q)/\gF a b z) ?_ ?_ ⟨.refl,_,_,_,_,rfl,⟨adC,adC,adC,adC,by show 1+(a.size - 1)+b.size=_;omega,m⟩,by show 0<1;omega⟩) ?_)))
 .rintro x c d _ L ⟨g,i,j,o,f,rfl,l,H⟩;exact Ks t (g.1.trans J) l (λz c p r hz=>⟨g.trans r,z,c,rfl,hz⟩) λD C G n p r B u=>⟨g.trans r,C,G,D,n,rfl,B,by dsimp only at u;omega⟩
 .rintro c d ⟨g,i,j,o,f,rfl,l,H⟩;have:=l.hn;have:=l.i1;have:=l.j2;omega
 rintro c d ⟨g,z,q,rfl,hz⟩;exact O_ (h z d g hz)
end
def Sg (xs:Array a7) (s n:Nat):Prop:=∀i j,s<=i->i<=j->j<s+n->K xs i<=K xs j
theorem WX (h:i<xs.size):K xs i=nu xs[i]:=by unfold K nu;rw[S_ h]
theorem Sh (h:xs.toList[i]?=ab z):K xs i=nu z:=by unfold K nu;rw[<- Zu,h]
theorem Gn (e:xs.toList=P++X++S):Sg xs P.length X.length↔SL X:=by
 have a:∀i (h:i<X.length),K xs (P.length+i)=nu X[i]:=λi h=>Sh (by
  rw[e,y_,H_ adC,show P.length+i - P.length=i by omega,Y_ h,g_ h])
 constructor
 .intro h;refine Zn.mpr λi j c b g=>?_;have:=h (P.length+i) (P.length+j) adC adC adC
  rwa [a i c,a j b] at this
 intro h i j k m l;have c:i - P.length<X.length:=adC
 have b:j - P.length<X.length:=adC
 have f:=a _ c;have d:=a _ b;rw[show P.length+(i - P.length)=i by omega] at f;rw[show P.length+(j - P.length)=j by omega] at d;rw[f,d];rcases aaO (show i - P.length<=j - P.length by omega) with z | z
 .exact Zn.mp h _ _ c b z
 simp only[z];exact ZJ _
theorem zV (u:Nat):∀(l:List a7) (n:Nat) (xs:Array a7) (P M S:List a7),xs.toList=P++M++S->M.length=l.length->P.length=u+n->((l.zipIdx n).foldl (λxs (q:a7 × Nat)=>xs.setIfInBounds (u+q.2) q.1) xs).toList=P++l++S
 |[],n,xs,P,M,S,e,hm,hp=>by
  rw[aac.mp hm] at e
  exact e
 |z::l,n,xs,P,M,S,e,hm,hp=>by
  cases M with
  |nil=>cases hm
  |cons m M =>
   rw[List.zipIdx_cons,qq]
   have a:(xs.setIfInBounds (u+n) z).toList=(P++[z])++M++S:=by
    rw[gX,e,<- hp]
    simp
   rw[zV u l (n+1) _ (P++[z]) M S a (by simpa using hm) (by rw[a_,hp];rfl)]
   simp
def Kv (st:a3) (u:Nat) (z:Array a7):a3:=setArr st ((z.toList.zipIdx 0).foldl (λxs (q:a7 × Nat)=>xs.setIfInBounds (u+q.2) q.1) (aS st))
def mgB (xs:Array a7) (sa na sb nb:Nat):StateT a3 k0 Bool:=do
 let y <- eC xs sb
 match <- gal ah y xs sa na 0 with
 |some k =>
  if na - k==0 then a5 ag
  else do
   let x <- eC xs (sa+k+(na - k) - 1)
   match <- gal ag x xs sb nb (nb - 1) with
   |some m =>
    if m==0 then a5 ag
    else if na - k<=m then do
     let z <- mlo (xs.extract (sa+k) sb) (xs.extract sb (sb+m))
     modify λst=>Kv st (sa+k) z
     let st <- get
     a5 (dS st).isNone
    else do
     let z <- mhi (xs.extract (sa+k) sb) (xs.extract sb (sb+m))
     modify λst=>Kv st (sa+k) z
     let st <- get
     a5 (dS st).isNone
   |_=>a5 ah
 |_=>a5 ah
theorem Kw {st:a3} (h:Q ⟨⟩ x):kw (ay prog w) A E s (set x:StateT a3 k0 PUnit) Q st:=by
 unfold kw;rw[StateT.run_set];exact o_ ⟨rfl,h⟩
theorem Kz (i:Nat) {st:a3} (a:(bm st)[i]?=ab (sa,na,p)) (b:(bm st)[i+1]?=ab (sb,nb,q)) (h:kw (ay prog w) A E s (mgB (aS st) sa na sb nb) Q (f7 st (((bm st).setIfInBounds i (sa,na+nb,p)).eraseIdxIfInBounds (i+1)))):kw (ay prog w) A E s (tS i) Q st:=by
 refine C_ (fS ?_);dsimp only;rw[a,b];exact C_ (Kw h)
structure Chg (xs ys:Array a7) (u v:Nat):Prop where
 pm:ys.toList.Perm xs.toList
 ot:∀i,i<u\/v<=i->ys[i]?=xs[i]?
theorem Chg.refl:Chg xs xs u v:=⟨.refl _,λ_ _=>rfl⟩
theorem Sq (e:xs.toList=P++X++S) (b:c.toList=P++Z++S) (h:Z.Perm X):Chg xs c P.length (P.length+X.length):=by
 refine⟨by rw[e,b];exact (h.append_left _).append_right _,λi a=>?_⟩;rw[<- Zu,<- Zu,e,b];have d:=h.length_eq;rcases a with a | a
 .rw[y_,y_,Y_ a,Y_ a]
 rw[H_ (by rw[a_];omega),H_ (by rw[a_];omega),a_,a_,d]
theorem WY {xs:List a7} (d:u<=v) (f:v<=t) (e:t<=xs.length):∃P X Y S,xs=P++(X++Y)++S/\P.length=u/\X.length=v - u/\Y.length=t - v:=by
 refine⟨xs.take u,(xs.drop u).take (v - u),(xs.drop v).take (t - v),xs.drop t,?_,by rw[Zm];omega,by rw[Zm,Zr];omega,by rw[Zm,Zr];omega⟩;have c:=Zi u xs;have a:=Zi (v - u) (xs.drop u);rw[k7,show u+(v - u)=v by omega] at a;have b:=Zi (t - v) (xs.drop v);rw[k7,show v+(t - v)=t by omega] at b;rw[y_,y_,b,a,c]
theorem aef:SL (X++Y)↔SL X/\SL Y/\∀x∈X,∀y∈Y,nu x<=nu y:=aaf
theorem Gp {xs:Array a7} (e:xs.toList=P++X++S) (h:i<X.length):∃b:P.length+i<xs.size,xs[P.length+i]=X[i]:=by
 have a:xs.size=(P++X++S).length:=by rw[<- e,K_]
 rw[a_,a_] at a;refine⟨adC,?_⟩;have:xs.toList[P.length+i]?=ab X[i]:=by rw[e,y_,H_ adC,show P.length+i - P.length=i by omega,Y_ h,g_ h]
 rw[Zu,S_ adC] at this;exact Zg this
theorem KD {st:a3} (p:kdO st=cw) (T:dS st=ae) (t:∀i (h:i<(aS st).size),Iny (aS st)[i]) (e:(aS st).toList=P++(X++Y)++S) (x1:1<=X.length) (y1:1<=Y.length) (H:SL X) (L:SL Y) (h:∀a Z,kdO a=cw->dS a=ae->bm a=bm st->(aS a).toList=P++Z++S->Z.Perm (X++Y)->SL Z->Q ag a):kw (ay prog w) A E s (mgB (aS st) P.length X.length (P.length+X.length) Y.length) Q st:=by
 have eX:(aS st).toList=P++X++(Y++S):=by rw[e];simp
 have W:(aS st).toList=(P++X)++Y++S:=by rw[e];simp
 have hl:(aS st).size=P.length+X.length+Y.length+S.length:=by rw[<- K_,e];simp;omega
 have F:∀i (h:i<X.length) (p:P.length+i<(aS st).size),nu (aS st)[P.length+i]=nu X[i]:=λi h p=>by rw[(Gp eX h).2]
 have B:∀i (h:i<Y.length) (p:P.length+X.length+i<(aS st).size),nu (aS st)[P.length+X.length+i]=nu Y[i]:=λi h p=>by obtain⟨_,q⟩:=Gp W h;simp only[a_] at q;rw[q]
 have R:∀i j (d:i<=j) (l:j<X.length),nu (X[i]' adC)<=nu X[j]:=λi j d l=>by
  rcases aaO d with z | z
  .exact Zn.mp H i j adC l z
  subst z;exact ZJ _
 have N:∀i j (d:i<=j) (l:j<Y.length),nu (Y[i]' adC)<=nu Y[j]:=λi j d l=>by
  rcases aaO d with z | z
  .exact Zn.mp L i j adC l z
  subst z;exact ZJ _
 have o:∀{z:a7},z∈X->∃i,∃h:i<X.length,z=X[i]:=λhz=>by obtain⟨i,h,e⟩:=ZG hz;exact⟨i,h,e.symm⟩
 have r:∀{z:a7},z∈Y->∃i,∃h:i<Y.length,z=Y[i]:=λhz=>by obtain⟨i,h,e⟩:=ZG hz;exact⟨i,h,e.symm⟩
 unfold mgB;refine C_ (bA adC (C_ (nU p (λi j d l I=>?_) t (t _ _) adC adC λk k1 V k3=>?_)))
 .rw[F i adC,F j I];exact R i j d I
 dsimp only;have y0:nu ((aS st)[P.length+X.length]' adC)=nu (Y[0]' adC):=B 0 adC adC;rw[y0] at V k3;by_cases c:X.length - k=0
 .rw[aca (by simp [c])];refine O_ (h st (X++Y) p T rfl e (.refl _) (aef.mpr ⟨H,L,λx t y f=>?_⟩));obtain⟨i,n,rfl⟩:=o t;obtain⟨j,l,rfl⟩:=r f;have:=V i adC adC;rw[F i n] at this;exact ZM this (N 0 j adC l)
 rw[ace (by simpa using c)];have xl:nu ((aS st)[P.length+k+(X.length - k) - 1]' adC)=nu (X[X.length - 1]' adC):=by simpa only[show P.length+k+(X.length - k) - 1=P.length+(X.length - 1) by omega] using F (X.length - 1) adC adC
 refine C_ (bA adC (C_ (nY p (λi j d l I=>?_) t (t _ _) adC adC λm m1 m2 O=>?_)))
 .rw[B i adC,B j I];exact N i j d I
 dsimp only;rw[xl] at m2 O;by_cases c2:m=0
 .rw[aca (by simp [c2])];refine O_ (h st (X++Y) p T rfl e (.refl _) (aef.mpr ⟨H,L,λx t y f=>?_⟩));obtain⟨i,n,rfl⟩:=o t;obtain⟨j,l,rfl⟩:=r f;have:=O j adC adC l;rw[B j l] at this;exact ZM (R i (X.length - 1) adC adC) this
 rw[ace (by simpa using c2)];have C:((aS st).extract (P.length+k) (P.length+X.length)).toList=X.drop k:=by rw[Km,eX,y_,i7,Z6 adC,aaS,show P.length+k - P.length=k by omega,i7,o0,Zr,show P.length+X.length - (P.length+k) - (X.length - k)=0 by omega,gE,P_,ZL (by rw[Zr];omega)]
 have D:((aS st).extract (P.length+X.length) (P.length+X.length+m)).toList=Y.take m:=by rw[Km,W,y_,i7,Z6 (by rw[a_];omega),aaS,a_,n9,abW,show P.length+X.length+m - (P.length+X.length)=m by omega,o0,show m - Y.length=0 by omega,gE,P_]
 have M:∀(u v:Nat) i (h:i<((aS st).extract u v).size),Iny ((aS st).extract u v)[i]:=λu v i h=>by rw[Array.getElem_extract];exact t _ _
 have gx:∀i (h:i<((aS st).extract (P.length+k) (P.length+X.length)).size),∃n:k+i<X.length,((aS st).extract (P.length+k) (P.length+X.length))[i]=X[k+i]:=λi h=>by
  have n:k+i<X.length:=by rw[<- K_,C,Zr] at h;omega
  refine⟨n,?_⟩;rw[<- ZQ];simp only[C,aaV]
 have gy:∀i (h:i<((aS st).extract (P.length+X.length) (P.length+X.length+m)).size),∃n:i<Y.length,((aS st).extract (P.length+X.length) (P.length+X.length+m))[i]=Y[i]:=λi h=>by
  have n:i<m/\i<Y.length:=by rw[<- K_,D,Zm] at h;omega
  refine⟨n.2,?_⟩;rw[<- ZQ];simp only[D,aaW]
 have zx:((aS st).extract (P.length+k) (P.length+X.length)).size=X.length - k:=by rw[<- K_,C,Zr]
 have zy:((aS st).extract (P.length+X.length) (P.length+X.length+m)).size=m:=by rw[<- K_,D,Zm];omega
 have tw:TwL ((aS st).extract (P.length+k) (P.length+X.length)) ((aS st).extract (P.length+X.length) (P.length+X.length+m)):=by
  refine⟨adC,adC,M _ _,M _ _,by rw[C];exact H.sublist (oa ..),by rw[D];exact L.sublist (h7 ..),λx b U=>?_,λy f U=>?_⟩
  .rw[(gy 0 U).2];rw[C] at b;obtain⟨i,n,rfl⟩:=ZG b;rw[Zr] at n;rw[aaV];have:=k3 (k+i) adC adC adC;rw[F _ adC] at this;exact ZX this
  rw[(gx _ U).2];rw[D] at f;obtain⟨i,n,rfl⟩:=ZG f;rw[Zm] at n;rw[aaW];have:=m2 i adC adC;rw[B i adC] at this;simpa only[zx,show k+(X.length - k - 1)=X.length - 1 by omega] using ZX this
 have G:∀(z:Array a7) (a:a3),SSt st a->gF ((aS st).extract (P.length+k) (P.length+X.length)) ((aS st).extract (P.length+X.length) (P.length+X.length+m)) z->kw (ay prog w) A E s ((modify λst=>Kv st (P.length+k) z) >>= λ_=>get >>= λst=>a5 (dS st).isNone) Q a:=by
  rintro z a ⟨g1,g2,g3,g4⟩ ⟨hz,J⟩;rw[C,D] at J;refine C_ (f6 (C_ (fS (O_ ?_))));have K:dS a=ae:=g4.trans T;show Q (dS a).isNone (Kv a (P.length+k) z);rw[K];refine h _ (X.take k++z.toList++Y.drop m) (g1.trans p) K g3 ?_ ?_ ?_
  .have:=zV (P.length+k) z.toList 0 (aS a) (P++X.take k) (X.drop k++Y.take m) (Y.drop m++S) (by rw[g2,e];simp only[y_];rw[<- y_ (Y.take m),Zi,<- y_ (X.take k),Zi]) J.length_eq.symm (by rw[a_,Zm];omega);show ((z.toList.zipIdx 0).foldl (λxs (q:a7 × Nat)=>xs.setIfInBounds (P.length+k+q.2) q.1) (aS a)).toList=_;rw[this];simp only[y_]
  .refine ((J.append_left _).append_right _).trans ?_;rw[<- y_ (X.take k),Zi,y_,Zi]
  have sX:=aef.mp (show SL (X.take k++X.drop k) by rw[Zi];exact H);have sY:=aef.mp (show SL (Y.take m++Y.drop m) by rw[Zi];exact L);have xy:∀x∈X.take k,∀y∈Y,nu x<=nu y:=λx b y f=>by obtain⟨i,n,rfl⟩:=ZG b;rw[Zm] at n;rw[aaW];obtain⟨j,l,rfl⟩:=r f;have:=V i adC adC;rw[F i adC] at this;exact ZM this (N 0 j adC l)
  have yx:∀x∈X,∀y∈Y.drop m,nu x<=nu y:=λx b y f=>by obtain⟨j,l,rfl⟩:=ZG f;rw[Zr] at l;rw[aaV];obtain⟨i,n,rfl⟩:=o b;have:=O (m+j) adC adC adC;rw[B _ adC] at this;exact ZM (R i (X.length - 1) adC adC) this
  refine aef.mpr ⟨aef.mpr ⟨sX.1,hz,λx b y f=>?_⟩,sY.2.1,λx b y f=>?_⟩
  .rcases t_.mp (J.mem_iff.mp f) with q | q
   .exact sX.2.2 x b y q
   exact xy x b y (aaX q)
  rcases t_.mp b with q | q
  .exact yx x (aaX q) y f
  rcases t_.mp (J.mem_iff.mp q) with q | q
  .exact yx x (fk q) y f
  exact sY.2.2 x q y f
 split
 .exact C_ (Kh tw p λz a g hz=>G z a g hz)
 exact C_ (Ku tw p λz a g hz=>G z a g hz)
def asL (d a n:Nat):StateT a3 k0 AscSt:=iO [a:n] ((ae,a):AscSt) λ_ c=>do
 match <- pS (d+c.2) (d+c.2 - 1) with
 |some b=>if b=ag then a5 (.done (ae,c.2)) else a5 (.yield (ae,c.2+1))
 |_=>a5 (.done (ab ae,c.2))
def tlL (a m n:Nat):StateT a3 k0 (Option Nat):=do
 c9 a (a+m)
 let c <- asL a m n
 match c.1 with
 |some r=>a5 r
 |none=>a5 (ab c.2)
def deL (a m n:Nat):StateT a3 k0 DescSt:=iO [m:n] ((ae,m,0):DescSt) λ_ c=>do
 match <- pS (a+c.2.1) (a+c.2.1 - 1) with
 |some b =>
  if b=ag then
   if c.2.2>0 then do
    c9 (a+c.2.1 - (c.2.2+1)) (a+c.2.1)
    a5 (.yield (ae,c.2.1+1,0))
   else a5 (.yield (ae,c.2.1+1,0))
  else do
   match <- pS (a+c.2.1 - 1) (a+c.2.1) with
   |some b=>if b=ag then a5 (.done (ae,c.2.1,c.2.2)) else a5 (.yield (ae,c.2.1+1,c.2.2+1))
   |_=>a5 (.done (ab ae,c.2.1,c.2.2))
 |_=>a5 (.done (ab ae,c.2.1,c.2.2))
def dpL (a m n:Nat):StateT a3 k0 (Option Nat):=do
 liftM (uS "list.sort.descending-run")
 let c <- deL a (m+1) n
 match c.1 with
 |some r=>a5 r
 |none =>
  if c.2.2>0 then do
   c9 (a+c.2.1 - (c.2.2+1)) (a+c.2.1)
   tlL a c.2.1 n
  else tlL a c.2.1 n
theorem W0 (a n:Nat):countRun' a n=(do
  let c <- asL a 1 n
  match c.1 with
  |some r=>a5 r
  |none =>
   if (c.2==n)=ag then a5 (ab c.2)
   else if c.2>1 then do
    match <- pS a (a+c.2 - 1) with
    |some b=>if b=ag then a5 (ab c.2) else do
      c9 a (a+c.2)
      dpL a c.2 n
    |_=>a5 ae
   else dpL a c.2 n):=by
 rw[countRun'_eq]
 have e:∀m,(do
   c9 a (a+m)
   let mut n':=m
   for _ in [n':n] do
    let ab smaller <- pS (a+n') (a+n' - 1) | return ae
    if smaller then break
    n':=n'+1
   return ab n')=tlL a m n:=λm=>by
  unfold tlL asL
  refine aU rfl λ_=>aU rfl λ⟨r,k⟩=>?_
  cases r <;> rfl
 have d:∀m,(do
   uS "list.sort.descending-run"
   let mut n':=m+1
   let mut neq:=0
   for _ in [n':n] do
    let ab smaller <- pS (a+n') (a+n' - 1) | return ae
    if smaller then
     if neq>0 then c9 (a+n' - (neq+1)) (a+n')
     neq:=0
    else
     let ab larger <- pS (a+n' - 1) (a+n') | return ae
     if larger then break
     neq:=neq+1
    n':=n'+1
   if neq>0 then c9 (a+n' - (neq+1)) (a+n')
   c9 a (a+n')
   for _ in [n':n] do
    let ab smaller <- pS (a+n') (a+n' - 1) | return ae
    if smaller then break
    n':=n'+1
   return ab n')=dpL a m n:=λm=>by
  unfold dpL
  refine aU rfl λ_=>aU rfl λ⟨r,k,q⟩=>?_
  cases r with
  |some r=>rfl
  |none =>
   dsimp only
   split
   ·
    exact aU rfl λ_=>e _
   ·
    exact e _
 unfold asL
 refine aU rfl λ⟨r,k⟩=>?_
 cases r with
 |some r=>rfl
 |none =>
  dsimp only
  split
  ·
   rfl
  ·
   split
   ·
    refine aU rfl λx=>?_
    cases x with
    |none=>rfl
    |some b =>
     dsimp only
     split
     ·
      rfl
     ·
      exact aU rfl λ_=>d _
   ·
    exact d _
section
variable {a₀:Array a7}
structure LB (a₀:Array a7) (ps:Array (Nat × Nat × Nat)) (st:a3):Prop where
 pm:(aS st).Perm a₀
 kd:kdO st=cw
 fl:dS st=ae
 pd:bm st=ps
theorem LB.sz {st:a3}(h:LB a₀ ps st):(aS st).size=a₀.size:=h.pm.size_eq
theorem LB.set {st:a3} (h:LB a₀ ps st) (q:xs.Perm (aS st)):LB a₀ ps (setArr st xs):=⟨q.trans h.pm,h.kd,h.fl,h.pd⟩
theorem LB.iny {st:a3}(h:LB a₀ ps st) (a:IntKeys a₀) (i:Nat) (b:i<(aS st).size):Iny (aS st)[i]:=a _ ((Array.perm_iff_toList_perm.mp h.pm).mem_iff.mp adE)
theorem LB.lt {st:a3} (h:LB a₀ ps st) (c:IntKeys a₀) (e:i<a₀.size) (d:j<a₀.size) (q:Q (ab (decide (K (aS st) i<K (aS st) j))) st):kw (ay prog w) A E s (pS i j) Q st:=by
 have b:i<(aS st).size:=by rw[h.sz];exact e
 have a:j<(aS st).size:=by rw[h.sz];exact d
 rw[ltAt'_eq];refine C_ (fS (C_ (bA b (C_ (bA a (nR h.kd (h.iny c _ _) (h.iny c _ _) ?_))))))
 rwa [WX b,WX a] at q
def Dc (xs:Array a7) (s n:Nat):Prop:=∀i j,s<=i->i<=j->j<s+n->K xs j<=K xs i
def Lf (a:Nat) (xs b:Array a7):Prop:=∀i,i<a->K b i=K xs i
theorem Lf.refl:Lf a xs xs:=λ_ _=>rfl
theorem Lf.trans (h:Lf a xs d) (g:Lf a d b):Lf a xs b:=λi c=>(g i c).trans (h i c)
theorem su (d:a<=u) (b:v<=xs.size):Lf a xs (fy xs u v ((v - u) / 2)):=λi c=>by rw[t0 b,ace adC]
theorem Sg.more (g:1<=x) (h:Sg xs a x) (e:K xs (a+x - 1)<=K xs (a+x)):Sg xs a (x+1):=λi j b f k=>by
 by_cases c:j<a+x
 .exact h i j b f c
 obtain rfl:j=a+x:=by omega
 by_cases d:i=a+x
 .subst d;exact ZJ _
 exact ZM (h i (a+x - 1) b adC adC) e
theorem Dc.more (g:1<=x) (h:Dc xs a x) (e:K xs (a+x)<=K xs (a+x - 1)):Dc xs a (x+1):=λi j b f k=>by
 by_cases c:j<a+x
 .exact h i j b f c
 obtain rfl:j=a+x:=by omega
 by_cases d:i=a+x
 .subst d;exact ZJ _
 exact ZM e (h i (a+x - 1) b adC adC)
theorem Ss:Sg xs a 1:=λi j d c b=>by
 obtain rfl:i=j:=by omega
 exact ZJ _
theorem zW {st:a3} (j:IntKeys a₀) (p:e+n<=a₀.size) (o:1<=a) (i:a<=n) (B:LB a₀ ps st) (k:Sg (aS st) e a) (h:∀m,a<=m->m<=n->Sg (aS st) e m->(m=n\/K (aS st) (e+m)<K (aS st) (e+m - 1))->Q (ae,m) st):kw (ay prog w) A E s (asL e a n) Q st:=by
 unfold asL;refine Z7 (I:=λx c d=>d=st/\c=(ae,x)/\Sg (aS st) e x) ?_ ?_ ⟨rfl,rfl,k⟩
 .rintro x c d g l ⟨rfl,rfl,b⟩;dsimp only;refine C_ (B.lt j adC adC ?_);dsimp only;by_cases f:K (aS d) (e+x)<K (aS d) (e+x - 1)
  .rw[aca (A_ f)];exact O_ (h x g adC b (.inr f))
  rw[ace (by simpa using f)];exact O_ ⟨rfl,rfl,b.more adC (Int.not_lt.mp f)⟩
 rintro c d ⟨rfl,rfl,b⟩;rw[show max a n=n by omega] at b |-;exact h n i (m_ _) b (.inl rfl)
def Fd (a₀:Array a7) (ps:Array (Nat × Nat × Nat)) (st:a3) (b n:Nat) (Q:Option Nat->a3->Prop):Prop:=∀m a,LB a₀ ps a->Lf b (aS st) (aS a)->1<=m->m<=n->Sg (aS a) b m->Q (ab m) a
theorem Fd.by {st a:a3} (h:Fd a₀ ps st c n Q) (g:Lf c (aS st) (aS a)):Fd a₀ ps a c n Q:=λm d b l=>h m d b (g.trans l)
theorem zX {st:a3} (d:IntKeys a₀) (f:a+n<=a₀.size) (c:1<=m) (e:m<=n) (B:LB a₀ ps st) (o:Dc (aS st) a m) (h:Fd a₀ ps st a n Q):kw (ay prog w) A E s (tlL a m n) Q st:=by
 unfold tlL;have hz:a+m<=(aS st).size:=by rw[B.sz];omega
 refine C_ (kC ?_);have b:=B.set (kP (aS st) a (a+m) ((a+m - a) / 2));refine C_ (zW d f c e b (λi j t p r=>?_) λk q l g _=>O_ (h k _ b (su (m_ _) hz) adC l g));show K (fy (aS st) _ _ _) i<=K (fy (aS st) _ _ _) j;rw[t0 hz,t0 hz,aca adC,aca adC];exact o _ _ adC adC adC
theorem KH {st:a3} (D:IntKeys a₀) (N:b+n<=a₀.size) (M:1<=m) (L:m<=n) (B:LB a₀ ps st) (G:Dc (aS st) b m) (h:∀k q a,LB a₀ ps a->Lf b (aS st) (aS a)->m<=k->k<=n->Dc (aS a) b k->q+1<=k->(∀i,b+k - (q+1)<=i->i<b+k->K (aS a) i=K (aS a) (b+k - 1))->Q (ae,k,q) a):kw (ay prog w) A E s (deL b m n) Q st:=by
 unfold deL;have l:∀(xs:Array a7) x i,b+(x+1) - (0+1)<=i->i<b+(x+1)->K xs i=K xs (b+(x+1) - 1):=λxs x i t p=>by rw[show i=b+(x+1) - 1 by omega]
 refine Z7 (I:=λx c a=>∃q,c=(ae,x,q)/\LB a₀ ps a/\Lf b (aS st) (aS a)/\Dc (aS a) b x/\q+1<=x/\∀i,b+x - (q+1)<=i->i<b+x->K (aS a) i=K (aS a) (b+x - 1)) ?_ ?_ ⟨0,rfl,B,.refl,G,adC,λi t p=>by rw[show i=b+m - 1 by omega]⟩
 .rintro x c a v H ⟨q,rfl,e,f,d,r,g⟩;dsimp only;have hz:b+x<=(aS a).size:=by rw[e.sz];omega
  refine C_ (e.lt D adC adC ?_);dsimp only;by_cases u:K (aS a) (b+x)<K (aS a) (b+x - 1)
  .rw[aca (A_ u)];by_cases z:q>0
   .rw[aca z];have o:=k8 hz g;refine C_ (kC (O_ ⟨0,rfl,e.set (kP _ _ _ _),f.trans (su adC hz),Dc.more adC (λi j t p J=>?_) ?_,adC,l _ x⟩))
    .show K (fy _ _ _ _) j<=K (fy _ _ _ _) i;rw[o,o];exact d i j t p J
    show K (fy _ _ _ _) _<=K (fy _ _ _ _) _;rw[o,o];exact ZX u
   rw[ace z];exact O_ ⟨0,rfl,e,f,d.more adC (ZX u),adC,l _ x⟩
  rw[ace (by simpa using u)];refine C_ (e.lt D adC adC ?_);dsimp only;by_cases C:K (aS a) (b+x - 1)<K (aS a) (b+x)
  .rw[aca (A_ C)];exact O_ (h x q a e f v adC d r g)
  rw[ace (by simpa using C)];have y:K (aS a) (b+x)=K (aS a) (b+x - 1):=adC
  refine O_ ⟨q+1,rfl,e,f,d.more adC (by rw[y];exact ZJ _),adC,λi t p=>?_⟩;rw[show b+(x+1) - 1=b+x by omega];by_cases F:i=b+x
  .rw[F]
  rw[y];exact g i adC adC
 rintro c a ⟨q,rfl,e,f,d,r,g⟩;rw[show max m n=n by omega] at d r g |-;exact h n q a e f L (m_ _) d r g
theorem zY {st:a3} (c:IntKeys a₀) (e:b+n<=a₀.size) (v:m+1<=n) (B:LB a₀ ps st) (y:Dc (aS st) b (m+1)) (h:Fd a₀ ps st b n Q):kw (ay prog w) A E s (dpL b m n) Q st:=by
 unfold dpL;refine C_ (iA (abD ⟨rfl,?_⟩));refine C_ (KH c e adC v B y λk q f d p z o a C x=>?_);dsimp only;have hz:b+k<=(aS f).size:=by rw[d.sz];omega
 by_cases g:q>0
 .rw[aca g];have l:=k8 hz x;refine C_ (kC (zX c e adC o (d.set (kP _ _ _ _)) (λi j u r t=>?_) (h.by (p.trans (su adC hz)))));show K (fy _ _ _ _) j<=K (fy _ _ _ _) i;rw[l,l];exact a i j u r t
 rw[ace g];exact zX c e adC o d a (h.by p)
theorem Su {st:a3} (c:IntKeys a₀) (o:a+n<=a₀.size) (x:1<=n) (B:LB a₀ ps st) (h:Fd a₀ ps st a n Q):kw (ay prog w) A E s (countRun' a n) Q st:=by
 rw[W0];refine C_ (zW c o (m_ 1) x B Ss λm q t f y=>?_);dsimp only;by_cases e:m=n
 .rw[aca (by simpa using e)];exact O_ (h m st B .refl q t f)
 rw[ace (by simpa using e)];have v:=y.resolve_left e;by_cases g:m>1
 .rw[aca g];refine C_ (B.lt c adC adC ?_);dsimp only;by_cases u:K (aS st) a<K (aS st) (a+m - 1)
  .rw[aca (A_ u)];exact O_ (h m st B .refl q t f)
  rw[ace (by simpa using u)];have hz:a+m<=(aS st).size:=by rw[B.sz];omega
  have p:∀k,a<=k->k<a+m->K (aS st) k=K (aS st) (a+m - 1):=λk b l=>by have C:=f a k (m_ _) b l;have z:=f k (a+m - 1) b adC adC;omega
  have d:=k8 hz p;refine C_ (kC (zY c o adC (B.set (kP _ _ _ _)) (Dc.more q (λi j b l r=>?_) ?_) (h.by (su (m_ _) hz))))
  .show K (fy _ _ _ _) j<=K (fy _ _ _ _) i;rw[d,d,p i b adC,p j adC r];exact ZJ _
  show K (fy _ _ _ _) _<=K (fy _ _ _ _) _;rw[d,d];exact ZX v
 rw[ace g];obtain rfl:m=1:=by omega
 exact zY c o adC B (Dc.more (m_ 1) (λi j b l r=>by
  obtain rfl:i=j:=by omega
  exact ZJ _) (ZX v)) h
theorem Sv {st:a3} (O:IntKeys a₀) (S:b+n<=a₀.size) (F:1<=m) (D:m<=n) (B:LB a₀ ps st) (P:Sg (aS st) b m) (h:∀a,LB a₀ ps a->Lf b (aS st) (aS a)->Sg (aS a) b n->Q ag a):kw (ay prog w) A E s (binarySort' b n m) Q st:=by
 rw[binarySort'_eq];refine C_ (abd (Z7 (I:=λk c a=>c=(ae,())/\LB a₀ ps a/\Lf b (aS st) (aS a)/\Sg (aS a) b (min k n)) (Q:=λc a=>c=(ae,())/\LB a₀ ps a/\Lf b (aS st) (aS a)/\Sg (aS a) b n) ?_ ?_ ⟨rfl,B,.refl,by rw[show min (max m 1) n=m by omega];exact P⟩) ?_)
 .rintro k c a J G ⟨rfl,o,t,e⟩;rw[show min k n=k by omega] at e;refine C_ (abd (Z7 (I:=λx c f=>f=a/\∃l r,c=(ae,l,r)/\l<=r/\r<=k/\r - l<=k - x/\(∀i,b<=i->i<b+l->K (aS a) i<=K (aS a) (b+k))/\∀i,b+r<=i->i<b+k->K (aS a) (b+k)<K (aS a) i)
   (Q:=λc f=>f=a/\∃l r,c=(ae,l,r)/\l<=k/\(∀i,b<=i->i<b+l->K (aS a) i<=K (aS a) (b+k))/\∀i,b+l<=i->i<b+k->K (aS a) (b+k)<K (aS a) i) ?_ ?_ ⟨rfl,0,k,rfl,adC,adC,adC,λi _ _=>by omega,λi _ _=>by omega⟩) ?_)
  .rintro x c f _ T ⟨rfl,l,r,rfl,L,v,H,p,q⟩;dsimp only;by_cases g:l ≥ r
   .rw[aca g];obtain rfl:l=r:=by omega
    exact O_ ⟨rfl,l,l,rfl,v,p,q⟩
   rw[ace g];refine C_ (o.lt O adC adC ?_);dsimp only;by_cases u:K (aS f) (b+k)<K (aS f) (b+(l+r) / 2)
   .rw[aca (A_ u)];exact O_ ⟨rfl,l,(l+r) / 2,rfl,adC,adC,adC,p,λi y C=>Int.lt_of_lt_of_le u (e _ _ adC y C)⟩
   rw[ace (by simpa using u)];exact O_ ⟨rfl,(l+r) / 2+1,r,rfl,adC,adC,adC,λi y C=>ZM (e i (b+(l+r) / 2) y adC adC) (Int.not_lt.mp u),q⟩
  .rintro c f ⟨rfl,l,r,rfl,L,v,H,p,q⟩;obtain rfl:l=r:=by omega
   exact⟨rfl,l,l,rfl,v,p,q⟩
  rintro c f ⟨rfl,l,r,rfl,v,p,q⟩;show kw _ _ _ _ (moveDown' (b+k) (b+l) >>= λ_=>a5 (b9 (ae,()))) _ _;rw[moveDown'_eq];have N:b+k<(aS f).size:=by rw[o.sz];omega
  have z:=λi=>K_bubble N (d:=b+k - (b+l)) adC i;refine C_ (f6 (O_ ⟨rfl,o.set (bubble_perm _ _ _),t.trans λi R=>?_,?_⟩))
  .show K (bubble _ _ _) i=_;rw[z,ace adC,ace adC]
  rw[show min (k+1) n=k+1 by omega];intro i j y C U;show K (bubble _ _ _) i<=K (bubble _ _ _) j;rw[z,z,show b+k - (b+k - (b+l))=b+l by omega]
  repeat' split
  all_goals first
   | (exfalso;omega)
   |exact ZJ _
   |exact p _ adC adC
   |exact ZX (q _ adC adC)
   |exact e _ _ adC adC adC
 .rintro c a ⟨M,o,t,e⟩;rw[show min (max (max m 1) n) n=n by omega] at e;exact⟨M,o,t,e⟩
 rintro c a ⟨rfl,o,t,e⟩;exact O_ (h a o t e)
end
def Rns (xs:Array a7):Nat->List (Nat × Nat × Nat)->Nat->Prop
 |u,[],v=>u=v
 |u,p::ps,v=>p.1=u/\1<=p.2.1/\Sg xs u p.2.1/\Rns xs (u+p.2.1) ps v
theorem Rns.le:∀{ps:List (Nat × Nat × Nat)}{u v:Nat},Rns xs u ps v->u+ps.length<=v
 |[],_,_,h=>abh h
 |p::ps,u,v,h=>by
  have:=h.2.2.2.le
  have:=h.2.1
  rw[i_]
  omega
theorem Rns.by:∀{ps:List (Nat × Nat × Nat)}{u v:Nat},Rns xs u ps v->(∀i,u<=i->i<v->K c i=K xs i)->Rns c u ps v
 |[],_,_,h,_=>h
 |p::ps,u,v,h,k=>by
  have e:=h.2.2.2.le
  exact⟨h.1,h.2.1,λi j b a d=>by rw[k i b adC,k j adC adC];exact h.2.2.1 i j b a d,h.2.2.2.by λi b a=>k i adC a⟩
theorem Rns.app:∀{A B:List (Nat × Nat × Nat)}{u v:Nat},Rns xs u (A++B) v↔∃m,Rns xs u A m/\Rns xs m B v
 |[],B,u,v=>⟨λh=>⟨u,rfl,h⟩,λ⟨m,e,h⟩=>by rw[show u=m from e];exact h⟩
 |p::A,B,u,v=>by
  show (_/\_/\_/\Rns xs _ (A++B) v)↔_
  rw[Rns.app (A:=A)]
  exact⟨λ⟨a,b,c,m,d,e⟩=>⟨m,⟨a,b,c,d⟩,e⟩,λ⟨m,⟨a,b,c,d⟩,e⟩=>⟨a,b,c,m,d,e⟩⟩
section
variable {a₀:Array a7}
theorem vo {st:a3} (V:IntKeys a₀) (b:LB a₀ ps st) (e:ps.toList=U++x::y::B) (f:U.length=i) (R:Rns (aS st) 0 ps.toList v) (hv:v<=a₀.size) (h:∀c ps',LB a₀ ps' c->ps'.toList=U++(x.1,x.2.1+y.2.1,x.2.2)::B->Rns (aS c) 0 ps'.toList v->(∀i,v<=i->K (aS c) i=K (aS st) i)->Q ag c):kw (ay prog w) A E s (tS i) Q st:=by
 obtain⟨sa,na,p⟩:=x;obtain⟨sb,nb,q⟩:=y;subst f;have n:(bm st).toList=U++(sa,na,p)::(sb,nb,q)::B:=by rw[b.pd,e]
 refine Kz _ (sa:=sa) (na:=na) (p:=p) (sb:=sb) (nb:=nb) (q:=q) (by rw[<- Zu,n];simp) (by rw[<- Zu,n,H_ adC];simp) ?_;rw[e] at R;obtain⟨m,L,G,r,I,z,F,C,g⟩:=Rns.app.mp R;dsimp only at G r I z F C g;subst G z;have lB:=g.le;obtain⟨P,X,Y,S,d,lp,lx,ly⟩:=WY (xs:=(aS st).toList) (u:=sa) (v:=sa+na) (t:=sa+na+nb) adC adC (by rw[K_,b.sz];omega);have l:X.length=na:=adC
 have k:Y.length=nb:=adC
 subst lp l k;have M:(aS st).toList=P++X++(Y++S):=by rw[d];simp
 have J:(aS st).toList=(P++X)++Y++S:=by rw[d];simp
 refine KD (st:=f7 st (((bm st).setIfInBounds U.length (P.length,X.length+Y.length,p)).eraseIdxIfInBounds (U.length+1))) b.kd b.fl (b.iny V) d r F ((Gn M).mp I) ((Gn J).mp (by rw[a_];exact C)) λc Z O k2 N D o T=>?_;have ch:=Sq d D o;have W:Z.length=X.length+Y.length:=by rw[o.length_eq,a_]
 rw[a_] at ch;have j:∀i,i<P.length\/P.length+(X.length+Y.length)<=i->K (aS c) i=K (aS st) i:=λi f=>K_congr (ch.ot i f);have H:(bm c).toList=U++(P.length,X.length+Y.length,p)::B:=by rw[N];show (((bm st).setIfInBounds U.length (P.length,X.length+Y.length,p)).eraseIdxIfInBounds (U.length+1)).toList=_;rw[Array.toList_eraseIdxIfInBounds,gX,n];simp only[List.set_append_right,m_,n9,List.set_cons_zero];rw[List.eraseIdx_append_of_length_le adC,show U.length+1 - U.length=1 by omega];rfl
 refine h c (bm c) ⟨(Array.perm_iff_toList_perm.mpr ch.pm).trans b.pm,O,k2,rfl⟩ H ?_ λi a=>j i (.inr adC);rw[H];refine Rns.app.mpr ⟨P.length,L.by λi _ a=>j i (.inl a),rfl,by dsimp only;omega,?_,?_⟩
 .have:=(Gn D).mpr T
  rwa [W] at this
 dsimp only;rw[<- mm];exact g.by λi a _=>j i (.inr adC)
theorem Rns.pw (a:∀x,(f x).1=x.1/\(f x).2.1=x.2.1):∀{ps:List (Nat × Nat × Nat)}{u v k:Nat},Rns xs u ps v->Rns xs u (ps.modify k f) v
 |[],_,_,0,h=>h
 |[],_,_,_+1,h=>h
 |p::ps,u,v,0,h=>by
  show (f p).1=u/\1<=(f p).2.1/\Sg xs u (f p).2.1/\Rns xs (u+(f p).2.1) ps v
  rw[(a p).1,(a p).2]
  exact h
 |p::ps,u,v,k+1,h=>⟨h.1,h.2.1,h.2.2.1,h.2.2.2.pw a⟩
def rsL (N a n:Nat):StateT a3 k0 (ForInStep (Option Unit × Nat)):=do
 let q <- get
 match (bm q).back? with
 |some (s1,n1,_)=>do
  let c <- iO [:N] ((ae,()):Option Unit × Unit) λ_ _=>do
   let q <- get
   match if (bm q).size>1 then (bm q)[(bm q).size - 2]? else ae with
   |some (_,_,older) =>
    if older<=power' N (2*s1+n1) (2*s1+n1+n1+n) N then a5 (.done (ae,()))
    else do
     let r <- tS ((bm q).size - 2)
     if (!r)=ag then a5 (.done (ab (),())) else a5 (.yield (ae,()))
   |_=>a5 (.done (ae,()))
  match c.1 with
  |some r=>a5 (.done (ab r,a))
  |none=>do
   modify λs=>f7 s ((bm s).modify ((bm s).size - 1) λx=>(x.1,x.2.1,power' N (2*s1+n1) (2*s1+n1+n1+n) N))
   modify λs=>f7 s ((bm s).push (a,n,0))
   a5 (.yield (ae,a+n))
 |_=>do
  modify λs=>f7 s ((bm s).push (a,n,0))
  a5 (.yield (ae,a+n))
theorem W2 {a:Type}{ps:Array a} (h:i+2<=ps.size):∃x y,ps.toList=ps.toList.take i++x::y::ps.toList.drop (i+2)/\(ps.toList.take i).length=i:=by
 refine⟨ps.toList[i]'(by rw[K_];omega),ps.toList[i+1]'(by rw[K_];omega),?_,by rw[Zm,K_];omega⟩;rw[<- Z3,<- Z3,Zi]
theorem zZ {st:a3} (H:z=rsL a₀.size f n) (K:IntKeys a₀) (b:LB a₀ ps st) (R:Rns (aS st) 0 ps.toList f) (D:1<=n) (O:f+n<=a₀.size) (t:Sg (aS st) f n) (h:∀d ps',LB a₀ ps' d->Rns (aS d) 0 ps'.toList (f+n)->Q (.yield (ae,f+n)) d):kw (ay prog w) A E s z Q st:=by
 subst H;have o:∀st ps,LB a₀ ps st->Rns (aS st) 0 ps.toList f->Sg (aS st) f n->Q (.yield (ae,f+n)) (f7 st ((bm st).push (f,n,0))):=λst ps b R t=>by refine h _ (ps.push (f,n,0)) ⟨b.pm,b.kd,b.fl,by show (bm st).push _=_;rw[b.pd]⟩ ?_;rw[aaJ];exact Rns.app.mpr ⟨f,R,rfl,D,t,rfl⟩
 unfold rsL;refine C_ (fS ?_);cases (bm st).back? with
 |none=>exact C_ (f6 (O_ (o st ps b R t)))
 |some p =>
 obtain⟨P,N,p⟩:=p;dsimp only;refine C_ (abd (Z7 (I:=λ_ c d=>∃ps,c=(ae,())/\LB a₀ ps d/\Rns (aS d) 0 ps.toList f/\Sg (aS d) f n) (Q:=λc d=>∃ps,c=(ae,())/\LB a₀ ps d/\Rns (aS d) 0 ps.toList f/\Sg (aS d) f n) ?_ (λ_ _ z=>z) ⟨ps,rfl,b,R,t⟩) ?_)
 .rintro x c g _ _ ⟨ps,rfl,k,R2,q⟩;refine C_ (fS ?_);rw[k.pd];have m:=O_ (M:=ay prog w) (A:=A) (E:=E) (s:=s) (Q:=λr d=>match r with | .done c'=>∃ps,c'=(ae,())/\LB a₀ ps d/\Rns (aS d) 0 ps.toList f/\Sg (aS d) f n | .yield c'=>∃ps,c'=(ae,())/\LB a₀ ps d/\Rns (aS d) 0 ps.toList f/\Sg (aS d) f n) (a:=ForInStep.done ((ae,()):Option Unit × Unit)) (st:=g) ⟨ps,rfl,k,R2,q⟩;by_cases v:ps.size>1
  .rw[aca v];obtain⟨x,y,e,l⟩:=W2 (i:=ps.size - 2) (ps:=ps) adC;split
   .split
    .exact m
    refine C_ (vo K k e l R2 adC λF u L _ R3 B=>?_);rw[Z0,ace B_];exact O_ ⟨u,rfl,L,R3,λi j C G J=>by rw[B i C,B j adC];exact q i j C G J⟩
   exact m
  rw[ace v];exact m
 rintro c g ⟨ps,rfl,k,R2,q⟩;refine C_ (f6 (C_ (f6 (O_ (o _ _ ⟨k.pm,k.kd,k.fl,rfl⟩ ?_ q)))));show Rns (aS g) 0 ((bm g).modify _ _).toList f;rw[Array.toList_modify,k.pd];refine Rns.pw ?_ R2;exact λ_=>⟨rfl,rfl⟩
theorem Gq {st:a3} (t:IntKeys a₀) (b:LB a₀ #[] st) (h1:1<=a₀.size) (h:∀d,(aS d).Perm a₀->dS d=ae->SortedTo (aS d) a₀.size->Q () d):kw (ay prog w) A E s sortRuns' Q st:=by
 rw[sortRuns'_eq];refine C_ (fS ?_);dsimp only;rw[b.sz];generalize minRun' a₀.size a₀.size 0=Z;refine C_ (abd (Z7 (I:=λx c d=>∃g ps,c=(ae,g)/\LB a₀ ps d/\Rns (aS d) 0 ps.toList g/\g<=a₀.size/\(x<=g\/g=a₀.size))
  (Q:=λc d=>∃ps,c=(ae,a₀.size)/\LB a₀ ps d/\Rns (aS d) 0 ps.toList a₀.size) ?step ?fin ⟨0,#[],rfl,b,rfl,adC,.inl (m_ _)⟩) ?post)
 case fin =>
  rintro c d ⟨g,ps,rfl,r,R,S,M⟩
  obtain rfl:g=a₀.size:=by omega
  exact⟨ps,rfl,r,R⟩
 case step =>
  rintro x c d _ V ⟨g,ps,rfl,r,R,S,M⟩
  dsimp only
  by_cases o:g ≥ a₀.size
  ·
   rw[aca o]
   obtain rfl:g=a₀.size:=by omega
   exact O_ ⟨ps,rfl,r,R⟩
  rw[ace o]
  refine C_ (Su t adC adC r λm k f J H m2 G=>?_)
  dsimp only
  split
  rotate_left
  refine zZ ?_ t f (R.by λi _ a=>J i a) H adC G λD n C u=>⟨_,n,rfl,C,u,adC,adC⟩
  rotate_left
  refine C_ (iA (abD ⟨rfl,?_⟩))
  refine C_ (Sv t adC H adC f G λv F U P=>?_)
  rw[Z0,ace B_]
  refine zZ ?_ t F (R.by λi _ a=>J.trans U i a) adC adC P λD n C u=>⟨_,n,rfl,C,u,adC,adC⟩
  all_goals
   unfold rsL
   refine aU rfl λq=>?_
   cases (bm q).back? with
   |none=>rfl
   |some p =>
    refine aU (by congr 1) λ⟨c,_⟩=>?_
    cases c <;> rfl
 case post =>
  rintro c d ⟨ps,rfl,r,R⟩
  dsimp only
  refine C_ (abd (Z7 (I:=λx c d=>∃ps,c=(ae,())/\LB a₀ ps d/\Rns (aS d) 0 ps.toList a₀.size/\(ps.size<=1\/ps.size+x<=a₀.size))
   (Q:=λc d=>∃ps,c=(ae,())/\LB a₀ ps d/\Rns (aS d) 0 ps.toList a₀.size/\ps.size<=1) ?_ ?_ ⟨ps,rfl,r,R,.inr (by have:=R.le;rw[K_] at this;omega)⟩) ?_)
  ·
   rintro x c k _ V ⟨ps,rfl,f,R,a⟩
   refine C_ (fS ?_)
   rw[f.pd]
   by_cases o:ps.size<=1
   ·
    rw[aca o]
    exact O_ ⟨ps,rfl,f,R,o⟩
   rw[ace o]
   generalize L:(if Option.any _ _=ag then ps.size - 2 - 1 else ps.size - 2)=i
   obtain⟨y,z,e,l⟩:=W2 (ps:=ps) (i:=i) (by rw[<- L];(repeat' split) <;> omega)
   refine C_ (vo t f e l R (m_ _) λv B F O R3 _=>?_)
   rw[Z0,ace B_]
   refine O_ ⟨B,rfl,F,R3,.inr ?_⟩
   have:=T_ aT O
   have K:=T_ aT e
   rw[K_,a_,i_,l] at this K
   rw[i_] at K
   omega
  ·
   rintro c k ⟨ps,rfl,f,R,a⟩
   exact⟨ps,rfl,f,R,adC⟩
  ·
   rintro c k ⟨ps,rfl,f,R,a⟩
   refine O_ (h k f.pm f.fl ?_)
   cases e:ps.toList with
   |nil=>rw[e] at R;have:0=a₀.size:=R;omega
   |cons p l =>
    have X:=T_ aT e
    rw[K_,i_] at X
    have:=aac.mp (show l.length=0 by omega)
    subst this
    rw[e] at R
    obtain⟨r1,Y,W,N⟩:=R
    have r5:0+p.2.1=a₀.size:=N
    intro i j T i2
    exact W i j adC T adC
theorem xU (f:s.heap.get? a=ab (dc "list" vs.toArray n)) (k:ef vs ns) (hz:vs.length<=ap) (h:∀(out:Array av) (j:List Int),ef out.toList j->j.Perm ns->j.Pairwise (·<=·)->R (.done (.ret .none)) { s with heap:=js s.heap a vs out}):aE (ay prog w) A (er.«list.sort» ⟨[.ref a],[]⟩) R E s:=by
 by_cases b:vs.length<64
 .exact list_sort_tree f k b h
 have B:a<s.heap.objs.size:=L_ f;rw[list_sort_plain];refine d_ (listItems_at f rfl (d_ (sB f rfl ?_ (by rw[z_];omega) (aae _))));obtain⟨c,g⟩:∃c,(s.heap.update a (cn λ_=>(#[]:Array av))).get? a=ab (dc "list" #[] c):=⟨_,ko f λ_=>#[]⟩;refine d_ (seqEpoch_at g rfl (d_ (qV (d_ (md (aau ?_) (aae _))) hz)));have i:(((s.heap.update a (cn λ_=>(#[]:Array av))).push (dc "tuple" vs.toArray 0)).push (dc "list" #[] 0)).get? a=ab (dc "list" #[] c):=h_ _ (h_ _ g);show aE (ay prog w) A _ R E { s with heap:=((s.heap.update a (cn λ_=>(#[]:Array av))).push (dc "tuple" vs.toArray 0)).push (dc "list" #[] 0)};dsimp only;rw[z_,ace adC,ace adC]
 match vs,b with
 |[],b=>exact ach adD b
 |[_],b=>exact ach (show 1<64 by decide) b
 |u::v::r,_ =>
 rw[keyKind_ints k];refine d_ (o_ (d_ (aad (Gq (a₀:=pairsOf (u::v::r)) (Q:=λ_ d=>(aS d).Perm (pairsOf (u::v::r))/\dS d=ae/\SortedTo (aS d) (pairsOf (u::v::r)).size) k.intKeys ⟨.refl _,rfl,rfl,rfl⟩ (by rw[pairsOf_size];simp) λd t m p=>⟨t,m,p⟩) ?_ λ_ _ e=>e)));rintro⟨⟨⟩,d⟩ s' ⟨rfl,l,o,y⟩;dsimp only;refine d_ (seqEpoch_at i rfl (d_ (sB i rfl ?_ (aae _) (W_ (abh ((Array.size_map ..).trans (l.size_eq.trans (pairsOf_size _)))) (Nat.le_succ_of_le hz)))));rw[o];simp only[bne_self_eq_false,I_,Zj];obtain⟨j,q,z,x⟩:=sorted_out k l y;exact o_ (h _ j q z x)
end
theorem KJ:bb "set"=ab (.type "set"):=by decide +kernel
theorem Sw {b:L2.St} (I:Inv X a b H s) (d:Drawn):Inv X a b H { s with drawn:=d}:=⟨I.ok,I.os,I.bare,I.base,I.loc,I.cell,I.free,I.freeC,I.pin,I.hok,I.len⟩
def Ris (ns us:List Int):Prop:=us.Pairwise (·<·)/\∀k,k∈us↔k∈ns
theorem z6:∀{a:List av}{ns:List Int},ef a ns->Vals (ns.map V.int) a
 |_,_,.nil=>.nil
 |_,_,.cons n t h=>.cons ⟨t,rfl⟩ (z6 h)
section
variable {P:bE}{w:bS}{E:av->aI->Prop}
theorem KN (j:∀A' E',A'.handled=A.handled->aE (ay P w) A' (collect x) (λvs s1=>∃ns,ef vs ns/\vs.length<=ap /\
   ∀out b h' c,ef out.toList b->b.Perm ns->b.Pairwise (·<=·)->Kpt s1.heap h'->h'.get? s1.heap.objs.size=ab (dc "list" out c)->Q (.ref s1.heap.objs.size) { s1 with heap:=h'}) E' s):aE (ay P w) A (oI (.builtin "sorted") [x]) Q E s:=by
 refine Calls.call_function_entry kind_sorted plain_sorted entry_sorted (args_sorted1 _) ?_;unfold er.«sorted»;refine d_ (m:=checkCount "sorted" 1 1 _) (o_ ?_);refine d_ (aad (j _ _ rfl) (λvs s1 g=>?_) λ_ _ e=>e);obtain⟨ns,i,hz,h⟩:=g;refine d_ (md ?_ hz);have a:(s1.heap.push (dc "list" vs.toArray 0)).get? s1.heap.objs.size=ab (dc "list" vs.toArray 0):=G_ _ rfl;refine d_ (aau (aaN slot_list_sort ⟨_,a,rfl⟩ entry_list_sort (xU a i hz λout b l f k=>⟨_,rfl,?_⟩) (args_list_sort _)));obtain⟨d,c,n⟩:=Ka (h:=s1.heap) (vs:=vs) (out:=out);exact o_ ⟨_,rfl,h out b _ c l f k d n⟩
variable {X:Cx}{e:Expr}{p1 p2 pos pos':ka}
def KQ (te:TE):TE:=λb H Q=>te b H λx a=>∃p ns,x=.ref p/\SqL X.K a p (ns.map V.int)/\ns.length<=1024/\∀us,Ris ns us->∀q,a q=ae->Q (.ref q) (upd a q (.lst (us.map V.int)))
theorem KR {u:L2.St} (I:Inv X f u H s) (x:X.A.handled=ae) (C:SI X.prog X.w s.heap a ns) (B:ns.length<=1024) (h:∀us,Ris ns us->∀q,H q=ae->Q (.ref q) (upd H q (.lst (us.map V.int)))):
  aE (ay X.prog X.w) X.A (oI (.builtin "sorted") [.ref a]) (EP X f u Q) X.xe s:=by
 have hz:ap=16777216:=rfl;have R:dy=4096:=rfl;refine KN λM P L=>vf (L.trans x) C adC λh' tk d vs y g m=>?_;obtain⟨v,z,D,N⟩:=m;generalize vs.map ivl=J at *;have S:=Gi v;refine⟨J,v,adC,λout us g' c F n t E G=>?_⟩;have K:H h'.objs.size=ae:=I.hok.fresh (aai g);have O:=n.length_eq;refine⟨.ref h'.objs.size,upd H h'.objs.size (.lst (us.map V.int)),(Sw I d).laid (t':=tk) (λb o e=>E b o (y b o e)) (aai g) ⟨by rw[b_];omega,out.toList,c,z6 F,G⟩,rfl,h _ ⟨?_,λk=>by rw[n.mem_iff,D]⟩ _ K⟩;have p:=n.nodup_iff.mpr z;rw[Zn] at t |-;intro i j m r l;have:=t i j m r l;have:us[i]≠us[j]:=Zn.mp p i j m r l;omega
theorem Cd (D:X.calm=ag) (j:Gl X "sorted") (m:X.mg "sorted"=ae) (n:Gl X "set") (l:X.mg "set"=ae) (K:PE X e te)
  (E:ax [e] X.env=(ah,br e X.env)::ax [] X.env:=by rfl) (r:(bt pos (ax [] X.env)).any (·.1)=ah:=by rfl) (f:(bt pos' (ax [] X.env)).any (·.1)=ah:=by rfl) :
  PE X (.Call (.Name "sorted" p1) [.Call (.Name "set" p2) [e] [] pos'] [] pos) (KQ (X:=X) te):=by
 intro a s B H Q I h;refine ZZ (eQ I j m Ca ?_ adD adD);refine fe ?_ rfl r;show aE _ _ (hO ((ah,br (.Call (.Name "set" p2) [e] [] pos') X.env)::bt pos (ax [] X.env))) _ _ s;refine Z4 ?_;refine ZZ (eQ I n l KJ ?_ adD adD);refine ZD ?_ E f;rw[E];show aE _ _ (hO ((ah,br e X.env)::bt pos' (ax [] X.env))) _ _ s;refine Z4 (My (K a s B H _ I h) λu s1 ⟨x,S,g,M,p,ns,O,F,k,q⟩=>?_);subst O;cases M;obtain⟨w,A,R,hz⟩:=g.list F;have c:=A.length;rw[b_] at c;have T:dy=4096:=rfl;refine aam ?_;refine BW (xs:=ns) (g.ok.hd D) R.isList (by simp [c]) (λi v N=>?_) (by simp;omega) λh' tk J G=>?_
 .have d:w[i]?=ab v:=by simpa using N
  have y:i<ns.length:=by have:=(Z2.mp d).1;omega
  obtain⟨u,z,L⟩:=A.get (i:=i) (x:=V.int ns[i]) (by rw[J_,g_ y];rfl);rw[d] at z;cases z;obtain⟨t,rfl⟩:=L;exact⟨ns[i],t,g_ y,rfl⟩
 refine aam ?_;have P:Inv X a B S { s1 with heap:=h',toks:=tk}:=g.kept λb o C=>G b o (L_ C) C;exact KR P (g.ok.hd D) J k q
end
def Ce (o:Option O3) (H:eH) (Q:sy):Prop:=match o with
 |some (.lst ts)=>oq (ints3 ts) λns=>ns.length<=1024/\∀us,Ris ns us->∀q,H q=ae->Q (.ref q) (aY H q (.lst (us.map v0)))
 |_=>False
def sls (x:T) (H:eH) (Q:sy):Prop:=match x with
 |.ref a=>Ce (H a) H Q
 |_=>False
def vp (te:vy):vy:=λb H Q=>te b H λx a=>sls x a Q
theorem Gr (te:vy):vp te a H Q=te a H λx b=>sls x b Q:=rfl
theorem W3 (a:am):sls (.ref a) H Q=Ce (H a) H Q:=rfl
theorem Sx (ns:List Int):Ce (ab (.lst (ns.map v0))) H Q=(ns.length<=1024/\∀us,Ris ns us->∀q,H q=ae->Q (.ref q) (aY H q (.lst (us.map v0)))):=by
 unfold Ce;simp only[dC];rfl
theorem vz:∀{ts:List T}{ns:List Int},ints3 ts=ab ns->ts=ns.map v0
 |[],_,h=>by cases h;rfl
 |t::r,ns,h=>by
  cases t with
  |int i =>
   cases e:ints3 r with
   |none=>simp [ints3,e] at h
   |some l =>
    simp [ints3,e] at h
    rw[<- h,vz e]
    rfl
  |_=>simp [ints3] at h
theorem vA {K:a8}:∀{ns:List Int}{xs:List V},fY K H (ns.map v0) xs->xs=ns.map V.int
 |[],_,r=>r.inv0
 |n::ns,xs,r=>by
  obtain⟨v,a,rfl,q,b⟩:=r.inv
  rw[D_,<- vA b,q.int]
theorem nZ {K:a8}:∀{ns:List Int},fY K H (ns.map v0) (ns.map V.int)
 |[]=>.nil
 |_::_=>.cons .ofInt nZ
section
variable {p1 p2 pos pos':ka}
theorem Cg (C:X.calm=ag) (i:Gl X "sorted") (l:X.mg "sorted"=ae) (m:Gl X "set") (j:X.mg "set"=ae) (y:o4 X e te) (F:ax [e] X.env=(ah,br e X.env)::ax [] X.env:=by rfl) (n:(bt pos (ax [] X.env)).any (·.1)=ah:=by rfl) (f:(bt pos' (ax [] X.env)).any (·.1)=ah:=by rfl):
  o4 X (.Call (.Name "sorted" p1) [.Call (.Name "set" p2) [e] [] pos'] [] pos) (vp te):=by
 refine PE.imp (Cd C i l m j y F n f) ?_;rintro I H Q ⟨o,H3,E,D,u,h,k⟩;refine⟨o,H3,_,D,u,h,λv H' t d B c r q=>?_⟩;cases t with
 |ref a =>
  have b:Ce (d a) d E:=q
  unfold Ce at b
  split at b
  ·
   rename_i ts x
   cases z:ints3 ts with
   |none=>rw[z] at b;exact b.elim
   |some ns =>
    rw[z] at b
    have e:=vz z
    subst e
    obtain⟨G,s,A⟩:=c a _ x
    rw[vA A] at s
    exact⟨a,ns,r.ref,.of s,b.1,λus w p g=>k _ _ _ _ (B.trans (aV g)) (c.newLst g nZ) .ofRef (b.2 us w p (c.fresh g))⟩
  ·
   exact b.elim
 |_=>exact q.elim
end
end L3
namespace M
open L2 L3
def nm0 : String := "ne_eq not_false_eq_true aD yS uv tC3 eU M6 rC yQ MP QB ut MT Mz Vo MF QH Vs Du Dt M4 rF MN yR YM Vq uI yW YW Ef jz QL QM Vt iD q_I YX Eg QQ QR Eh jA Vv Vw Vx Ni Vy Vz Nj VB Nk Nm VD VF VG VH QS VJ YZ QT VL Np QV VM VN q_D VP QW VR V0 QX V1 QZ Q0 Jv V2 Jw Q4 V3 Q5 Q6 Q7 Q8 V4 V5 V6 V7 V8 Nq V9 Wa Jx Wb Wc Wd We Q9 Wf Jy zm qx Ra Jz Rb aA QG DK qt wZ xf xg By xj Rg xm xn xq BJ xu JH uO uP uQ xx uR Et rM rN rO uT rP uU uV uW xF uX mG decide_true decide_false Bool.not_true Bool.not_false at0 at1 at2 at3 List.eraseIdx_cons_zero Int.toNat_natCast yP List.length_map List.length_cons List.length_nil Nat.zero_add Bool.false_eq_true if_false if_true List.getElem?_cons_zero List.getElem?_cons_succ List.set_cons_zero List.set_cons_succ Wj Wl List.map_cons List.map_nil Rx Wu Wv Wm Wn Rj Nx Ny NP Fg Fj NQ GC Oi NB Ol GD JQ NT SJ SM SN SQ Y8 JS JT JV JW Ry Wx Wh Wi Er TX RC Oa FT RQ Ob Oc WQ FW Od FZ Ga zB jN WF Y9 NZ Fx zE WL Fy FJ RL WM FP xK RN N5 N6 FQ N7 N8 WR Gr W3 Sx JB JC En JD Eo Wg JF Rq Wq JM Wr"
structure isNm (x:ai):Prop where
 lo:1<=x.length
 hi:x.length<=8
 az:∀c∈x.cps.toList,97<=c/\c<=122
structure Nms (ws:List ai):Prop where
 nm:∀x∈ws,isNm x
 nd:ws.Nodup
theorem Nms.nil:Nms []:=⟨λ_ h=>(nomatch h),aaA⟩
theorem Nms.snoc (n:Nms ws) (h:isNm x) (b:x∉ws):Nms (ws++[x]) :=
 ⟨λy a=>(t_.mp a).elim (n.nm y) λz=>by rw[e_.mp z];exact h,iW n.nd b⟩
structure Wk where
 tasks:List (ai × Int × List ai)
 orders:List (ai × ai)
 pairs:List (ai × ai × ai)
 row:List ai
def sT (xs:List ai):T:=.tup (xs.map v1)
def tkT (t:ai × Int × List ai):T:=.tup [.str t.1,.int t.2.1,sT t.2.2]
def orT (o:ai × ai):T:=.tup [.str o.1,.str o.2]
def prT (p:ai × ai × ai):T:=.tup [.str p.1,.str p.2.1,.str p.2.2]
def Wk.enc (W:Wk):T:=.tup [.tup (W.tasks.map tkT),.tup (W.orders.map orT),.tup (W.pairs.map prT),sT W.row]
structure afV (t:ai × Int × List ai):Prop where
 nm:isNm t.1
 lo:1<=t.2.1
 hi:t.2.1<10^60
 ks:Nms t.2.2
 kl:t.2.2.length<=4
structure lz (W:Wk):Prop where
 t1:1<=W.tasks.length
 t8:W.tasks.length<=8
 tk:∀t∈W.tasks,afV t
 nd:(W.tasks.map (·.1)).Nodup
 os:W.orders.length<=28
 od:W.orders.Nodup
 oo:∀o∈W.orders,o.1≠o.2/\o.1∈W.tasks.map (·.1)/\o.2∈W.tasks.map (·.1)
 ps:W.pairs.length<=12
 pd:W.pairs.Nodup
 pp:∀p∈W.pairs,(p.1="with"\/p.1="apart")/\p.2.1≠p.2.2/\p.2.1∈W.tasks.map (·.1)/\p.2.2∈W.tasks.map (·.1)
 r1:1<=W.row.length
 r8:W.row.length<=8
 rn:∀x∈W.row,isNm x
theorem gh {c:Type}{f:c->T}(g:∀{a b},f a=f b->a=b) {x:c}{xs:List c}:f x∈xs.map f↔x∈xs:=by
 rw[l_];exact⟨λ⟨y,d,e⟩=>g e▸d,λh=>⟨x,h,rfl⟩⟩
theorem gZ (h:v1 a=v1 b):a=b:=by injection h
theorem Sy {c:Type}{f:c->T}(d:∀{a b},f a=f b->a=b) {x:c}{xs:List c}:dM ag (f x) (xs.map f)=ag↔x∉xs:=by
 unfold dM;simp [gh d]
theorem W4 {c:Type}{f:c->T}(d:∀{a b},f a=f b->a=b) {x:c}{xs:List c}:dM ah (f x) (xs.map f)=ag↔x∈xs:=by
 unfold dM;simp [gh d]
theorem dJ (xs:List ai):(xs.map v1).all (pl 20)=ag:=by rw[Zy];intro t a;obtain⟨x,_,rfl⟩:=l_.mp a;rfl
theorem SJ (W:Wk) (H:eH) (Q:sy):uH W.enc (.int 0) H Q=Q (.tup (W.tasks.map tkT)) H:=rfl
theorem SM (W:Wk) (H:eH) (Q:sy):uH W.enc (.int 1) H Q=Q (.tup (W.orders.map orT)) H:=rfl
theorem SN (W:Wk) (H:eH) (Q:sy):uH W.enc (.int 2) H Q=Q (.tup (W.pairs.map prT)) H:=rfl
theorem SQ (W:Wk) (H:eH) (Q:sy):uH W.enc (.int 3) H Q=Q (.tup (W.row.map v1)) H:=rfl
def pick:List ai->Int->List ai
 |[],_=>[]
 |x::r,b=>if b%2=1 then x::pick r (b / 2) else pick r (b / 2)
def tot:List ai->Int->Int
 |[],_=>0
 |_::r,b=>(if b%2=1 then 1 else 0)+2*tot r (b / 2)
def numOf:List ai->List ai->Int
 |[],_=>0
 |x::r,ss=>(if x∈ss then 1 else 0)+2*numOf r ss
theorem jP:∀(ws:List ai) (b:Int),∀x∈pick ws b,x∈ws
 |[],_,x,h=>by cases h
 |y::r,b,x,h=>by
  unfold pick at h
  split at h
  ·
   rcases n_.mp h with rfl | h
   ·
    exact k_
   ·
    exact u_ _ (jP r _ x h)
  ·
   exact u_ _ (jP r _ x h)
theorem lK:∀(ws b a:List ai),(∀x∈ws,x∈b↔x∈a)->numOf ws b=numOf ws a
 |[],_,_,_=>rfl
 |y::r,b,a,h=>by
  have c:=h y k_
  have e:=lK r b a λx d=>h x (u_ _ d)
  simp only[numOf,e,c]
theorem n6:∀(ws:List ai) (b:Int),ws.Nodup->numOf ws (pick ws b)=tot ws b
 |[],_,_=>rfl
 |y::r,b,nd=>by
  rw[ZV] at nd
  have c:=n6 r (b / 2) nd.2
  have d:y∉pick r (b / 2):=λh=>nd.1 (jP r _ y h)
  by_cases a:b%2=1
  ·
   have e:numOf r (y::pick r (b / 2))=numOf r (pick r (b / 2)):=lK r _ _ λx f=>by
    have:x≠y:=λe=>nd.1 (e▸f)
    simp [this]
   simp only[numOf,tot,pick,a,if_true,e,c,n_,true_or]
  ·
   simp only[numOf,tot,pick,a,Zj,d,c]
theorem Gs:∀(ws:List ai) (b:Int),0<=b->b<2^ws.length->tot ws b=b
 |[],b,h0,h1=>by simp at h1;simp only[tot];omega
 |y::r,b,h0,h1=>by
  have c:b / 2<2^r.length:=by
   rw[i_,abm] at h1
   omega
  have a:=Gs r (b / 2) adC c
  simp only[tot,a]
  split <;> omega
theorem oh:∀(A:List ai) (y:ai) (a:List ai),numOf (A++[y]) a=numOf A a+2^A.length*(if y∈a then 1 else 0)
 |[],y,a=>by simp [numOf]
 |x::A,y,a=>by
  have b:=oh A y a
  simp only[aa7,numOf,i_,b,abm]
  generalize (2:Int)^A.length=w
  generalize (if y∈a then (1:Int) else 0)=z
  rw[Int.mul_add,<- Int.mul_assoc,Int.mul_comm 2 w]
  omega
theorem vB:∀(A B:List ai) (b:Int),pick (A++B) b=pick A b++pick B (b / 2^A.length)
 |[],B,b=>by simp [pick]
 |y::A,B,b=>by
  have a:=vB A B (b / 2)
  have e:b / 2 / 2^A.length=b / 2^(A.length+1):=by
   rw[abm,Int.mul_comm,i9 adD]
  simp only[aa7,pick,i_,a,e]
  split <;> simp
theorem sE (m n:Nat):a9 (m:Int) (n:Int)=((m &&& n:Nat):Int):=by
 unfold a9;rfl
theorem SX (m n:Nat):dE (m:Int) (n:Int)=((m ||| n:Nat):Int):=by
 have h:∀z:Nat,decide ((0:Int)<=e8 (z:Int))=ah:=λz=>x_ (by unfold e8;omega);have g:∀z:Int,e8 (e8 z)=z:=λz=>by unfold e8;omega
 unfold dE a9;rw[h,h];simp only[g,aaw]
def bT:List ai->List ai->Nat
 |[],_=>0
 |x::r,ss=>(if x∈ss then 1 else 0)+2*bT r ss
theorem cG:∀(ns a:List ai),numOf ns a=((bT ns a:Nat):Int)
 |[],_=>rfl
 |x::r,a=>by
  have:=cG r a
  simp only[numOf,bT,this]
  by_cases h:x∈a <;> simp [h]
theorem KY (b c a d:Nat) (j:b<2) (k:c<2):(b+2*a) &&& (c+2*d)=(if b=1/\c=1 then 1 else 0)+2*(a &&& d):=by
 have f:((b+2*a) &&& (c+2*d)) / 2=(b+2*a) / 2 &&& (c+2*d) / 2:=Nat.and_div_two;have i:(b+2*a) / 2=a:=adC
 have g:(c+2*d) / 2=d:=adC
 rw[i,g] at f;have e:((b+2*a) &&& (c+2*d))%2=1↔(b+2*a)%2=1/\(c+2*d)%2=1:=Nat.and_mod_two_eq_one;by_cases h:b=1/\c=1
 .rw[aca h];have:=e.mpr ⟨adC,adC⟩;omega
 rw[ace h];have:¬((b+2*a) &&& (c+2*d))%2=1:=λz=>h (by have:=e.mp z;omega);omega
theorem S5 (b c a d:Nat) (j:b<2) (k:c<2):(b+2*a) ||| (c+2*d)=(if b=1\/c=1 then 1 else 0)+2*(a ||| d):=by
 have f:((b+2*a) ||| (c+2*d)) / 2=(b+2*a) / 2 ||| (c+2*d) / 2:=Nat.or_div_two;have i:(b+2*a) / 2=a:=adC
 have g:(c+2*d) / 2=d:=adC
 rw[i,g] at f;have e:((b+2*a) ||| (c+2*d))%2=1↔(b+2*a)%2=1\/(c+2*d)%2=1:=Nat.or_mod_two_eq_one;by_cases h:b=1\/c=1
 .rw[aca h];have:=e.mpr adC;omega
 rw[ace h];have:¬((b+2*a) ||| (c+2*d))%2=1:=λz=>h (by have:=e.mp z;omega);omega
theorem mJ (p:Prop) [Decidable p]:(if p then 1 else 0)<2:=by split <;> decide
theorem ou:∀(ns A B:List ai),bT ns A &&& bT ns B=bT ns (A.filter λx=>decide (x∈B))
 |[],_,_=>by simp [bT]
 |x::r,A,B=>by
  simp only[bT]
  rw[KY _ _ _ _ (mJ _) (mJ _),ou r A B]
  by_cases a:x∈A <;> by_cases b:x∈B <;> simp [a,b]
theorem z7:∀(ns A B:List ai),bT ns A ||| bT ns B=bT ns (A++B)
 |[],_,_=>by simp [bT]
 |x::r,A,B=>by
  simp only[bT]
  rw[S5 _ _ _ _ (mJ _) (mJ _),z7 r A B]
  by_cases a:x∈A <;> by_cases b:x∈B <;> simp [a,b]
theorem jQ:∀(ns A B:List ai),bT ns A=bT ns B↔∀x∈ns,x∈A↔x∈B
 |[],_,_=>by simp [bT]
 |y::r,A,B=>by
  have b:=jQ r A B
  simp only[bT,n_,forall_eq_or_imp]
  rw[<- b]
  by_cases a:y∈A <;> by_cases c:y∈B <;> simp only[a,c,if_true,Zj,iff_true,iff_false,true_iff,false_iff,true_and,not_true,not_false_eq_true,false_and] <;> omega
theorem iI:∀ns:List ai,bT ns []=0
 |[]=>rfl
 |x::r=>by simp only[bT,ZR,Zj,iI r]
theorem Ci (ns A:List ai):bT ns A=0↔∀x∈ns,x∉A:=by
 have:=jQ ns A [];rw[iI] at this;rw[this];simp
theorem gm (ns A B:List ai):(a9 (numOf ns A) (numOf ns B)=numOf ns B)↔∀x∈ns,x∈B->x∈A:=by
 rw[cG,cG,sE,ou];constructor
 .intro h x a b;have:=(jQ ns _ _).mp (Int.ofNat.inj h) x a;exact (E_.mp (this.mpr b)).1
 intro h;refine T_ Int.ofNat ((jQ ns _ _).mpr λx a=>?_);rw[E_,j_];exact⟨λz=>z.2,λz=>⟨h x a z,z⟩⟩
theorem sG (ns A B:List ai):(a9 (numOf ns A) (numOf ns B)=0)↔∀x∈ns,¬(x∈A/\x∈B):=by
 rw[cG,cG,sE,ou];have e:((bT ns (A.filter λx=>decide (x∈B)):Nat):Int)=0↔bT ns (A.filter λx=>decide (x∈B))=0:=adC
 rw[e,Ci];constructor
 .intro h x a z;exact h x a (E_.mpr ⟨z.1,A_ z.2⟩)
 intro h x a z;have:=E_.mp z;exact h x a ⟨this.1,Zw this.2⟩
theorem S6 (ns A B:List ai):dE (numOf ns A) (numOf ns B)=numOf ns (A++B):=by
 rw[cG,cG,cG,SX,z7]
theorem Gu (ns A:List ai):0<=numOf ns A:=by rw[cG];exact aaF _
theorem vC:∀(ns A:List ai),numOf ns A<2^ns.length
 |[],_=>by simp [numOf]
 |x::r,A=>by
  have:=vC r A
  simp only[numOf,i_,abm]
  split <;> omega
theorem vD:∀(ns:List ai) (A:List ai),ns.Nodup->pick ns (numOf ns A)=ns.filter λx=>decide (x∈A)
 |[],_,_=>rfl
 |x::r,A,nd=>by
  rw[ZV] at nd
  have c:=vD r A nd.2
  have n0:=Gu r A
  by_cases h:x∈A
  ·
   have b:(1+2*numOf r A)%2=1:=adC
   have a:(1+2*numOf r A) / 2=numOf r A:=adC
   simp only[numOf,h,if_true,pick,b,a,c,abJ,aaI]
  ·
   have b:¬(0+2*numOf r A)%2=1:=adC
   have a:(0+2*numOf r A) / 2=numOf r A:=adC
   simp only[numOf,h,Zj,pick,b,a,c,abJ,aas,I_]
theorem Gv (b:ns.Nodup) (c:0<=n) (a:n<2^ns.length):numOf ns (pick ns n)=n:=by rw[n6 ns n b,Gs ns n c a]
universe u
variable {α:Type u}
inductive RT (R:α->α->Prop):α->α->Prop
 |refl {a:α}:RT R a a
 |step {a b c:α}:RT R a b->R b c->RT R a c
theorem RT.trans {a b c:α} (h:RT R a b) (g:RT R b c):RT R a c:=by
 induction g with
 |refl=>exact h
 |step _ r d=>exact .step d r
theorem RT.flip {a b:α} (h:RT R a b):RT (λx y=>R y x) b a:=by
 induction h with
 |refl=>exact .refl
 |step _ r c=>exact (RT.step (R:=λx y=>R y x) .refl r).trans c
theorem KZ {a b:α}:RT (λx y=>R y x) a b↔RT R b a:=⟨λh=>h.flip,λh=>h.flip⟩
theorem W5 {L:List (α × α)}{F:List α} (c:s∈F) (e:∀a b,(a,b)∈L->a∈F->b∈F) (h:RT (λa b=>(a,b)∈L) s x):x∈F:=by
 induction h with
 |refl=>exact c
 |step _ r d=>exact e _ _ r d
theorem kY [DecidableEq α]:∀{l m:List α},l.Nodup->(∀x∈l,x∈m)->l.length<=m.length:=by
 intro l;induction l with
 |nil=>intro m _ _;exact aae _
 |cons a l j =>
 intro m d i;rw[ZV] at d;have f:=i a k_;have h:=j (m:=m.erase a) d.2 λx g=>by have b:=i x (u_ _ g);have c:x≠a:=λe=>d.1 (e▸g);exact (List.mem_erase_of_ne c).mpr b
 have e:=List.length_erase_of_mem f;have p:0<m.length:=List.length_pos_of_mem f;simp only[i_];omega
def mkS (l:List Nat):ai:=⟨l.toArray⟩
theorem fB (l:List Nat):(mkS l).cps.toList=l:=rfl
theorem d9 (l:List Nat):(mkS l).length=l.length:=by show (l.toArray).size=_;simp
theorem S7 (x:ai):∃l,x=mkS l:=⟨x.cps.toList,by cases x;rfl⟩
theorem z8 (h:mkS a=mkS b):a=b:=by have:=T_ (λx=>x.cps.toList) h;exact this
theorem sH (a b:List Nat):mkS a++mkS b=mkS (a++b):=by
 show (⟨a.toArray++b.toArray⟩:ai)=⟨(a++b).toArray⟩;simp
theorem W6 (l:List Nat) (k:Nat) (h:k<=l.length):iS (mkS l) ae (ab (k:Int))=mkS (l.take k):=by
 have e:=StrLaws.sliceText_to (x:=mkS l) (j:=(k:Int)) ⟨aaF k,by rw[fB];omega⟩;rw[fB,abW,Int.sub_zero,aaw] at e;exact e
theorem K1 (l:List Nat) (k:Nat) (h:k<=l.length):iS (mkS l) (ab (k:Int)) ae=mkS (l.drop k):=by
 have e:=StrLaws.sliceText_from (x:=mkS l) (i:=(k:Int)) ⟨aaF k,by rw[fB];omega⟩;rw[fB,aaw,ZL (by rw[Zr];omega)] at e;exact e
def lV:List Nat:=[97,98,99,100,101,102,103,104,105,106,107,108,109,110,111,112,113,114,115,116,117,118,119,120,121,122]
theorem Gw:("abcdefghijklmnopqrstuvwxyz":ai)=mkS lV:=by decide +kernel
theorem K3:∀i:_root_.Fin 26,lV[i.val]?=ab (97+i.val):=by decide
theorem Gx (i:Int) (a:0<=i) (c:i<26):atI lV i=ab (97+i.toNat):=by
 obtain⟨j,rfl⟩:=i8 a;have b:j<26:=adC
 have:=K3 ⟨j,b⟩;exact bM (by simpa using this)
theorem K4:∀i:_root_.Fin 26,bo (mkS lV) (mkS [97+i.val]) 0 26 1=[i.val]:=by decide +kernel
theorem S8 (c:Nat) (b:97<=c) (a:c<=122):bo (mkS lV) (mkS [c]) 0 (mkS lV).length 1=[c - 97]:=by
 have:=K4 ⟨c - 97,adC⟩;rw[show 97+(c - 97)=c by omega] at this;exact this
theorem Oh (a:1<=l.length) (b:l.length<=8) (h:∀c∈l,97<=c/\c<=122):isNm (mkS l):=⟨by rw[d9];exact a,by rw[d9];exact b,by rw[fB];exact h⟩
def tkW (t:ai × Int × List ai):List ai:=([("task":ai),t.1,(toString t.2.1:String)]:List ai)++t.2.2
end M
namespace L3
open L2
structure aeH (p:Prop):Prop where
 out:p
theorem au (h:∀R,aeH (R=u)->(yS t R) D a H):(yS t u) D a H:=h u ⟨rfl⟩
theorem Cj (W:Nat->St3->eH->Prop) (f:∃m,W m a H) (e:∀m a H,W m a H->∀(WI:Nat->St3->eH->Prop) (TB:TS3) (NX:St3->eH->Prop),aeH (WI=W)->aeH (TB=d)->aeH (NX=D.nx) ->
  c a H λb H1=>if b=ag then TB { D with nx:=λσ' H'=>∃m',m'<m/\WI m' σ' H',ct:=λσ' H'=>∃m',m'<m/\WI m' σ' H',bk:=D.nx} a H1 else NX a H1):rD c d D a H :=
 ⟨W,f,λm a H w=>e m a H w W d D.nx ⟨rfl⟩ ⟨rfl⟩ ⟨rfl⟩⟩
theorem cZ {m:Type} (c f:m->T) (p:m->Bool) (h:List m) (rest:St3) (i:still H) (w:h.length<=ap) (y:∀a∈h,∀Q:Bool->eH->Prop,Q (p a) H->tt (ab (c a)::rest) H Q) (u:∀a∈h,p a=ag->∀Q:sy,Q (f a) H->te (ab (c a)::rest) H Q) (k:l ((h.filter p).map f) H):ab8 (eU 0) tt te still l (h.map c) [] (v::rest) H:=by
 refine iG (λr o q H'=>∃(d g:List m) (v:Option T),q=v::rest/\r=d.map c/\o=(g.filter p).map f/\g++d=h/\H'=H) ⟨h,[],v,rfl,rfl,rfl,rfl,rfl⟩ ?_ ?_
 .rintro o q H' ⟨d,g,v,rfl,e,rfl,b,rfl⟩;have j:d=[]:=aaK.mp e.symm;subst j;rw[P_] at b;subst b;exact⟨i,by rw[b_];exact W_ (Zh _ _) w,k⟩
 rintro x r o q H' N ⟨d,g,v,rfl,e,rfl,b,rfl⟩ s;cases d with
 |nil=>cases e
 |cons t d =>
 injection e with e1 e2;subst e1 e2;refine⟨i,?_⟩;show tt (ab (c t)::rest) H' _;refine y t (by rw[<- b];simp) _ ?_;cases n:p t with
 |true=>rw[aca rfl];refine u t (by rw[<- b];simp) n _ ⟨?_,s _ _ _ ⟨d,g++[t],_,rfl,rfl,by simp [n],by rw[<- b];simp,rfl⟩⟩;have:=T_ aT b;simp only[a_,i_] at this;rw[b_];have:=Zh p g;omega
 |false =>
 rw[ace B_];exact s _ _ _ ⟨d,g++[t],_,rfl,rfl,by simp [n],by rw[<- b];simp,rfl⟩
end L3
namespace M
open L2 L3
inductive Rw where
 |tk (t:ai × Int × List ai) | od (o:ai × ai) | pr (p:ai × ai × ai)
def Rw.words:Rw->List ai
 |.tk t=>tkW t
 |.od o=>["order",o.1,o.2]
 |.pr p=>[p.1,p.2.1,p.2.2]
def tks:List Rw->List (ai × Int × List ai)
 |[]=>[]
 |.tk t::r=>t::tks r
 |_::r=>tks r
def prs:List Rw->List (ai × ai × ai)
 |[]=>[]
 |.pr p::r=>p::prs r
 |_::r=>prs r
def fits (L:List Rw):Rw->Prop
 |.tk _=>True
 |.od o=>o.1∈(tks L).map (·.1)/\o.2∈(tks L).map (·.1)
 |.pr p=>p.2.1∈(tks L).map (·.1)/\p.2.2∈(tks L).map (·.1)
inductive RowW:List ai->Prop
 |tk {t:ai × Int × List ai} (h:afV t):RowW (tkW t)
 |od {a b:ai} (h1:isNm a) (h2:isNm b):RowW ["order",a,b]
 |pr {z a b:ai} (h0:z="with"\/z="apart") (h1:isNm a) (h2:isNm b):RowW [z,a,b]
 |row {xs:List ai} (h1:1<=xs.length) (h8:xs.length<=8) (h:∀x∈xs,isNm x):RowW (([("row":ai)]:List ai)++xs)
def lkP (ws:List ai) (p:ai × ai × ai):List (ai × ai):=if p.1∈ws then [(p.2.1,p.2.2),(p.2.2,p.2.1)] else []
def lkW (ws:List ai) (W:Wk):List (ai × ai):=W.orders++W.pairs.flatMap (lkP ws)
def lkR (ws:List ai) (W:Wk) (a b:ai):Prop:=(a,b)∈lkW ws W
theorem K5 (ws:List ai) (p:ai × ai × ai):(lkP ws p).length<=2:=by unfold lkP;split <;> simp
theorem sI (ws:List ai):∀ps:List (ai × ai × ai),(ps.flatMap (lkP ws)).length<=2*ps.length
 |[]=>m_ _
 |p::r=>by
  have a:=K5 ws p
  have b:=sI ws r
  simp only[List.flatMap_cons,a_,i_]
  omega
theorem z9 (h:lz W):(lkW ws W).length<=52:=by
 have a:=sI ws W.pairs;have b:=h.os;have c:=h.ps;unfold lkW;rw[a_];omega
def dF (F:List ai):List (ai × T):=F.map λz=>(z,T.bl ag)
theorem mK (z:ai):∀F:List ai,(aR z (dF F)).isSome=decide (z∈F)
 |[]=>rfl
 |y::r=>by
  have a:=mK z r
  unfold dF at a |-
  simp only[D_,aR]
  by_cases h:y=z
  ·
   simp [h]
  ·
   rw[ace h,a]
   have h':¬z=y:=λe=>h e.symm
   simp [h']
theorem S9 (z:ai) (F:List ai):((dF F).any λb=>decide (b.1=z))=decide (z∈F):=by
 unfold dF;rw[oe];induction F with
 |nil=>rfl
 |cons y r a =>
 simp only[abM,Function.comp_apply,a];by_cases h:y=z
 .simp [h]
 have h':¬z=y:=λe=>h e.symm;simp [h,h']
theorem Tc (h:z∉F):put3 z (T.bl ag) (dF F)=dF (F++[z]):=by
 unfold put3;rw[S9,x_ h,ace B_];unfold dF;rw[v_];rfl
theorem Td (F:List ai):(dF F).length=F.length:=b_ _
theorem Te (z:ai):[(z,T.bl ag)]=dF [z]:=rfl
theorem Gy (b:(∃a,x=.ref a/\H a=ab (.lst ts))\/x=.tup ts) (h:∀still:eH->Prop,(still=cW\/∃a,still=cJ a ts/\H a=ab (.lst ts))->R ts still H):Bx x H R:=by
 rcases b with ⟨a,rfl,e⟩ | rfl
 .rw[Rf,e,qx];exact h _ (.inr ⟨a,rfl,e⟩)
 rw[Rc];exact h _ (.inl rfl)
def gH (W:Wk) (t:ai):List ai:=(W.tasks.map (·.1)).filter λx=>@decide (RT (lkR ["with"] W) t x/\RT (lkR ["with"] W) x t) (aw _)
def jE (W:Wk) (t:ai):List ai:=(W.tasks.map (·.1)).filter λx=>@decide (RT (lkR ["with"] W) x t/\¬RT (lkR ["with"] W) t x) (aw _)
def swp (o:ai × ai):ai × ai:=(o.2,o.1)
theorem Tf {L:List (ai × ai)}:RT (λx y=>(x,y)∈L.map swp) a b↔RT (λx y=>(x,y)∈L) b a:=by
 have e:(λx y=>(x,y)∈L.map swp)=λx y:ai=>(y,x)∈L:=by funext x y;refine propext ⟨λh=>?_,λh=>l_.mpr ⟨(y,x),h,rfl⟩⟩;obtain⟨o,c,d⟩:=l_.mp h;obtain⟨g,f⟩:=o;cases d;exact c
 rw[e];exact KZ
structure Hs (H:eH) (fs:List (am × O3)):Prop where
 at':∀q∈fs,H q.1=ab q.2
 nd:(fs.map (·.1)).Nodup
def W7 (H:eH) (x:T) (b:List ai):Prop:=x=sT b\/∃a,x=.ref a/\H a=ab (.lst (b.map v1))
theorem K6 (h:W7 H x b) (q:Q (.bl (if c then !decide (y∈b) else decide (y∈b))) H):uF c (.str y) x H Q:=by
 have e:dM c (v1 y) (b.map v1)=(if c then !decide (y∈b) else decide (y∈b)):=by unfold dM;have:(v1 y∈b.map v1)↔y∈b:=gh gZ;simp only[this]
 rcases h with rfl | ⟨a,rfl,d⟩
 .show uF c (.str y) (.tup (b.map v1)) H Q;rw[Nj,e];exact⟨rfl,dJ b,q⟩
 rw[Nk,d,Nm,e];exact⟨rfl,dJ b,q⟩
def vG (a:List ai) (k:ai):Bool:=decide (a=[])||decide (k∈a)
def jR (W:Wk) (t:ai):List ai:=(W.pairs.filter λp=>decide (p.1=("apart":ai))&&decide (p.2.1=t)).map (·.2.2)
def okT (W:Wk) (a:ai) (D S:List ai) (t:ai × Int × List ai):Bool :=
 !decide (t.1∈D)&&vG t.2.2 a&&@decide (∀x∈gH W t.1,x∈S) (aw _)&&@decide (∀x∈jE W t.1,x∈S++D) (aw _)&&@decide (∀x∈jR W t.1,x∉S) (aw _)
def cL (ts:List (ai × Int × List ai)) (S:List ai):Int:=((ts.filter λt=>decide (t.1∈S)).map (·.2.1)).sum
def xV (W:Wk) (aX:Int) (a:ai) (D S:List ai):Bool:=(W.tasks.all λt=>!decide (t.1∈S)||okT W a D S t)&&decide (cL W.tasks S<=aX)
def ruT (W:Wk) (ns:List ai) (t:ai × Int × List ai):T:=.tup [.int (numOf ns [t.1]),.int t.2.1,sT t.2.2,.int (numOf ns (gH W t.1)),.int (numOf ns (jE W t.1)),.int (numOf ns (jR W t.1))]
theorem xW (A:List (ai × Int × List ai)) (t:ai × Int × List ai) (S:List ai):cL (A++[t]) S=cL A S+if t.1∈S then t.2.1 else 0:=by
 unfold cL;rw[aaP,v_,kr];by_cases h:t.1∈S <;> simp [h]
theorem sJ (b:x∈ns):(a9 (numOf ns A) (numOf ns [x])=numOf ns [x])↔x∈A:=by
 rw[gm];constructor
 .intro h;exact h x b adE
 intro h y _ a;rw[e_.mp a];exact h
end M
namespace L3
open L2
def ppH (o:Option O3) (a:am) (H:eH) (Q:sy):Prop:=match o with
 |some (.lst xs)=>oq (xs[xs.length - 1]?) λt=>Q t (aY H a (.lst xs.dropLast))
 |_=>False
def Gz:T->List T->eH->sy->Prop:=λx ts H Q=>match x,ts with
 |.ref a,[]=>ppH (H a) a H Q
 |_,_=>False
theorem GC (a:am) (H:eH) (Q:sy):Gz (.ref a) [] H Q=ppH (H a) a H Q:=rfl
theorem Oi (xs:List T) (a:am) (H:eH) (Q:sy):ppH (ab (.lst xs)) a H Q=oq (xs[xs.length - 1]?) λt=>Q t (aY H a (.lst xs.dropLast)):=rfl
theorem fY.dropLast {K:a8} (r:fY K H ts vs):fY K H ts.dropLast vs.dropLast:=by
 rw[kB,kB,r.length];exact r.take _
theorem Tg:wX X "list.pop" Gz:=by
 refine MtR.imp Qu ?_;rintro x xs H Q ⟨m,ts,H3,p,j,i,d,h,k⟩;cases m with
 |ref a =>
  cases ts with
  |cons _ _=>exact h.elim
  |nil =>
  rw[GC] at h;cases e:H3 a with
  |none=>rw[e] at h;exact h.elim
  |some o =>
  rw[e] at h;cases o with
  |lst f =>
   rw[Oi] at h;obtain⟨n,b,r⟩:=d a _ e;cases c:f[f.length - 1]? with
   |none=>rw[c] at h;exact h.elim
   |some t =>
   rw[c,iD] at h;obtain⟨v,l,g⟩:=r.get c;refine⟨a,n,v,j.ref,i.inv0,b,by rw[<- r.length];exact l,k _ _ _ _ (bN (by rw[b];exact trivial)) (d.wrL b r.dropLast) (g.mono (bN (by rw[b];exact trivial))) h⟩
  |_=>exact h.elim
 |_=>exact h.elim
def eqR (a b:am) (o u:Option O3) (H:eH) (Q:sy):Prop:=match o,u with
 |some (.rol xs),ab (.lst ys)=>a≠b/\xs.all (pl 20)=ag/\ys.all (pl 20)=ag/\Q (.bl (decide (xs=ys))) H
 |_,_=>False
def Oj:R3:=λx y H Q=>match x,y with
 |.ref a,.ref b=>eqR a b (H a) (H b) H Q
 |_,_=>False
theorem Ol (a b:am) (H:eH) (Q:sy):Oj (.ref a) (.ref b) H Q=eqR a b (H a) (H b) H Q:=rfl
theorem GD (a b:am) (xs c:List T) (H:eH) (Q:sy):eqR a b (ab (.rol xs)) (ab (.lst c)) H Q=(a≠b/\xs.all (pl 20)=ag/\c.all (pl 20)=ag/\Q (.bl (decide (xs=c))) H):=rfl
theorem Th (C:X.A.units+30<cK):dj X (be .Eq) Oj:=by
 intro n s P H x y v u Q I D E h;obtain⟨K,J,H3,R,B,L,g,h,k⟩:=h;cases K with
 |ref a =>
  cases J with
  |ref b =>
   rw[Ol] at h;cases i:H3 a with
   |none=>rw[i] at h;exact h.elim
   |some o =>
   cases l:H3 b with
   |none=>rw[i,l] at h;cases o <;> exact h.elim
   |some w =>
   rw[i,l] at h;cases o with
   |rol ts =>
    cases w with
    |lst us =>
     rw[GD] at h;obtain⟨xs,F,r⟩:=g.sqL (.inr i);obtain⟨O,G,p⟩:=g b _ l;cases B.ref;cases L.ref;cases D;cases E;obtain⟨m,f,t,_⟩:=I.list (X:=X) F;obtain⟨its',c,d,_⟩:=I.list (X:=X) (.of G);have N:m.length=ts.length:=by rw[<- f.length,<- r.length]
     have M:its'.length=us.length:=by rw[<- c.length,<- p.length]
     by_cases hsz:ts.length=us.length
     .refine qh (e:=λj=>decide (ts[j]?=us[j]?)) t.isList d.isList (by simp;omega) adC (nq I C h.2.1 h.2.2.1 r p f c) ⟨.bl _,H,I,rfl,?_⟩;have e:=nA (ts:=ts) (us:=us);rw[<- hsz,Nat.min_self,beq_self_eq_true,abN] at e;rw[z_,N,e];exact k _ _ _ _ .refl g .ofBl h.2.2.2
     refine SeqAt.eq_list_lengthsAt t.isList d.isList (by simp;omega) adC ⟨.bl ah,H,I,rfl,?_⟩;have e:decide (ts=us)=ah:=x_ λz=>hsz (by rw[z]);have q:=h.2.2.2;rw[e] at q;exact k _ _ _ _ .refl g .ofBl q
    |_=>exact h.elim
   |_=>cases w <;> exact h.elim
  |_=>exact h.elim
 |_=>exact h.elim
end L3
namespace M
open L2 L3
local macro_rules | `(tactic| walk_at "c") => `(tactic| try dsimp only [uA,a4,D_,Z5,aa7,aaS,ZS,aa9,aa_])
local macro_rules | `(tactic| walk_at "n") => `(tactic| (obtain ⟨e⟩:=‹aeH (_ = _)›; subst e; try dsimp only))
local macro_rules | `(tactic| walk_at "") => do
 let ls <- ((nm0.splitOn " ").toArray.map String.toName).filterM λn => do return !(<- Lean.Macro.resolveGlobalName n).isEmpty
 let ls <- ls.mapM λn => let i:=Lean.mkIdent n; `(Lean.Parser.Tactic.simpLemma| $i:ident)
 `(tactic| ((try dsimp only [$[$ls:simpLemma],*]); try simp only [*,$[$ls:simpLemma],*]))
local macro_rules | `(tactic| walk_at "h") => `(tactic| have hsz:ap=16777216:=rfl)
local macro_rules | `(tactic| walk_at "t") => `(tactic| refine ⟨adF,?_⟩)
local macro_rules | `(tactic| walk_at "s") => `(tactic| (refine au λR h=>?_; walk_at ""))
theorem q5 (n:ai) (N:List ai) (t:T) (s:List T):aQ (n::N) (t::s)=ab t::aQ N s:=by simp [aQ]
theorem q10 (n:ai) (N:List ai):aQ (n::N) []=ae::aQ N []:=by simp [aQ,List.replicate_succ]
theorem q11:aQ [] []=[]:=rfl
theorem q12 (a b c d):Wk.enc ⟨a,b,c,d⟩=v2 [v2 (a.map tkT),v2 (b.map orT),v2 (c.map prT),v2 (d.map v1)]:=rfl
local macro_rules | `(tactic| walk_at "q") => `(tactic| simp only [q5,q10,q11,q12])
local macro_rules | `(tactic| walk_at "l") => `(tactic| (intro _ _ _ h; first | (obtain ⟨_,e,_⟩:=h; subst e; rfl) | (obtain ⟨_,_,e,_⟩:=h; subst e; rfl) | (obtain ⟨_,_,_,e,_⟩:=h; subst e; rfl) | (obtain ⟨_,_,_,_,e,_⟩:=h; subst e; rfl) | (obtain ⟨_,_,_,_,_,e,_⟩:=h; subst e; rfl) | (obtain ⟨_,_,_,_,_,_,e,_⟩:=h; subst e; rfl) | (obtain ⟨_,_,_,_,_,_,_,e,_⟩:=h; subst e; rfl) | (obtain ⟨_,_,_,_,_,_,_,_,e,_⟩:=h; subst e; rfl) | (obtain ⟨_,_,_,_,_,_,_,_,_,e,_⟩:=h; subst e; rfl) | (obtain ⟨_,_,_,_,_,_,_,_,_,_,e,_⟩:=h; subst e; rfl) | (obtain ⟨_,_,_,_,_,_,_,_,_,_,_,e,_⟩:=h; subst e; rfl) | (obtain ⟨_,_,_,_,_,_,_,_,_,_,_,_,e,_⟩:=h; subst e; rfl) | (obtain ⟨_,_,_,_,_,_,_,_,_,_,_,_,_,e,_⟩:=h; subst e; rfl) | (obtain ⟨_,_,_,_,_,_,_,_,_,_,_,_,_,_,e,_⟩:=h; subst e; rfl)))
theorem n7 (l:List ai) (h:l.Nodup:=by decide +kernel):l.Nodup:=h
theorem b6 (i:Nat) (N N':List ai) (nt:Nat) (cap:List Nat) {X}{scope} (c:X.env.scope.names=(aB (top i)).names:=by rfl) (o:X.N=N:=by rfl) (h:compLook (aB (top i)).names N (scope.kind==.function) scope.names N' nt cap=ag:=by decide +kernel):acK X N' nt cap scope:=bG c o h
theorem c6 {P:bE}{w:bS}{K:a8}{mg:ai->Option av}{base:cv}{k:Nat}{sp:Sp3}{N ps:List ai}{f:am}{fd:dk}{x:ai}{st:eD} (F:G3 K mg x st ps f fd) (S:eG N ps (aB st)) (cb:∀(c:av) (A:eB) (a:List t5) (s:aI) (H:Hp) (E:XK) (ts:List T) (H3:eH) (Q:sy),mX k (A.deeper (iq x (aB st) s.heap.objs.size f c))->sp ts H3 Q ->
   ∃t,rA (wN CX0 P w K mg base N x (aB st) f c A a s H E).nox (cF st) t/\t { nx:=λ_ H'=>lu Q .non H',rt:=lu Q} (aQ N ts) H3) (gl:∀ts H Q,sp ts H Q->ts.length=ps.length:=by walk_at "l"):mY P w K mg base (k+1) x st ps sp:=⟨f,fd,F,fn3 F.fn S gl cb⟩
structure eY (p:Prop):Prop where
 out:p
structure Cl (H:eH) (a:am):Prop where
 ex:∃ns:List Int,H a=ab (.lst (ns.map v0))/\ns.length<=504
structure Drw (a:am) (H H':eH):Prop where
 cl:Cl H' a
 off:∀b,b≠a->H' b=H b
theorem Cl.refl (D:Cl H a):Drw a H H:=⟨D,λ_ _=>rfl⟩
theorem Cl.ne (D:Cl H a) (b:H p=ae):p≠a:=λe=>by obtain⟨ns,h,_⟩:=D.ex;rw[<- e,b] at h;cases h
theorem Cl.new (D:Cl H a) (h:p≠a):Cl (aY H p u) a:=by
 obtain⟨ns,e,r⟩:=D.ex;exact⟨ns,by rw[aD (a6 h)];exact e,r⟩
def Kep (a:am) (H H':eH):Prop:=∀b o,H b=ab o->b≠a->H' b=ab o
theorem Kep.refl:Kep a H H:=λ_ _ h _=>h
theorem Kep.drw (x:Kep a H e) (y:Drw a e d):Kep a H d:=λb o h c=>by rw[y.off b c];exact x b o h c
theorem Kep.new (x:Kep a H c) (d:c p=ae):Kep a H (aY c p u):=λb o h e=>by
 have:=x b o h e;rw[aD (bf this d)];exact this
theorem Kep.at (x:Kep a H c) (d:H p=ae):Kep a H (aY c p u):=λb o h e=>by
 rw[aD (bf h d)];exact x b o h e
theorem Kep.sub (x:Kep a H d) (s:bc d c):Kep a H c:=λb o h e=>s b o (x b o h e)
theorem jf (D:Cl H' a) (k:Kep a H H') (q:∀H'',Drw a H H''->Q v H''):lu Q v H':=by
 refine⟨λb=>if b=a then H' b else H b,λb o c=>?_,q _ ⟨?_,λb d=>?_⟩⟩
 .by_cases h:b=a
  .simp only[h,if_true] at c |-;exact c
  simp only[h,Zj] at c;exact k b o c h
 .obtain⟨ns,e,r⟩:=D.ex;exact⟨ns,by simp only[if_true];exact e,r⟩
 simp only[d,Zj]
structure Wt (c:am) (H0 H:eH) (fs:List (am × O3)):Prop where
 cl:Cl H c
 kp:Kep c H0 H
 at':∀p∈fs,H p.1=ab p.2/\p.1≠c
theorem Wt.drw (w:Wt c b H e) (d:Drw c H H'):Wt c b H' e:=⟨d.cl,w.kp.drw d,λp a=>⟨by rw[d.off _ (w.at' p a).2];exact (w.at' p a).1,(w.at' p a).2⟩⟩
theorem Wt.new (w:Wt c d H e) (b:H p=ae):Wt c d (aY H p o) ((p,o)::e):=⟨w.cl.new (w.cl.ne b),w.kp.new b,λq a=>by
 rcases n_.mp a with rfl | a
 .exact⟨aA,w.cl.ne b⟩
 exact⟨by rw[aD (bf (w.at' q a).1 b)];exact (w.at' q a).1,(w.at' q a).2⟩⟩
theorem Wt.hd (w:Wt c a H ((p,o)::b)):H p=ab o:=(w.at' (p,o) k_).1
theorem Wt.tl (w:Wt c a H (q::b)):Wt c a H b:=⟨w.cl,w.kp,λp d=>w.at' p (u_ _ d)⟩
theorem Wt.set (w:Wt c b H ((p,o)::e)) (d:b p=ae) (h:∀q∈e,q.1≠p) (f:O3):Wt c b (aY H p f) ((p,f)::e) :=
 have g:=(w.at' (p,o) k_).2
 ⟨w.cl.new g,w.kp.at d,λq a=>by
  rcases n_.mp a with rfl | a
  ·
   exact⟨aA,g⟩
  ·
   exact⟨by rw[aD (h q a)];exact (w.at' q (u_ _ a)).1,(w.at' q (u_ _ a)).2⟩⟩
theorem Wt.fresh (w:Wt c b H d) (a:H p=ae):b p=ae:=by
 cases e:b p with
 |none=>rfl
 |some o=>rw[w.kp p o e (w.cl.ne a)] at a;cases a
def Om:Sp3:=λts H Q=>∃(a:am) (ns:List Int),ts=[.ref a]/\H a=ab (.rol (ns.map v0))/\ns.length<=63/\∀(p:am) (H':eH),bc H H'->H p=ae->Cl H' p->Q (.ref p) H'
def oA:Sp3:=λts H Q=>∃(d:am) (m:Int),ts=[.ref d,.int m]/\0<m/\Cl H d/\∀(n:Int) (H':eH),0<=n->n<m->Drw d H H'->Q (.int n) H'
def Ti:Sp3:=λts H Q=>∃(d:am) (m:Int),ts=[.ref d,.int m]/\0<m/\Cl H d/\∀(n:Int) (H':eH),0<=n->n<m->Drw d H H'->Q (.int n) H'
theorem gJ (D:Cl H' d) (k:Kep d H H') (f:H' p=ab o) (g:H p=ae) (c:p≠d) (q:∀H1,Drw d H H1->H1 p=ae->Q (.ref p) (aY H1 p o)):lu Q (.ref p) H':=by
 refine⟨aY (λb=>if b=d then H' b else H b) p o,λb u a=>?_,q _ ⟨?_,λb i=>?_⟩ ?_⟩
 .by_cases e:b=p
  .subst e;rw[aA] at a;rw[f];exact a
  rw[aD e] at a;by_cases h:b=d
  .simp only[h,if_true] at a |-;exact a
  simp only[h,Zj] at a;exact k b u a h
 .obtain⟨ns,e,r⟩:=D.ex;exact⟨ns,by simp only[if_true];exact e,r⟩
 .simp only[i,Zj]
 simp only[c,Zj];exact g
theorem Wt.swap (w:Wt c b H [(p,o),(q,u)]):Wt c b H [(q,u),(p,o)]:=⟨w.cl,w.kp,λx a=>w.at' x (by
 rcases n_.mp a with rfl | a
 ·
  simp
 ·
  rw[e_.mp a];simp)⟩
def K7:Sp3:=λts H Q=>∃(d a:am) (xs:List T),ts=[.ref d,.ref a]/\a≠d/\H a=ab (.lst xs)/\xs.all (pl 20)=ag/\xs.length<=60/\Cl H d/\∀(c:List T) (b:eH) (p:am),c.Perm xs->Drw d H b->b p=ae->Q (.ref p) (aY b p (.lst c))
theorem K8 {a:Type}{xs:List a} (h:j<xs.length):(xs[j]::xs.eraseIdx j).Perm xs:=by
 have e:xs=xs.take j++xs[j]::xs.drop (j+1):=by rw[<- Z3 h];exact (Zi j xs).symm
 rw[List.eraseIdx_eq_take_drop_succ];exact List.perm_middle.symm.trans (by rw[<- e])
theorem Tj {xs:List T}(h:xs.all (pl 20)=ag) (j:Nat):(xs.eraseIdx j).all (pl 20)=ag:=by
 rw[Zy] at h |-;exact λt a=>h t (List.mem_of_mem_eraseIdx a)
theorem eZ (n:Nat):cX 0 n=(af n).map λ(i:Nat)=>v0 (i:Int):=by
 unfold cX;exact ZF λi _=>by rw[Int.zero_add]
theorem cB (s:bc H H') (a:H' p=ae):H p=ae:=by
 cases e:H p with
 |none=>rfl
 |some o=>rw[s _ _ e] at a;cases a
theorem GF (ns:List Int) (b:ns.length<=63):∃a:List Int,1<=a.length/\a.length<=63/\fU (ns.map v0) ae (ab 63)++(a4 (if decide (ns.map v0=[])=ag then (1:Int) else 0).toNat [v0 0]).flatten=a.map v0:=by
 have e:fU (ns.map v0) ae (ab 63)=ns.map v0:=by rw[show (63:Int)=((63:Nat):Int) from rfl,Ej,ZL (by rw[b_];exact b)]
 rw[e];cases ns with
 |nil=>exact⟨[0],adD,adD,rfl⟩
 |cons n r=>exact⟨n::r,adE,b,adE⟩
structure Nb (H0 H:eH) (pc pf:am) (cs fs:List Int):Prop where
 sb:bc H0 H
 c:H pc=ab (.lst (cs.map v0))
 f:H pf=ab (.lst (fs.map v0))
 f0:H0 pf=ae
 ne:pc≠pf
theorem Nb.new (x:Nb b H g d e h) (a:H p=ae):Nb b (aY H p o) g d e h :=
 ⟨x.sb.trans (bc.new a),by rw[aD (bf x.c a)];exact x.c,by rw[aD (bf x.f a)];exact x.f,x.f0,x.ne⟩
theorem Nb.put {f H:eH} (x:Nb f H h b g d) (z:Int):Nb f (aY H b (.lst (d.map v0++[v0 z]))) h b g (d++[z]) :=
 ⟨λa u e=>by rw[aD (bf e x.f0)];exact x.sb a u e,by rw[aD x.ne];exact x.c,by rw[aA,v_];rfl,x.f0,x.ne⟩
theorem GJ (ns:List Int) (n:Int):((ns++[n]).map v0)[((ns++[n]).map v0).length - 1]?=ab (v0 n):=by simp
theorem Ck (ns:List Int) (n:Int):((ns++[n]).map v0).dropLast=ns.map v0:=by simp
def W8:Sp3:=λts H Q=>∃(d:am) (m:Nat),ts=[.ref d,.int (m:Int)]/\m<=8/\Cl H d/\∀(a:List Int) (b:eH) (p:am),a.length=m->(∀l∈a,1<=l/\l<10^60)->Drw d H b->b p=ae->Q (.ref p) (aY b p (.lst (a.map v0)))
theorem t60:(10:Int)^df 60=1000000000000000000000000000000000000000000000000000000000000:=by decide
theorem t58:(10:Int)^df 58=10000000000000000000000000000000000000000000000000000000000:=by decide
theorem W9:(10:Int)^60=1000000000000000000000000000000000000000000000000000000000000:=by decide
theorem pig:∀(ws:List ai) (f:Nat->ai),(∀i j,i<=ws.length->j<=ws.length->f i=f j->i=j)->(∀i,i<=ws.length->f i∈ws)->False
 |[],f,_,h=>by have:=h 0 (m_ _);simp at this
 |w::ws,f,inj,h=>by
  rw[i_] at inj h
  by_cases q:∃j,j<=ws.length+1/\f j=w
  ·
   obtain⟨j,g,e⟩:=q
   refine pig ws (λi=>if i<j then f i else f (i+1)) (λa b l m c=>?_) (λi k=>?_)
   ·
    try dsimp only at c
    split at c <;> split at c
    ·
     exact inj a b adC adC c
    ·
     have:=inj a (b+1) adC adC c;omega
    ·
     have:=inj (a+1) b adC adC c;omega
    ·
     have:=inj (a+1) (b+1) adC adC c;omega
   ·
    show (if i<j then f i else f (i+1))∈ws
    split
    ·
     exact (n_.mp (h i adC)).resolve_left λd=>by have:=inj i j adC g (d.trans e.symm);omega
    ·
     exact (n_.mp (h (i+1) adC)).resolve_left λd=>by have:=inj (i+1) j adC g (d.trans e.symm);omega
  ·
   exact pig ws f (λa b l m=>inj a b adC adC) λi k=>(n_.mp (h i adC)).resolve_left λe=>q ⟨i,adC,e⟩
def dg:Nat->Int->List Nat
 |0,_=>[]
 |n+1,l=>(97+(l%26).toNat)::dg n (l / 26)
theorem xX:∀(n:Nat) (l:Int),(dg n l).length=n
 |0,_=>rfl
 |n+1,l=>by rw[dg,i_,xX n]
theorem Oo:∀(n:Nat) (l:Int),∀c∈dg n l,97<=c/\c<=122
 |0,_,_,h=>nomatch h
 |n+1,l,c,h=>by
  rw[dg] at h
  have:=Z8 l (show (0:Int)<26 by decide)
  rcases n_.mp h with rfl | h
  ·
   omega
  ·
   exact Oo n _ c h
theorem Tn {i j:Nat} (f:i<=25) (c:j<=25) (h:mkS (dg (n+1) (a+i))=mkS (dg (n+1) (a+j))):i=j:=by
 have e:=z8 h;rw[dg,dg,aaT] at e;have g:=e.1;have d:=Z9 (a+i) (show (26:Int)≠0 by decide);have b:=Z9 (a+j) (show (26:Int)≠0 by decide);omega
def Xa:Sp3:=λts H Q=>∃(c:Nat) (b:Int) (a:am) (ws:List ai),ts=[.int (c:Int),.int b,.ref a]/\1<=c/\c<=8/\H a=ab (.lst (ws.map v1))/\ws.length<=8/\∀x,isNm x->x∉ws->Q (.str x) H
def nmK (l:List Nat) (a s i:Nat):ai:=mkS (l.take a++[97+(((s:Int)+(i:Int))%26).toNat]++l.drop (a+1))
theorem Tp (f:l.length<=8) (g:a<l.length) (e:∀c∈l,97<=c/\c<=122):isNm (nmK l a s i):=by
 have d:(l.take a++[97+(((s:Int)+(i:Int))%26).toNat]++l.drop (a+1)).length=l.length:=by rw[a_,a_,Zm,Zr,M_];omega
 refine Oh (by rw[d];omega) (by rw[d];exact f) λc b=>?_;rcases t_.mp b with b | b
 .rcases t_.mp b with b | b
  .exact e c (aaX b)
  rw[e_.mp b];have:=Z8 ((s:Int)+(i:Int)) (show (0:Int)<26 by decide);omega
 exact e c (fk b)
theorem K9 (f:i<26) (c:j<26) (h:nmK l a s i=nmK l a s j):i=j:=by
 have e:=z8 h;rw[y_,y_,List.append_cancel_left_eq,abv,abv,aaT] at e;have g:=e.1;have d:=Z9 ((s:Int)+(i:Int)) (show (26:Int)≠0 by decide);have b:=Z9 ((s:Int)+(j:Int)) (show (26:Int)≠0 by decide);omega
theorem La (f:l.length<=8) (g:a<l.length) (j:∀c∈l,97<=c/\c<=122) (o:m<=8):Nms ((af m).map (nmK l a s)):=by
 refine⟨λx b=>?_,?_⟩
 .obtain⟨i,_,rfl⟩:=l_.mp b;exact Tp f g j
 rw[ng,abx];refine abO (λ{x y} b e d h=>?_) (i6 (n:=m));have k:=F_.mp b;have p:=F_.mp e;exact d (K9 adC adC h)
def Xb:Sp3:=λts H Q=>∃(d:am) (m:Nat),ts=[.ref d,.int (m:Int)]/\1<=m/\m<=8/\Cl H d/\∀(ws:List ai) (a:eH) (p:am),ws.length=m->Nms ws->Drw d H a->a p=ae->Q (.ref p) (aY a p (.lst (ws.map v1)))
structure Tb (H0 H:eH) (p:am) (m:Nat) (as:List am):Prop where
 sb:bc H0 H
 l:as.length=m
 t:H p=ab (.lst (as.map wa))
 r:∀a∈as,∃bs:List Bool,bs.length=m/\H a=ab (.lst (bs.map T.bl))
 np:p∉as
 f0:H0 p=ae
 fa:∀a∈as,H0 a=ae
structure Rws (H0 H:eH) (m:Nat) (as:List am):Prop where
 sb:bc H0 H
 r:∀a∈as,∃bs:List Bool,bs.length=m/\H a=ab (.lst (bs.map T.bl))
 fa:∀a∈as,H0 a=ae
theorem Rws.grow {d:List Bool} (x:Rws e H m f) (k:d.length=m) (b:H q=ae):Rws e (aY H q (.lst (d.map T.bl))) m (f++[q]):=by
 refine⟨x.sb.trans (bc.new b),λa c=>?_,λa c=>?_⟩
 .rcases t_.mp c with h | h
  .obtain⟨i,j,g⟩:=x.r a h;exact⟨i,j,by rw[aD (bf g b)];exact g⟩
  rw[e_.mp h];exact⟨d,k,aA⟩
 rcases t_.mp c with h | h
 .exact x.fa a h
 rw[e_.mp h];exact cB x.sb b
theorem Tb.put {d:List Bool} (x:Tb h H p m g) (i:a∈g) (n:d.length=m):Tb h (aY H a (.lst (d.map T.bl))) p m g:=by
 have f:p≠a:=λe=>x.np (e▸i);refine⟨λb u e=>by rw[aD (bf e (x.fa a i))];exact x.sb b u e,x.l,by rw[aD f];exact x.t,λb c=>?_,x.np,x.f0,x.fa⟩;by_cases e:b=a
 .subst e;exact⟨d,n,aA⟩
 obtain⟨j,k,o⟩:=x.r b c;exact⟨j,k,by rw[aD e];exact o⟩
theorem Tb.at' (x:Tb e H p m b) (g:i<m):∃(a:am) (c:List Bool),atI (b.map wa) (i:Int)=ab (.ref a)/\a∈b/\c.length=m/\H a=ab (.lst (c.map T.bl)):=by
 have d:i<b.length:=by rw[x.l];exact g
 obtain⟨c,f,h⟩:=x.r _ (Zt d);exact⟨b[i],c,bM (by rw[J_,g_ d];rfl),Zt d,f,h⟩
theorem oF {a:List Bool} (h:j<a.length):∃b,atI (a.map T.bl) (j:Int)=ab (.bl b):=⟨a[j],bM (by rw[J_,g_ h];rfl)⟩
def Xc:Sp3:=λts H Q=>∃(m:Nat) (a:am) (b:List T),ts=[.int (m:Int),.ref a]/\m<=8/\H a=ab (.lst b)/\b.all (pl 20)=ag/\∀(p:am) (c:List am) (H':eH),Tb H H' p m c->Q (.ref p) H'
def bw (b:Bool):ai:=if b then "with" else "apart"
def pT3 (x:Bool × Nat × Nat):T:=.tup [.str (bw x.1),.int (x.2.1:Int),.int (x.2.2:Int)]
def row2 (b:Bool) (m i:Nat):List (Bool × Nat × Nat):=(af m).map λj=>(b,i,j)
def enm (b:Bool) (m:Nat) (A:List Nat):List (Bool × Nat × Nat):=A.flatMap (row2 b m)
def full (m:Nat):List (Bool × Nat × Nat):=enm ag m (af m)++enm ah m (af m)
theorem Ld:∀m:_root_.Fin 9,(full m.val).Nodup:=by decide +kernel
theorem vH (b:Bool) (m:Nat) (A:List Nat) (i:Nat):enm b m (A++[i])=enm b m A++row2 b m i:=by simp [enm]
structure Tq (d:am) (H0 H:eH) (p:am) (m:Nat) (as:List am):Prop where
 l:as.length=m
 t:H p=ab (.lst (as.map wa))
 r:∀a∈as,∃bs:List Bool,bs.length=m/\H a=ab (.lst (bs.map T.bl))
 f0:H0 p=ae
 fa:∀a∈as,H0 a=ae
 nd:p≠d
 na:∀a∈as,a≠d
theorem Tq.drw (x:Tq d b H p m e) (D:Drw d H H'):Tq d b H' p m e :=
 ⟨x.l,by rw[D.off _ x.nd];exact x.t,λa c=>by obtain⟨g,f,h⟩:=x.r a c;exact⟨g,f,by rw[D.off _ (x.na a c)];exact h⟩,x.f0,x.fa,x.nd,x.na⟩
theorem Tq.new (x:Tq d b H p m e) (c:H q=ae):Tq d b (aY H q o) p m e :=
 ⟨x.l,by rw[aD (bf x.t c)];exact x.t,λa h=>by obtain⟨i,g,f⟩:=x.r a h;exact⟨i,g,by rw[aD (bf f c)];exact f⟩,x.f0,x.fa,x.nd,x.na⟩
theorem Tq.at' (x:Tq d f H p m b) (h:i<m):∃(a:am) (c:List Bool),atI (b.map wa) (i:Int)=ab (.ref a)/\a∈b/\c.length=m/\H a=ab (.lst (c.map T.bl)):=by
 have e:i<b.length:=by rw[x.l];exact h
 obtain⟨c,g,j⟩:=x.r _ (Zt e);exact⟨b[i],c,bM (by rw[J_,g_ e];rfl),Zt e,g,j⟩
structure PI (d:am) (H0 H:eH) (pp pe a:am) (ws:List ai) (ps:List (Bool × Nat × Nat)) (es:List T):Prop where
 w:Wt d H0 H [(pp,.lst (ps.map pT3)),(pe,.lst es),(a,.lst (ws.map v1))]
 ne:pe≠pp
 na:a≠pp
 l12:ps.length<=12
 ea:es.all (pl 20)=ag
 el:es.length<=28+2*ps.length
 ok:∀x∈ps,x.2.1≠x.2.2/\x.2.1<ws.length/\x.2.2<ws.length
theorem PI.drw (x:PI d b H e f a ws ps c) (D:Drw d H H'):PI d b H' e f a ws ps c:={ x with w:=x.w.drw D}
theorem PI.add (x:PI d g H b s a ws ps f) (u:g b=ae) (A:ps.length<12) (p:y.2.1≠y.2.2/\y.2.1<ws.length/\y.2.2<ws.length) (j:aY H b (.lst ((ps++[y]).map pT3)) i=ae) (l:aY (aY H b (.lst ((ps++[y]).map pT3))) i o q=ae) (t:e.all (pl 20)=ag) (v:e.length=2):PI d g (aY (aY (aY H b (.lst ((ps++[y]).map pT3))) i o) q (.lst (f++e))) b q a ws (ps++[y]) (f++e):=by
 have n:=x.w.set u (λr c=>by
  rcases n_.mp c with rfl | c
  ·
   exact x.ne
  ·
   rw[e_.mp c];exact x.na) (.lst ((ps++[y]).map pT3))
 have m:=(n.new (o:=o) j).tl;have k:=m.new (o:=.lst (f++e)) l;refine⟨⟨k.cl,k.kp,λr c=>k.at' r ?_⟩,a6 (bf m.hd l),x.na,by rw[a_,M_];omega,by rw[qr,x.ea,t];rfl,by have:=x.el;rw[a_,a_,M_,v];omega,λz hz=>?_⟩
 .simp only[n_,ZR,aba] at c |-;rcases c with h | h | h
  .exact .inr (.inl h)
  .exact .inl h
  exact .inr (.inr (.inr h))
 rcases t_.mp hz with h | h
 .exact x.ok z h
 rw[e_.mp h];exact p
theorem PI.add1 (x:PI d c H b f a ws ps g) (j:c b=ae) (k:ps.length<12) (i:y.2.1≠y.2.2/\y.2.1<ws.length/\y.2.2<ws.length):PI d c (aY H b (.lst ((ps++[y]).map pT3))) b f a ws (ps++[y]) g:=by
 refine⟨x.w.set j (λr e=>by
  rcases n_.mp e with rfl | e
  ·
   exact x.ne
  ·
   rw[e_.mp e];exact x.na) _,x.ne,x.na,by rw[a_,M_];omega,x.ea,by have:=x.el;rw[a_,M_];omega,λz hz=>?_⟩
 rcases t_.mp hz with h | h
 .exact x.ok z h
 rw[e_.mp h];exact i
theorem PI.sub (x:PI d b H f e a ws ps g) (s:bc H H'):PI d b H' f e a ws ps g:=by
 refine { x with w:=⟨?_,x.w.kp.sub s,λq c=>⟨s _ _ (x.w.at' q c).1,(x.w.at' q c).2⟩⟩};obtain⟨ns,h,i⟩:=x.w.cl.ex;exact⟨ns,s _ _ h,i⟩
theorem Tb.tq (x:Tb H H' p m n) (c:Cl H d) (k:Kep d g H):Tq d g H' p m n:=by
 have i:∀b,H b=ae->b≠d:=λb f=>c.ne f;have j:∀b,H b=ae->g b=ae:=λb f=>by
  cases e:g b with
  |none=>rfl
  |some o=>rw[k b o e (i b f)] at f;cases f
 exact⟨x.l,x.t,x.r,j _ x.f0,λa h=>j a (x.fa a h),i _ x.f0,λa h=>i a (x.fa a h)⟩
theorem Tq.set (x:Tq d c H p m b) (f:p≠q) (j:∀a∈b,a≠q):Tq d c (aY H q o) p m b :=
 ⟨x.l,by rw[aD f];exact x.t,λa e=>by obtain⟨g,h,i⟩:=x.r a e;exact⟨g,h,by rw[aD (j a e)];exact i⟩,x.f0,x.fa,x.nd,x.na⟩
theorem jT {i k:Type}{f:i->k}:∀{j xs:List k},j.Perm xs->∀l:List i,xs=l.map f->∃c:List i,c.Perm l/\j=c.map f:=by
 intro j xs h;induction h with
 |nil=>intro l e;rw[aaK.mp e.symm];exact⟨[],abG _,rfl⟩
 |cons x _ m =>
  intro l e;cases l with
  |nil=>cases e
  |cons a r =>
  rw[D_,aaT] at e;obtain⟨c,o,u⟩:=m r e.2;exact⟨a::c,o.cons a,by rw[D_,u,e.1]⟩
 |swap x y t =>
  intro l e;cases l with
  |nil=>cases e
  |cons a r =>
  cases r with
  |nil=>rw[D_,aaT] at e;cases e.2
  |cons b r =>
  rw[D_,D_,aaT,aaT] at e;exact⟨b::a::r,so a b r,by rw[D_,D_,<- e.1,<- e.2.1,<- e.2.2]⟩
 |trans _ _ d g =>
 intro l e;obtain⟨q,n,p⟩:=g l e;obtain⟨s,v,w⟩:=d q p;exact⟨s,v.trans n,w⟩
def nmP (ws:List ai) (x:Bool × Nat × Nat):ai × ai × ai:=(bw x.1,ws.getD x.2.1 "",ws.getD x.2.2 "")
theorem gK {ws:List ai} (h:ws.Nodup) (b:i<ws.length) (a:j<ws.length) (e:ws.getD i ""=ws.getD j ""):i=j:=by
 rw[U_,U_,g_ b,g_ a] at e;have c:ws[i]=ws[j]:=e;have d:=Zn.mp h;rcases hZ i j with q | q | q
 .exact ach c (d i j b a q)
 .exact q
 exact ach c.symm (d j i a b q)
theorem Tr (h:ws.Nodup) {ps:List (Bool × Nat × Nat)} (q:ps.Nodup) (f:∀x∈ps,x.2.1≠x.2.2/\x.2.1<ws.length/\x.2.2<ws.length):(ps.map (nmP ws)).Nodup:=by
 rw[ng,abx];refine abO (λ{x y} m i b a=>b ?_) q;have g:=f x m;have c:=f y i;obtain⟨e,p,l⟩:=x;obtain⟨d,j,n⟩:=y;simp only[nmP,mi] at a;have r:p=j:=gK h g.2.1 c.2.1 a.2.1;have k:l=n:=gK h g.2.2 c.2.2 a.2.2;have o:e=d:=by have:=a.1;cases e <;> cases d <;> first | rfl | (exact ach this adx)
 rw[r,k,o]
theorem Tt (h:ws.Nodup) (o:x.2.1≠x.2.2/\x.2.1<ws.length/\x.2.2<ws.length):((nmP ws x).1="with"\/(nmP ws x).1="apart")/\(nmP ws x).2.1≠(nmP ws x).2.2/\(nmP ws x).2.1∈ws/\(nmP ws x).2.2∈ws:=by
 have a:∀i,i<ws.length->ws.getD i ""∈ws:=λi c=>by rw[U_,g_ c];exact Zt c
 refine⟨?_,λe=>o.1 (gK h o.2.1 o.2.2 e),a _ o.2.1,a _ o.2.2⟩;obtain⟨b,i,j⟩:=x;cases b
 .exact .inr rfl
 exact .inl rfl
theorem getD_at {ws:List ai} (h:i<ws.length):atI (ws.map v1) (i:Int)=ab (.str (ws.getD i "")):=bM (by rw[J_,g_ h,U_,g_ h];rfl)
theorem xY {a:Type}{ps E:List a}{y:a}(h:ps.Sublist E):(ps++[y]).Sublist (E++[y]):=h.append (abZ _)
theorem xZ {a:Type}{ps E:List a}{y:a}(h:ps.Sublist E):ps.Sublist (E++[y]):=h.trans (List.sublist_append_left _ _)
def Xd:Sp3:=λts H Q=>∃(d a o:am) (ws:List ai) (c:List T) (b:Int),ts=[.ref d,.ref a,.ref o,.int b]/\1<=b/\b<=100/\a≠d/\o≠d/\H a=ab (.lst (ws.map v1))/\Nms ws/\ws.length<=8/\H o=ab (.lst c)/\c.all (pl 20)=ag/\c.length<=28/\Cl H d /\
 ∀(prs:List (ai × ai × ai)) (p:am) (e:List am) (H':eH),prs.length<=12->prs.Nodup->(∀x∈prs,(x.1="with"\/x.1="apart")/\x.2.1≠x.2.2/\x.2.1∈ws/\x.2.2∈ws)->Cl H' d->Kep d H H'->Tq d H H' p ws.length e->Q (.tup [.tup (prs.map prT),.ref p]) H'
theorem Xe (ps:List (Bool × Nat × Nat)):(ps.map pT3).all (pl 20)=ag:=by rw[Zy];intro t a;obtain⟨x,_,rfl⟩:=l_.mp a;rfl
def Xf:Sp3:=λts H Q=>∃(d a:am) (c:ai) (ws:List ai),ts=[.ref d,.str c,.ref a]/\a≠d/\H a=ab (.lst (ws.map v1))/\Nms ws/\ws.length<=8/\isNm c/\Cl H d/\∀(b:List ai) (H':eH),Nms b->b.length<=4->Drw d H H'->Q (.tup (b.map v1)) H'
theorem Nms.ins {i:Nat}{x:ai} (h:Nms ws) (c:isNm x) (d:x∉ws):Nms (ws.take i++x::ws.drop i):=by
 have a:(ws.take i++x::ws.drop i).Perm (x::ws):=List.perm_middle.trans (by rw[Zi]);refine⟨λy b=>?_,a.nodup_iff.mpr (ZV.mpr ⟨d,h.nd⟩)⟩;rcases n_.mp (a.mem_iff.mp b) with rfl | h'
 .exact c
 exact h.nm y h'
theorem GK {ws:List ai} (h:y∈ws.take i++x::ws.drop i):y=x\/y∈ws:=by
 have a:(ws.take i++x::ws.drop i).Perm (x::ws):=List.perm_middle.trans (by rw[Zi]);exact n_.mp (a.mem_iff.mp h)
theorem vI (e:af m=A++i::B):i=A.length:=by
 have h:=T_ (λl=>l[A.length]?) e;simp only[H_ (m_ _),n9,ZS] at h;have a:A.length<m:=by have:=T_ aT e;simp only[p_,a_,i_] at this;omega
 rw[aaC a] at h;exact (Zg h).symm
theorem qL (e:af m=A++B):A=af A.length:=by
 have h:=T_ (List.take A.length) e;rw[abP,List.take_range] at h
 .have a:A.length<=m:=by have:=T_ aT e;simp only[p_,a_] at this;omega
  rw[fI a] at h;exact h.symm
 rfl
structure KI (d:am) (H3 H0 H:eH) (pf pc r a t:am) (row ws:List ai) (m:Nat) (as:List am) (cs:List ai) (ks:List (List ai)):Prop where
 w:Wt d H3 H [(pf,.lst (ks.map sT)),(pc,.lst (cs.map v1)),(r,.lst (row.map v1)),(a,.lst (ws.map v1))]
 tq:Tq d H0 H t m as
 nfc:pf≠pc
 nr:r≠pc/\r≠pf
 na:a≠pc/\a≠pf
 nt:t≠pc/\t≠pf
 ns:∀x∈as,x≠pc/\x≠pf
 c0:H3 pc=ae
 f0:H3 pf=ae
theorem KI.drw (x:KI d H3 c H e h r a t b ws m i f g) (D:Drw d H H'):KI d H3 c H' e h r a t b ws m i f g:={ x with w:=x.w.drw D,tq:=x.tq.drw D}
theorem KI.new (x:KI d H3 c H e i r a t b ws m j f h) (g:H q=ae):KI d H3 c (aY H q o) e i r a t b ws m j f h:={ x with w:=(x.w.new g).tl,tq:=x.tq.new g}
theorem KI.putf (x:KI d H3 f H e i r a t c ws m j g l) (b:List (List ai)):KI d H3 f (aY H e (.lst (b.map sT))) e i r a t c ws m j g b :=
 { x with
  w:=x.w.set x.f0 (λq h=>by
   simp only[n_,ZR,aba] at h
   rcases h with rfl | rfl | rfl
   ·
    exact a6 x.nfc
   ·
    exact x.nr.2
   ·
    exact x.na.2) _
  tq:=x.tq.set x.nt.2 λy k=>(x.ns y k).2}
theorem KI.putc (x:KI d H3 i H f c r a t b ws m k h g) (e:List ai):KI d H3 i (aY H c (.lst (e.map v1))) f c r a t b ws m k e g:=by
 refine { x with
  w:=⟨x.w.cl.new (x.w.at' (c,.lst (h.map v1)) adE).2,x.w.kp.at x.c0,λq j=>?_⟩
  tq:=x.tq.set x.nt.1 λy l=>(x.ns y l).1}
 simp only[n_,ZR,aba] at j;rcases j with rfl | rfl | rfl | rfl
 .exact⟨by rw[aD x.nfc];exact (x.w.at' (f,.lst (g.map sT)) adE).1,(x.w.at' (f,.lst (g.map sT)) adE).2⟩
 .exact⟨aA,(x.w.at' (c,.lst (h.map v1)) adE).2⟩
 .exact⟨by rw[aD x.nr.1];exact (x.w.at' (r,.lst (b.map v1)) adE).1,(x.w.at' (r,.lst (b.map v1)) adE).2⟩
 exact⟨by rw[aD x.na.1];exact (x.w.at' (a,.lst (ws.map v1)) adE).1,(x.w.at' (a,.lst (ws.map v1)) adE).2⟩
def Xg:Sp3:=λts H Q=>∃(d r a t:am) (b ws:List ai) (m:Nat) (f:eH) (g:List am),ts=[.ref d,.ref r,.ref a,.ref t]/\r≠d/\a≠d/\H r=ab (.lst (b.map v1))/\1<=b.length/\b.length<=8/\(∀x∈b,isNm x)/\H a=ab (.lst (ws.map v1))/\Nms ws/\ws.length<=8/\Tq d f H t m g/\m<=8/\Cl H d /\
 ∀(c:List (List ai)) (e:eH) (p:am),c.length=m->(∀k∈c,Nms k/\k.length<=4)->Drw d H e->e p=ae->Q (.ref p) (aY e p (.lst (c.map sT)))
def tkD (ws:List ai) (a:List Int) (b:List (List ai)) (k:Nat):ai × Int × List ai:=(ws.getD k "",a.getD k 0,b.getD k [])
def oD (ws:List ai) (a:List Nat) (x:Nat × Nat):ai × ai:=(ws.getD (a.getD x.1 0) "",ws.getD (a.getD x.2 0) "")
theorem getD_mem {a:Type}{l:List a}{d:a} (h:i<l.length):l.getD i d∈l:=by
 rw[U_,g_ h];exact Zt h
theorem oG {a:List Nat} (h:a.Nodup) (c:i<a.length) (b:j<a.length) (e:a.getD i 0=a.getD j 0):i=j:=by
 rw[U_,U_,g_ c,g_ b] at e;have f:a[i]=a[j]:=e;have d:=Zn.mp h;rcases hZ i j with q | q | q
 .exact ach f (d i j c b q)
 .exact q
 exact ach f.symm (d j i b c q)
theorem Le (ws:List ai) (a:List Int) (b:List (List ai)):((af ws.length).map (tkD ws a b)).map (·.1)=ws:=by
 apply h9;intro i;rw[J_,J_];by_cases h:i<ws.length
 .rw[aaC h,g_ h];simp [tkD,U_,g_ h]
 rw[Zf (by simp;omega),Zf adC];rfl
theorem Xh {p:List (Nat × Nat)}{prs:List (ai × ai × ai)} (c:Nms ws) (S:1<=ws.length) (Y:ws.length<=8) (hll:b.length=ws.length) (v:∀l∈b,1<=l/\l<10^60) (J:a.length=ws.length) (F:∀k∈a,Nms k/\k.length<=4) (Q:m.length=ws.length) (n:m.Nodup) (B:∀x∈m,x<ws.length) (O:p.length<=28) (s:p.Nodup) (j:∀x∈p,x.1<x.2/\x.2<ws.length) (w:prs.length<=12) (C:prs.Nodup) (A:∀x∈prs,(x.1="with"\/x.1="apart")/\x.2.1≠x.2.2/\x.2.1∈ws/\x.2.2∈ws) (R:1<=f.length) (U:f.length<=8) (Z:∀x∈f,isNm x):lz ⟨(af ws.length).map (tkD ws b a),p.map (oD ws m),prs,f⟩:=by
 have e:=Le ws b a;have g:∀i,i<ws.length->m.getD i 0<ws.length:=λi hi=>B _ (getD_mem adC);refine⟨by show 1<=((af ws.length).map (tkD ws b a)).length;rw[b_,p_];exact S,by show ((af ws.length).map (tkD ws b a)).length<=8;rw[b_,p_];exact Y,λt M=>?_,by show (((af ws.length).map (tkD ws b a)).map (·.1)).Nodup;rw[e];exact c.nd,by show (p.map (oD ws m)).length<=28;rw[b_];exact O,?_,λo T=>?_,w,C,λq P=>?_,R,U,Z⟩
 .obtain⟨k,X,rfl⟩:=l_.mp M;have z:=F_.mp X;have H:=v _ (getD_mem (d:=0) (show k<b.length by omega));have r:=F _ (getD_mem (d:=[]) (show k<a.length by omega));exact⟨c.nm _ (getD_mem z),H.1,H.2,r.1,r.2⟩
 .show (p.map (oD ws m)).Nodup;rw[ng,abx];refine abO (λ{x y} D N u E=>u ?_) s;have G:=j x D;have V:=j y N;obtain⟨W,K⟩:=x;obtain⟨I,L⟩:=y;simp only at G V;simp only[oD,mi] at E;have q1:=gK c.nd (g W adC) (g I adC) E.1;have q2:=gK c.nd (g K adC) (g L adC) E.2;rw[oG n adC adC q1,oG n adC adC q2]
 .show _/\o.1∈((af ws.length).map (tkD ws b a)).map (·.1)/\o.2∈((af ws.length).map (tkD ws b a)).map (·.1);rw[e];obtain⟨x,D,rfl⟩:=l_.mp T;have G:=j x D;refine⟨λh=>?_,getD_mem (g _ adC),getD_mem (g _ adC)⟩;have:=oG n adC adC (gK c.nd (g _ adC) (g _ adC) h);omega
 show _/\_/\q.2.1∈((af ws.length).map (tkD ws b a)).map (·.1)/\q.2.2∈((af ws.length).map (tkD ws b a)).map (·.1);rw[e];exact A q P
theorem Oq {a:List Int} (h:i<a.length):atI (a.map v0) (i:Int)=ab (.int (a.getD i 0)):=bM (by rw[J_,g_ h,U_,g_ h];rfl)
theorem Xi {a:List (List ai)} (h:i<a.length):atI (a.map sT) (i:Int)=ab (sT (a.getD i [])):=bM (by rw[J_,g_ h,U_,g_ h];rfl)
theorem Wt.kep (w:Wt c d H g) (i:Cl H' c) (e:Kep c H H'):Wt c d H' g:=⟨i,λb o h f=>e b o (w.kp b o h f) f,λp a=>⟨e _ _ (w.at' p a).1 (w.at' p a).2,(w.at' p a).2⟩⟩
def Xj:Sp3:=λts H Q=>∃(d:am) (a st:Int),ts=[.ref d,.int a,.int st]/\1<=a/\a<=8/\1<=st/\st<=8/\Cl H d/\∀(W:Wk) (H':eH),lz W->(W.tasks.length:Int)<=a->(W.row.length:Int)<=st->Drw d H H'->Q W.enc H'
def tri (m:Nat) (A:List Nat):List (Nat × Nat):=A.flatMap λi=>(eW (i+1) (m - (i+1))).map λj=>(i,j)
theorem Tu:∀m:_root_.Fin 9,(tri m.val (af m.val)).Nodup:=by decide +kernel
theorem Aa:∀m:_root_.Fin 9,(tri m.val (af m.val)).length<=28:=by decide +kernel
theorem GP (m:Nat) (A:List Nat) (i:Nat):tri m (A++[i])=tri m A++(eW (i+1) (m - (i+1))).map λj=>(i,j):=by simp [tri]
def oT (a:List Nat) (x:Nat × Nat):T:=.tup [.int ((a.getD x.1 0:Nat):Int),.int ((a.getD x.2 0:Nat):Int)]
theorem Xk (i m:Nat):cX ((i:Int)+1) ((m:Int) - ((i:Int)+1)).toNat=(eW (i+1) (m - (i+1))).map λ(j:Nat)=>v0 (j:Int):=by
 rw[show ((m:Int) - ((i:Int)+1)).toNat=m - (i+1) by omega];generalize m - (i+1)=n;unfold cX;rw[List.range'_eq_map_range,X_];exact ZF λk _=>by show v0 _=v0 _;congr 1
theorem Ot {a:List Nat} (h:i<a.length):atI (a.map λ(k:Nat)=>v0 (k:Int)) (i:Int)=ab (.int ((a.getD i 0:Nat):Int)):=bM (by rw[J_,g_ h,U_,g_ h];rfl)
theorem Ou (b:List Nat) (ps:List (Nat × Nat)):(ps.map (oT b)).all (pl 20)=ag:=by rw[Zy];intro t a;obtain⟨x,_,rfl⟩:=l_.mp a;rfl
theorem Xl (b:List Nat):(b.map λ(k:Nat)=>v0 (k:Int)).all (pl 20)=ag:=by rw[Zy];intro t a;obtain⟨x,_,rfl⟩:=l_.mp a;rfl
theorem Lg (c:∀i∈A,i<m) (h:x∈tri m A):x.1<x.2/\x.2<m:=by
 obtain⟨i,d,b⟩:=List.mem_flatMap.mp h;obtain⟨j,a,rfl⟩:=l_.mp b;have:=List.mem_range'_1.mp a;exact⟨adC,adC⟩
def dN (ns:List ai) (f:ai->Nat):List (ai × T):=ns.map λn=>(n,v0 (f n:Int))
def fu (f:ai->Nat) (n:ai) (v:Nat):ai->Nat:=λx=>if x=n then v else f x
theorem jU:∀{ns:List ai},n∈ns->aR n (dN ns f)=ab (v0 (f n:Int))
 |x::r,h=>by
  unfold dN
  rw[D_]
  unfold aR
  by_cases e:x=n
  ·
   rw[aca e,e]
  ·
   rw[ace e]
   exact jU (ns:=r) ((n_.mp h).resolve_left (a6 e))
theorem Tv {v:Nat} (h:n∈ns):put3 n (v0 (v:Int)) (dN ns f)=dN ns (fu f n v):=by
 unfold put3 dN;rw[aca (by rw[Z_];exact⟨(n,v0 (f n:Int)),l_.mpr ⟨n,h,rfl⟩,adE⟩),X_];refine ZF λx a=>?_;show (if x=n then (x,v0 (v:Int)) else (x,v0 (f x:Int)))=(x,v0 ((fu f n v x:Nat):Int));unfold fu;by_cases e:x=n
 .rw[aca e,aca e]
 rw[ace e,ace e]
theorem Tw {v:Nat} (h:n∉ns):put3 n (v0 (v:Int)) (dN ns f)=dN (ns++[n]) (fu f n v):=by
 unfold put3 dN;rw[ace (by
  intro e
  rw[Z_] at e
  obtain⟨x,a,e⟩:=e
  obtain⟨y,b,rfl⟩:=l_.mp a
  exact h (Zw e▸b)),v_]
 congr 1
 .refine ZF λx a=>?_;unfold fu;rw[ace (λ(e:x=n)=>h (e▸a))]
 unfold fu;rw[List.map_singleton,aca rfl]
theorem Tz (ns:List ai) (f:ai->Nat):(dN ns f).length=ns.length:=b_ _
def mu (m:Nat) (ns:List ai) (f:ai->Nat):Nat:=(ns.map λn=>m - f n).sum
def shn:Nat->T->Bool
 |_,.int _=>ag
 |_,.str _=>ag
 |_,.non=>ag
 |d+1,.tup ts=>decide (ts.length<=ap)&&ts.all (shn d)
 |_,_=>ah
def iN (ts:List (ai × Int × List ai)):List (ai × T):=ts.map λt=>(t.1,v0 t.2.1)
def lnOf (ts:List (ai × Int × List ai)) (n:ai):Int:=match ts.find? (λt=>decide (t.1=n)) with
 |some t=>t.2.1
 |none=>0
theorem sO:∀{ts:List (ai × Int × List ai)},n∈ts.map (·.1)->aR n (iN ts)=ab (v0 (lnOf ts n))
 |t::r,h=>by
  unfold iN lnOf
  rw[D_,aah]
  unfold aR
  by_cases e:t.1=n
  ·
   rw[aca e,A_ e]
  ·
   rw[ace e,x_ e]
   exact sO (ts:=r) ((n_.mp (show n∈t.1::r.map (·.1) from h)).resolve_left (a6 e))
theorem GQ (h:t.1∉ts.map (·.1)):put3 t.1 (v0 t.2.1) (iN ts)=iN (ts++[t]):=by
 unfold put3 iN;rw[ace (by
  intro e
  rw[Z_] at e
  obtain⟨x,b,e⟩:=e
  obtain⟨y,a,rfl⟩:=l_.mp b
  exact h (Zw e▸l_.mpr ⟨y,a,rfl⟩)),v_]
 rfl
theorem GR (ts:List (ai × Int × List ai)):(iN ts).length=ts.length:=b_ _
def smL (tk:List (ai × Int × List ai)) (ns:List ai):Int:=(ns.map (lnOf tk)).sum
def Xm:Sp3:=λts H Q=>∃(W:Wk) (D:List (List ai)),ts=[W.enc,.tup (D.map sT)]/\lz W/\D.length<=8/\(∀ns∈D,ns.length<=8/\∀n∈ns,n∈W.tasks.map (·.1))/\∀p,H p=ae->Q (.ref p) (aY H p (.lst ((D.map (smL W.tasks)).map v0)))
def ld (tk:List (ai × Int × List ai)) (ns:List ai):Int:=((tk.filter (λt=>dM ah (.str t.1) (ns.map v1))).map (·.2.1)).sum
theorem Ab:∀{tk:List (ai × Int × List ai)},(tk.map (·.1)).Nodup->t∈tk->lnOf tk t.1=t.2.1
 |u::r,hn,h=>by
  rw[D_,ZV] at hn
  unfold lnOf
  rw[aah]
  rcases n_.mp h with rfl | h
  ·
   rw[A_ rfl]
  ·
   rw[x_ (λe=>hn.1 (by rw[e];exact l_.mpr ⟨t,h,rfl⟩))]
   exact Ab hn.2 h
theorem GX {a b:List Int}(h:a.Perm b):a.sum=b.sum:=by
 induction h with
 |nil=>rfl
 |cons x _ d=>rw[aav,aav,d]
 |swap x y l=>rw[aav,aav,aav,aav];omega
 |trans _ _ c e=>exact c.trans e
theorem Ov (b:(tk.map (·.1)).Nodup) (f:ns.Nodup) (d:∀n∈ns,n∈tk.map (·.1)):smL tk ns=ld tk ns:=by
 have c:∀t:ai × Int × List ai,dM ah (.str t.1) (ns.map v1)=ag↔t.1∈ns:=λt=>W4 gZ;have e:(tk.filter (λt=>dM ah (.str t.1) (ns.map v1))).map (·.2.1)=((tk.filter (λt=>dM ah (.str t.1) (ns.map v1))).map (·.1)).map (lnOf tk):=by rw[X_];refine ZF λt a=>?_;exact (Ab b (E_.mp a).1).symm
 unfold smL ld;rw[e];refine GX (List.Perm.map _ ?_);refine (List.perm_ext_iff_of_nodup f ((List.filter_sublist.map _).nodup b)).mpr λn=>⟨λh=>?_,λh=>?_⟩
 .obtain⟨t,a,rfl⟩:=l_.mp (d n h);exact l_.mpr ⟨t,E_.mpr ⟨a,(c t).mpr h⟩,rfl⟩
 obtain⟨t,a,rfl⟩:=l_.mp h;exact (c t).mp (E_.mp a).2
theorem qM (ns:List ai) (f:ai->Nat) (m:Nat):(acO ns f m).length=m:=by unfold acO;rw[b_,p_]
def oE (o:Option T):T:=o.getD .non
def IsF (o:Option T):Prop:=∀t,o=ab t->shn 1 t=ag/\∃a r,t=.tup (a::r)
theorem IsF.none:IsF ae:=λ_ h=>(nomatch h)
theorem IsF.map {b:Type}{o:Option b}{f:b->T}(h:∀x,shn 1 (f x)=ag/\∃a r,f x=.tup (a::r)):IsF (o.map f):=λt e=>by
 obtain⟨x,_,rfl⟩:=Option.map_eq_some_iff.mp e;exact h x
theorem IsF.or (d:IsF a) (c:IsF b):IsF (a.or b):=λt e=>by
 cases a with
 |none=>exact c t e
 |some x=>exact d t e
def pL (a:List ai) (n:ai):List ai:=if n∈a then a else a++[n]
def kst (a xs:List ai):List ai:=xs.foldl pL a
def lW (k:Nat) (f:ai->Nat) (xs:List ai):ai->Nat:=xs.foldl (λf n=>fu f n k) f
def kD (D:List (List ai)):List ai:=kst [] D.flatten
def fD (D:List (List ai)):ai->Nat:=D.zipIdx.foldl (λf p=>lW p.2 f p.1) (λ_=>0)
theorem GZ (a xs:List ai) (n:ai):kst a (xs++[n])=pL (kst a xs) n:=by unfold kst;rw[aaq];rfl
theorem G4 (k:Nat) (f:ai->Nat) (xs:List ai) (n:ai):lW k f (xs++[n])=fu (lW k f xs) n k:=by unfold lW;rw[aaq];rfl
theorem Lh (A:List (List ai)) (s:List ai):kD (A++[s])=kst (kD A) s:=by unfold kD kst;rw[aaM,aaq,e7]
theorem Ac (A:List (List ai)) (s:List ai):fD (A++[s])=lW A.length (fD A) s:=by
 unfold fD;rw[List.zipIdx_append,aaq];simp
theorem Li (a:List ai) (f:ai->Nat) (n:ai) (k:Nat):put3 n (v0 (k:Int)) (dN a f)=dN (pL a n) (fu f n k):=by
 unfold pL;split
 .rename_i h;exact Tv h
 rename_i h;exact Tw h
theorem Ad (x:ai):∀(xs b:List ai),x∈kst b xs↔x∈b\/x∈xs
 |[],b=>by simp [kst]
 |n::r,b=>by
  show x∈kst (pL b n) r↔_
  rw[Ad x r]
  unfold pL
  by_cases h:n∈b
  ·
   rw[aca h,n_]
   constructor
   ·
    rintro (a | a)
    ·
     exact .inl a
    ·
     exact .inr (.inr a)
   ·
    rintro (a | rfl | a)
    ·
     exact .inl a
    ·
     exact .inl h
    ·
     exact .inr a
  ·
   rw[ace h,t_,e_,n_,or_assoc]
theorem kst_len:∀(xs a:List ai),(kst a xs).length<=a.length+xs.length
 |[],a=>m_ _
 |n::r,a=>by
  have h:=kst_len r (pL a n)
  have b:(pL a n).length<=a.length+1:=by unfold pL;split <;> simp
  show (kst (pL a n) r).length<=_
  rw[i_]
  omega
theorem afX:x∈kD D↔x∈D.flatten:=by
 unfold kD;rw[Ad];simp
theorem TF (D:List (List ai)):(kD D).length<=D.flatten.length:=by
 have:=kst_len D.flatten [];simpa [kD] using this
def kN (ts:List (ai × Int × List ai)):List (ai × T):=ts.map λt=>(t.1,sT t.2.2)
def kdOf (ts:List (ai × Int × List ai)) (n:ai):List ai:=match ts.find? (λt=>decide (t.1=n)) with
 |some t=>t.2.2
 |none=>[]
theorem Ae:∀{ts:List (ai × Int × List ai)},n∈ts.map (·.1)->aR n (kN ts)=ab (sT (kdOf ts n))
 |t::r,h=>by
  unfold kN kdOf
  rw[D_,aah]
  unfold aR
  by_cases e:t.1=n
  ·
   rw[aca e,A_ e]
  ·
   rw[ace e,x_ e]
   exact Ae (ts:=r) ((n_.mp (show n∈t.1::r.map (·.1) from h)).resolve_left (a6 e))
theorem TJ (h:t.1∉ts.map (·.1)):put3 t.1 (sT t.2.2) (kN ts)=kN (ts++[t]):=by
 unfold put3 kN;rw[ace (by
  intro e
  rw[Z_] at e
  obtain⟨x,b,e⟩:=e
  obtain⟨y,a,rfl⟩:=l_.mp b
  exact h (Zw e▸l_.mpr ⟨y,a,rfl⟩)),v_]
 rfl
theorem TQ (ts:List (ai × Int × List ai)):(kN ts).length=ts.length:=b_ _
def lX (a:List ai) (D:List (List ai)):Option T:=if D.length>a.length then ab (.tup [.str "stands",.int (D.length:Int)]) else ae
def lY (ns xs:List ai):Option T:=(xs.find? λx=>!decide (x∈ns)).map λx=>.tup [.str "strange",.str x]
def twG:List ai->List ai->Option ai
 |_,[]=>ae
 |sn,x::r=>if x∈sn then ab x else twG (sn++[x]) r
def twF (xs:List ai):Option T:=(twG [] xs).map λx=>.tup [.str "twice",.str x]
def kZ (ns xs:List ai):Option T:=(ns.find? λn=>!decide (n∈xs)).map λn=>.tup [.str "lost",.str n]
def pM (f:ai->Nat) (a:List (ai × ai)):Option T:=(a.find? λo=>decide (f o.2<f o.1)).map λo=>.tup [.str "order",.str o.1,.str o.2]
def oH (f:ai->Nat) (ps:List (ai × ai × ai)):Option T:=(ps.find? λp=>decide (f p.2.1=f p.2.2) != decide (p.1=("with":ai))).map λp=>.tup [.str p.1,.str p.2.1,.str p.2.2]
def okK (a:List ai) (k:ai):Bool:=decide (a=[])||decide (k∈a)
def iJ (b:ai->List ai) (a:List ai):Nat->List (List ai)->Option T
 |_,[]=>ae
 |k,s::r=>match s.find? λn=>!okK (b n) (a.getD k "") with
  |some n=>ab (.tup [.str "kind",.str n,.int (k:Int)])
  |none=>iJ b a (k+1) r
def fX (g:List ai->Int) (aX:Int):Nat->List (List ai)->Option T
 |_,[]=>ae
 |k,s::r=>if g s>aX then ab (.tup [.str "beat",.int (k:Int)]) else fX g aX (k+1) r
def Lj (W:Wk) (D:List (List ai)):Option T:=(lX W.row D).or ((lY (W.tasks.map (·.1)) D.flatten).or ((twF D.flatten).or (kZ (W.tasks.map (·.1)) D.flatten)))
def vJ (ns xs:List ai):Option T:=(lY ns xs).or ((twF xs).or (kZ ns xs))
def lg (W:Wk) (aX:Int) (D:List (List ai)):Option T:=(pM (fD D) W.orders).or ((oH (fD D) W.pairs).or ((iJ (kdOf W.tasks) W.row 0 D).or (fX (ld W.tasks) aX 0 D)))
def flt (W:Wk) (aX:Int) (D:List (List ai)):Option T:=(Lj W D).or (lg W aX D)
theorem Lk (ns xs:List ai):IsF (lY ns xs):=IsF.map λx=>⟨rfl,_,_,rfl⟩
theorem TV (xs:List ai):IsF (twF xs):=IsF.map λx=>⟨rfl,_,_,rfl⟩
theorem Ln (ns xs:List ai):IsF (kZ ns xs):=IsF.map λx=>⟨rfl,_,_,rfl⟩
theorem Lp (f:ai->Nat) (a:List (ai × ai)):IsF (pM f a):=IsF.map λx=>⟨rfl,_,_,rfl⟩
theorem Lq (f:ai->Nat) (ps:List (ai × ai × ai)):IsF (oH f ps):=IsF.map λx=>⟨rfl,_,_,rfl⟩
theorem Af (b:ai->List ai) (a:List ai):∀(D:List (List ai)) (k:Nat),IsF (iJ b a k D)
 |[],k=>IsF.none
 |s::r,k=>λt e=>by
  unfold iJ at e
  split at e
  ·
   cases e;exact⟨rfl,_,_,rfl⟩
  ·
   exact Af b a r (k+1) t e
theorem Ag (g:List ai->Int) (aX:Int):∀(D:List (List ai)) (k:Nat),IsF (fX g aX k D)
 |[],k=>IsF.none
 |s::r,k=>λt e=>by
  unfold fX at e
  split at e
  ·
   cases e;exact⟨rfl,_,_,rfl⟩
  ·
   exact Ag g aX r (k+1) t e
theorem Lr (ns xs:List ai):IsF (vJ ns xs):=(Lk _ _).or ((TV _).or (Ln _ _))
theorem Ls (W:Wk) (aX:Int) (D:List (List ai)):IsF (lg W aX D):=(Lp _ _).or ((Lq _ _).or ((Af _ _ _ _).or (Ag _ _ _ _)))
theorem iK {b:Type}{p:b->Bool}{A B:List b}{x:b}(h:∀a∈A,p a=ah) (d:p x=ag):(A++x::B).find? p=ab x:=by
 rw[List.find?_append,Z1.mpr (λa c=>by rw[h a c];exact B_),aah,d];rfl
theorem jg {b:Type}{p:b->Bool}{A:List b}(h:∀a∈A,p a=ah):A.find? p=ae:=Z1.mpr λa c=>by rw[h a c];exact B_
theorem str_none (h:lY ns xs=ae):∀x∈xs,x∈ns:=λx a=>by
 unfold lY at h;rw[ZP,Z1] at h;have:=h x a;simpa using this
theorem G5 (h:kZ ns xs=ae):∀n∈ns,n∈xs:=λx a=>by
 unfold kZ at h;rw[ZP,Z1] at h;have:=h x a;simpa using this
theorem Ah:∀{A:List ai},(sn++A).Nodup->x∈sn++A->twG sn (A++x::B)=ab x
 |[],_,h=>by
  show twG sn (x::B)=_
  unfold twG
  rw[aca (by simpa using h)]
 |a::A,hn,h=>by
  show twG sn (a::(A++x::B))=_
  unfold twG
  have b:a∉sn:=λz=>by
   rw[aab] at hn
   exact hn.2.2 a z a k_ rfl
  rw[ace b]
  exact Ah (by simpa using hn) (by simpa using h)
theorem yc:∀{A:List ai},(sn++A).Nodup->twG sn A=ae
 |[],_=>rfl
 |a::A,hn=>by
  unfold twG
  have b:a∉sn:=λz=>by
   rw[aab] at hn
   exact hn.2.2 a z a k_ rfl
  rw[ace b]
  exact yc (by simpa using hn)
theorem G6:∀{A sn:List ai},sn.Nodup->twG sn A=ae->(sn++A).Nodup
 |[],sn,hs,_=>by simpa using hs
 |a::A,sn,hs,h=>by
  unfold twG at h
  split at h
  ·
   cases h
  ·
   rename_i b
   have:=G6 (A:=A) (sn:=sn++[a]) (iW hs b) h
   simpa using this
theorem Lw (h:twF xs=ae):xs.Nodup:=by
 unfold twF at h;rw[ZP] at h;simpa using G6 (sn:=[]) aaA h
theorem G7 (h:lX a D=ae):D.length<=a.length:=by
 unfold lX at h;split at h
 .cases h
 omega
theorem or_none {a b:Option T}(h:a.or b=ae):a=ae/\b=ae:=by
 cases a with
 |none=>exact⟨rfl,h⟩
 |some x=>cases h
structure Dok (W:Wk) (D:List (List ai)):Prop where
 rw:D.length<=W.row.length
 st:∀x∈D.flatten,x∈W.tasks.map (·.1)
 nd:D.flatten.Nodup
 al:∀n∈W.tasks.map (·.1),n∈D.flatten
theorem Dok.of (h:Lj W D=ae):Dok W D:=by
 have a:=or_none h;have b:=or_none a.2;have c:=or_none b.2;exact⟨G7 a.1,str_none b.1,Lw c.1,G5 c.2⟩
theorem Dok.in (h:Dok W D) (a:s∈D):s.Nodup/\∀n∈s,n∈W.tasks.map (·.1) :=
 ⟨(List.sublist_flatten_of_mem a).nodup h.nd,λn b=>h.st n (ZW.mpr ⟨s,a,b⟩)⟩
theorem qN:∀{D:List (List ai)}{k:Nat},(∀s∈D,g s=g' s)->fX g aX k D=fX g' aX k D
 |[],_,_=>rfl
 |s::r,k,h=>by
  unfold fX
  rw[h s k_,qN λx a=>h x (u_ _ a)]
theorem Ai:∀{A:List (List ai)}{k:Nat},(∀j s',A[j]?=ab s'->∀n∈s',okK (c n) (b.getD (k+j) "")=ag)->(s.find? λn=>!okK (c n) (b.getD (k+A.length) ""))=ab n ->
  iJ c b k (A++s::B)=ab (.tup [.str "kind",.str n,.int ((k+A.length:Nat):Int)])
 |[],k,_,h=>by
  show iJ c b k (s::B)=_
  unfold iJ
  rw[show k+([]:List (List ai)).length=k from rfl] at h
  rw[h]
  rfl
 |a::A,k,hA,h=>by
  show iJ c b k (a::(A++s::B))=_
  unfold iJ
  rw[jg (λx f=>by have q:=hA 0 a rfl x f;rw[kc] at q;rw[q];rfl)]
  have e:k+(a::A).length=(k+1)+A.length:=by rw[i_];omega
  rw[e] at h |-
  exact Ai (λj s' d n g=>by have:=hA (j+1) s' d n g;rwa [show k+(j+1)=k+1+j by omega] at this) h
theorem kin_no:∀{A:List (List ai)}{k:Nat},(∀j s',A[j]?=ab s'->∀n∈s',okK (c n) (b.getD (k+j) "")=ag)->iJ c b k A=ae
 |[],_,_=>rfl
 |a::A,k,hA=>by
  unfold iJ
  rw[jg (λx e=>by have q:=hA 0 a rfl x e;rw[kc] at q;rw[q];rfl)]
  exact kin_no (λj s' d n f=>by have:=hA (j+1) s' d n f;rwa [show k+(j+1)=k+1+j by omega] at this)
theorem Aj:∀{A:List (List ai)}{k:Nat},(∀s'∈A,g s'<=aX)->g s>aX->fX g aX k (A++s::B)=ab (.tup [.str "beat",.int ((k+A.length:Nat):Int)])
 |[],k,_,h=>by
  show fX g aX k (s::B)=_
  unfold fX
  rw[aca h]
  rfl
 |a::A,k,hA,h=>by
  show fX g aX k (a::(A++s::B))=_
  unfold fX
  have:=hA a k_
  rw[ace adC,Aj (λx b=>hA x (u_ _ b)) h,i_,show k+1+A.length=k+(A.length+1) by omega]
theorem yd:∀{A:List (List ai)}{k:Nat},(∀s'∈A,g s'<=aX)->fX g aX k A=ae
 |[],_,_=>rfl
 |a::A,k,hA=>by
  unfold fX
  have:=hA a k_
  rw[ace adC,yd λx b=>hA x (u_ _ b)]
theorem oK {B:List (List ai)}:(A++s::B).flatten=A.flatten++(s++B.flatten):=by rw[aaM,aao]
theorem Lx {xs:List ai}:dM ag (v1 x) (xs.map v1)=!decide (x∈xs):=by
 rw[Zv,Sy gZ];simp
theorem G8 {xs:List ai}:dM ah (v1 x) (xs.map v1)=decide (x∈xs):=by
 rw[Zv,W4 gZ];simp
theorem jV {d:Type} (xs:List d) (I:List d->St3->eH->Prop) (j:I [] a H) (l:∀a H,I xs a H->still H/\D.nx a H) (m:∀A x B a H (N:St3->eH->Prop),xs=A++x::B->I A a H->(∀b H',I (A++[x]) b H'->N b H')->still H/\g (.int (A.length:Int)) a H λσ2 H2=>c { D with nx:=N,ct:=N,bk:=D.nx} σ2 H2):acu g c D still (cX 0 xs.length) a H:=by
 have st:∀(k:Int) (n:Nat),cX k (n+1)=.int k::cX (k+1) n:=λk n=>by
  unfold cX;rw[List.range_succ_eq_map,D_,X_];congr 1
  .simp
  refine ZF λi _=>?_;show v0 (k+((i+1:Nat):Int))=_;congr 1;omega
 have:∀(B A:List d) (a:St3) (H:eH),xs=A++B->I A a H->acu g c D still (cX (A.length:Int) B.length) a H:=by
  intro B;induction B with
  |nil=>intro A a H e h;rw[P_] at e;subst e;exact l a H h
  |cons x B f =>
  intro A a H e h;rw[i_,st];refine m A x B a H _ e h λb H' h'=>?_;have q:=f (A++[x]) b H' (by rw[e,y_];rfl) h';rw[a_,M_,Int.natCast_add] at q;exact q
 exact this xs [] a H rfl j
theorem sS {b:Type}(a:b->T) {A B:List b}{x:b}:atI ((A++x::B).map a) (A.length:Int)=ab (a x):=bM (by rw[J_,H_ (m_ _)];simp)
theorem TX (ts:List T) (i:Int) (H:eH) (Q:sy):ixH (ab (.rol ts)) i H Q=oq (atI ts i) λt=>Q t H:=rfl
def Xn:Sp3:=λts H Q=>∃(a b:am) (ns xs:List ai),ts=[.ref a,.ref b]/\H a=ab (.lst (ns.map v1))/\H b=ab (.lst (xs.map v1))/\ns.length<=1000/\xs.length<=1000/\Q (oE (vJ ns xs)) H
def TY:Sp3:=λts H Q=>∃(W:Wk) (aX:Int) (D:List (List ai)),ts=[W.enc,.int aX,.tup (D.map sT)]/\lz W/\D.flatten.length<=1000/\Dok W D/\Q (oE (lg W aX D)) H
def Xo:Sp3:=λts H Q=>∃D:List (List ai),ts=[.tup (D.map sT)]/\D.flatten.length<=1000/\∀p,H p=ae->Q (.ref p) (aY H p (.lst (D.flatten.map v1)))
def Xp:Sp3:=λts H Q=>∃D:List (List ai),ts=[.tup (D.map sT)]/\D.flatten.length<=1000/\D.length<=1000/\∀p,H p=ae->Q (.ref p) (aY H p (.dct (dN (kD D) (fD D))))
def Xq:Sp3:=λts H Q=>∃tk:List (ai × Int × List ai),ts=[.tup (tk.map tkT)]/\tk.length<=8/\∀p,H p=ae->Q (.ref p) (aY H p (.lst ((tk.map (·.1)).map v1)))
def Xr:Sp3:=λts H Q=>∃(W:Wk) (aX:Int) (D:List (List ai)),ts=[W.enc,.int aX,.tup (D.map sT)]/\lz W/\D.flatten.length<=1000/\D.length<=1000/\Q (oE (flt W aX D)) H
structure Fil (W:Wk) (aX:Int) (kind:ai) (D S:List ai):Prop where
 one:∀t∈W.tasks,t.1∈S->t.1∉D/\vG t.2.2 kind=ag/\(∀x∈gH W t.1,x∈S)/\(∀x∈jE W t.1,x∈S\/x∈D)/\∀x∈jR W t.1,x∉S
 ld:cL W.tasks S<=aX
theorem aea:xV W aX c D S=ag↔Fil W aX c D S:=by
 unfold xV;rw[Zx,j_,Zy];have d:∀t:ai × Int × List ai,(!decide (t.1∈S)||okT W c D S t)=ag↔(t.1∈S->t.1∉D/\vG t.2.2 c=ag/\(∀x∈gH W t.1,x∈S)/\(∀x∈jE W t.1,x∈S\/x∈D)/\∀x∈jR W t.1,x∉S):=λt=>by
  unfold okT;rw[qE,abz,decide_eq_false_iff_not,Zx,Zx,Zx,Zx,abz,decide_eq_false_iff_not,@j_ _ (aw _),@j_ _ (aw _),@j_ _ (aw _)];constructor
  .intro h e;obtain⟨⟨⟨⟨i,l⟩,k⟩,g⟩,m⟩:=h.resolve_left (λz=>z e);exact⟨i,l,k,λx j=>t_.mp (g x j),m⟩
  intro h;by_cases e:t.1∈S
  .obtain⟨i,l,k,g,m⟩:=h e;exact .inr ⟨⟨⟨⟨i,l⟩,k⟩,λx j=>t_.mpr (g x j)⟩,m⟩
  exact .inl e
 exact⟨λ⟨a,b⟩=>⟨λt f=>(d t).mp (a t f),b⟩,λh=>⟨λt f=>(d t).mpr (h.one t f),h.ld⟩⟩
theorem lM (h:∀x,x∈S↔x∈a):cL ts S=cL ts a:=by
 have e:(ts.filter λt=>decide (t.1∈S))=ts.filter λt=>decide (t.1∈a):=aar λt _=>by rw[abe];exact h t.1
 unfold cL;rw[e]
theorem Fil.congr (f:Fil W aX a D S) (d:∀x,x∈D↔x∈g) (b:∀x,x∈S↔x∈e):Fil W aX a g e :=
 ⟨λt i m=>by
  obtain⟨j,l,k,h,n⟩:=f.one t i ((b _).mpr m)
  exact⟨λz=>j ((d _).mpr z),l,λx c=>(b x).mp (k x c),λx c=>(h x c).imp (b x).mp (d x).mp,λx c z=>n x c ((b x).mpr z)⟩,by rw[<- lM b];exact f.ld⟩
def acS (W:Wk) (aX:Int) (D:List (List ai)):Prop:=∀k s,D[k]?=ab s->Fil W aX (W.row.getD k "") (D.take k).flatten s
theorem acS.snoc (h:acS W aX D) (f:Fil W aX (W.row.getD D.length "") D.flatten s):acS W aX (D++[s]):=λk s' e=>by
 by_cases c:k<D.length
 .rw[Y_ c] at e;rw[abf adC];exact h k s' e
 rw[H_ adC] at e;have b:k - D.length=0:=by
  cases hz:k - D.length with
  |zero=>rfl
  |succ n=>rw[hz] at e;simp at e
 have a:k=D.length:=adC
 subst a;rw[b] at e;simp only[ZS,abA] at e;subst e;rw[abP]
 .exact f
 rfl
theorem acS.nil:acS W aX []:=λk s e=>by simp at e
theorem ye:∀{xs:List ai}{f:ai->Nat},n∉xs->lW k f xs n=f n
 |[],_,_=>rfl
 |x::r,f,h=>by
  rw[n_,not_or] at h
  show lW k (fu f x k) r n=f n
  rw[ye h.2]
  unfold fu
  rw[ace h.1]
theorem G9:∀{xs:List ai}{f:ai->Nat},n∈xs->lW k f xs n=k
 |x::r,f,h=>by
  show lW k (fu f x k) r n=k
  by_cases a:n∈r
  ·
   exact G9 a
  ·
   rw[ye a]
   unfold fu
   rw[aca ((n_.mp h).resolve_right a)]
theorem fc (b:D.flatten.Nodup):∀{k:Nat}{s:List ai}{n:ai},D[k]?=ab s->n∈s->fD D n=k:=by
 induction hl:D.length generalizing D with
 |zero=>intro k s n e;rw[aac.mp hl] at e;simp at e
 |succ m c =>
 intro k s n e a;obtain⟨A,l,rfl⟩:∃A l,D=A++[l]:=by refine⟨D.dropLast,D.getLast (by intro z;rw[z] at hl;cases hl),(abp _).symm⟩
 have g:A.length=m:=by simp at hl;exact hl
 rw[Ac];rw[aaM,e7,aab] at b;by_cases h:k<A.length
 .rw[Y_ h] at e;have d:n∈A.flatten:=ZW.mpr ⟨s,ZC e,a⟩;rw[ye λz=>b.2.2 n d n z rfl];exact c b.1 g e a
 rw[H_ adC] at e;have f:k - A.length=0:=by
  cases hz:k - A.length with
  |zero=>rfl
  |succ n=>rw[hz] at e;simp at e
 rw[f] at e;simp only[ZS,abA] at e;subst e;rw[G9 a];omega
theorem jh {D:List (List ai)} (h:n∈D.flatten):∃(k:Nat) (s:List ai),D[k]?=ab s/\n∈s:=by
 obtain⟨s,a,b⟩:=ZW.mp h;obtain⟨k,c⟩:=fm a;exact⟨k,s,c,b⟩
theorem acJ {D:List (List ai)}:n∈(D.take k).flatten↔∃(j:Nat) (s:List ai),j<k/\D[j]?=ab s/\n∈s:=by
 constructor
 .intro h;obtain⟨j,s,e,a⟩:=jh h;rw[nc] at e;split at e
  .exact⟨j,s,by assumption,e,a⟩
  cases e
 rintro⟨j,s,b,e,a⟩;refine ZW.mpr ⟨s,?_,a⟩;refine ZC (i:=j) ?_;rw[nc,aca b];exact e
theorem sU:∀{tk:List (ai × Int × List ai)},(tk.map (·.1)).Nodup->t∈tk->kdOf tk t.1=t.2.2
 |u::r,hn,h=>by
  rw[D_,ZV] at hn
  unfold kdOf
  rw[aah]
  rcases n_.mp h with rfl | h
  ·
   rw[A_ rfl]
  ·
   rw[x_ (λe=>hn.1 (by rw[e];exact l_.mpr ⟨t,h,rfl⟩))]
   exact sU hn.2 h
theorem vK:∀{A:List (List ai)}{k:Nat},iJ c b k A=ae->∀j s',A[j]?=ab s'->∀n∈s',okK (c n) (b.getD (k+j) "")=ag
 |a::A,k,h,j,s',e,n,hn=>by
  unfold iJ at h
  split at h
  ·
   cases h
  ·
   rename_i d
   cases j with
   |zero =>
    simp only[ZS,abA] at e
    subst e
    have:=Z1.mp d n hn
    rw[kc]
    simpa using this
   |succ j =>
    have:=vK h j s' (by simpa using e) n hn
    rwa [show k+(j+1)=k+1+j by omega]
theorem vL:∀{A:List (List ai)}{k:Nat},fX g aX k A=ae->∀s'∈A,g s'<=aX
 |a::A,k,h,s',b=>by
  unfold fX at h
  split at h
  ·
   cases h
  ·
   rcases n_.mp b with rfl | b
   ·
    omega
   ·
    exact vL h s' b
theorem sV (tk:List (ai × Int × List ai)) (s:List ai):ld tk s=cL tk s:=by
 have e:(tk.filter λt=>dM ah (.str t.1) (s.map v1))=tk.filter λt=>decide (t.1∈s):=aar λt _=>G8;unfold ld cL;rw[e]
theorem Ha (h:lkR ["with"] W a b):(a,b)∈W.orders\/∃p∈W.pairs,p.1="with"/\(p.2=(a,b)\/p.2=(b,a)):=by
 unfold lkR lkW at h;rcases t_.mp h with h | h
 .exact .inl h
 obtain⟨p,d,c⟩:=List.mem_flatMap.mp h;unfold lkP at c;split at c
 .rename_i e;refine .inr ⟨p,d,by simpa using e,?_⟩;simp only[n_,mi,ZR,aba] at c;rcases c with ⟨rfl,rfl⟩ | ⟨rfl,rfl⟩
  .exact .inl rfl
  exact .inr rfl
 cases c
theorem T3 (h:(a,b)∈W.orders):lkR ["with"] W a b:=Zq _ h
theorem Ly (h:(("with":ai),a,b)∈W.pairs):lkR ["with"] W a b/\lkR ["with"] W b a:=by
 have:∀q,q∈lkP ["with"] ("with",a,b)->q∈lkW ["with"] W:=λq c=>Ze _ (List.mem_flatMap.mpr ⟨_,h,c⟩);constructor
 .exact this _ (by unfold lkP;simp)
 exact this _ (by unfold lkP;simp)
structure Rgt (W:Wk) (aX:Int) (D:List (List ai)) (f:ai->Nat):Prop where
 ord:∀o∈W.orders,f o.1<=f o.2
 pai:∀p∈W.pairs,f p.2.1=f p.2.2↔p.1="with"
 kin:∀k s,D[k]?=ab s->∀t∈W.tasks,t.1∈s->vG t.2.2 (W.row.getD k "")=ag
 bea:∀s∈D,cL W.tasks s<=aX
theorem Lz (i:lz W) (h:Dok W D):lg W aX D=ae↔Rgt W aX D (fD D):=by
 constructor
 .intro e;have l:=or_none e;have u:=or_none l.2;have q:=or_none u.2;refine⟨λo f=>?_,λp c=>?_,λk s y t b a=>?_,λs a=>?_⟩
  .have:=l.1;unfold pM at this;rw[ZP,Z1] at this;have:=this o f;rw[j_] at this;omega
  .have:=u.1;unfold oH at this;rw[ZP,Z1] at this;have:=this p c;by_cases g:fD D p.2.1=fD D p.2.2 <;> by_cases d:p.1="with" <;> simp [g,d] at this |-
  .have:=vK q.1 k s y t.1 a;rw[sU i.nd b,aaG] at this;exact this
  rw[<- sV];exact vL q.2 s a
 intro r;unfold lg;have x:pM (fD D) W.orders=ae:=by unfold pM;rw[ZP,Z1];intro o f;have:=r.ord o f;rw[j_];omega
 have w:oH (fD D) W.pairs=ae:=by unfold oH;rw[ZP,Z1];intro p c;have:=r.pai p c;by_cases g:fD D p.2.1=fD D p.2.2 <;> by_cases d:p.1="with" <;> simp [g,d] at this |-
 have v:iJ (kdOf W.tasks) W.row 0 D=ae:=kin_no λj s e n m=>by obtain⟨t,b,rfl⟩:=l_.mp ((h.in (ZC e)).2 n m);rw[sU i.nd b,aaG];exact r.kin j s e t b m
 have z:fX (ld W.tasks) aX 0 D=ae:=yd λs a=>by rw[sV];exact r.bea s a
 rw[x,w,v,z];rfl
theorem oM (O:lz W) (h:Dok W D):Rgt W aX D (fD D)↔acS W aX D:=by
 have u:∀{n:ai},n∈W.tasks.map (·.1)->∃s,D[fD D n]?=ab s/\n∈s:=λg=>by obtain⟨k,s,e,c⟩:=jh (h.al _ g);rw[fc h.nd e c];exact⟨s,e,c⟩
 constructor
 .intro r k s e;have w:∀{a b:ai},RT (lkR ["with"] W) a b->fD D a<=fD D b:=λz=>by
   induction z with
   |refl=>exact m_ _
   |step _ l X =>
   refine W_ X ?_;rcases Ha l with o | ⟨p,m,v,e | e⟩
   .exact r.ord _ o
   .have:=(r.pai p m).mpr v;rw[e] at this;exact abh this
   have:=(r.pai p m).mpr v;rw[e] at this;exact abh this.symm
  refine⟨λt i c=>?_,r.bea s (ZC e)⟩;have Z:=fc h.nd e c;refine⟨λz=>?_,r.kin k s e t i c,λx G=>?_,λx G=>?_,λx G L=>?_⟩
  .obtain⟨j,s',T,d,g⟩:=acJ.mp z;have:=fc h.nd d g;omega
  .obtain⟨A,C⟩:=E_.mp G;rw[@j_ _ (aw _)] at C;have B:=w C.1;have e2:=w C.2;obtain⟨s',d,g⟩:=u A;rw[show fD D x=k by omega,e] at d;cases d;exact g
  .obtain⟨A,C⟩:=E_.mp G;rw[@j_ _ (aw _)] at C;have B:=w C.1;obtain⟨s',d,g⟩:=u A;by_cases z:fD D x=k
   .rw[z,e] at d;cases d;exact .inl g
   exact .inr (acJ.mpr ⟨_,s',adC,d,g⟩)
  obtain⟨p,m,rfl⟩:=l_.mp G;obtain⟨m,v⟩:=E_.mp m;rw[Zx,j_,j_] at v;have B:=(r.pai p m).mp (by rw[v.2,Z,fc h.nd e L]);rw[v.1] at B;exact ach B adD
 intro F;have fil:∀{t:ai × Int × List ai},t∈W.tasks->∃s,D[fD D t.1]?=ab s/\t.1∈s/\Fil W aX (W.row.getD (fD D t.1) "") (D.take (fD D t.1)).flatten s:=λi=>by obtain⟨s,e,c⟩:=u (l_.mpr ⟨_,i,rfl⟩);exact⟨s,e,c,F _ _ e⟩
 have w:∀{a b:ai},a∈W.tasks.map (·.1)->b∈W.tasks.map (·.1)->RT (lkR ["with"] W) a b->fD D a<=fD D b:=λ{a b} I U z=>by
  obtain⟨t,i,rfl⟩:=l_.mp U;obtain⟨s,e,c,f⟩:=fil i;obtain⟨_,_,P,S,_⟩:=f.one t i c;by_cases y:RT (lkR ["with"] W) t.1 a
  .have:=P a (E_.mpr ⟨I,@A_ _ (aw _) ⟨y,z⟩⟩);exact abh (fc h.nd e this)
  rcases S a (E_.mpr ⟨I,@A_ _ (aw _) ⟨z,y⟩⟩) with q | q
  .exact abh (fc h.nd e q)
  obtain⟨j,s',T,d,g⟩:=acJ.mp q;rw[fc h.nd d g];omega
 refine⟨λo N=>?_,λp m=>?_,λk s e t i c=>((F k s e).one t i c).2.1,λs c=>?_⟩
 .obtain⟨_,E,H⟩:=O.oo o N;exact w E H (.step .refl (T3 N))
 .obtain⟨v,_,E,H⟩:=O.pp p m;constructor
  .intro e;refine v.resolve_right λI=>?_;obtain⟨t,i,M⟩:=l_.mp E;obtain⟨s,B,c,f⟩:=fil i;obtain⟨_,_,_,_,R⟩:=f.one t i c;refine R p.2.2 (l_.mpr ⟨p,E_.mpr ⟨m,by rw[Zx,j_,j_];exact⟨I,M.symm⟩⟩,rfl⟩) ?_;obtain⟨s',d,g⟩:=u H;have Q:fD D p.2.2=fD D t.1:=by rw[M];exact e.symm
   rw[Q,B] at d;cases d;exact g
  intro J;have K:(("with":ai),p.2.1,p.2.2)∈W.pairs:=by rw[<- J];exact m
  obtain⟨l1,V⟩:=Ly K;exact Nat.le_antisymm (w E H (.step .refl l1)) (w H E (.step .refl V))
 obtain⟨k,Y⟩:=fm c;exact (F k s Y).ld
theorem vM (a:lz W) (h:Dok W D):lg W aX D=ae↔acS W aX D:=(Lz a h).trans (oM a h)
theorem T4 (g:D.length<=W.row.length) (f:∀x∈D.flatten,x∈W.tasks.map (·.1)) (e:D.flatten.Nodup):Lj W D=kZ (W.tasks.map (·.1)) D.flatten:=by
 unfold Lj;have c:lX W.row D=ae:=by unfold lX;rw[ace adC]
 have b:lY (W.tasks.map (·.1)) D.flatten=ae:=by unfold lY;rw[ZP,Z1];intro x d;rw[A_ (f x d)];exact B_
 have a:twF D.flatten=ae:=by unfold twF;rw[ZP];exact yc (by simpa using e)
 rw[c,b,a];rfl
theorem LC (h:Dok W D):flt W aX D=lg W aX D:=by
 unfold flt;rw[T4 h.rw h.st h.nd];have:kZ (W.tasks.map (·.1)) D.flatten=ae:=by unfold kZ;rw[ZP,Z1];intro x a;rw[A_ (h.al x a)];exact B_
 rw[this];rfl
theorem Hb (a:lz W) (h:Dok W D):flt W aX D=ae↔acS W aX D:=by
 rw[LC h];exact vM a h
theorem LK:∀{D:List (List ai)},acS W aX D->(∀s∈D,s.Nodup/\∀n∈s,n∈W.tasks.map (·.1))->D.flatten.Nodup:=by
 intro D;induction hl:D.length generalizing D with
 |zero=>intro _ _;rw[aac.mp hl];exact aaA
 |succ m j =>
 intro F d;obtain⟨A,l,rfl⟩:∃A l,D=A++[l]:=by refine⟨D.dropLast,D.getLast (by intro z;rw[z] at hl;cases hl),(abp _).symm⟩
 have o:A.length=m:=by simp at hl;exact hl
 have q:acS W aX A:=λk s e=>by
  have r:k<A.length:=by
   rcases abl k A.length with z | z
   .exact z
   rw[Zf z] at e;cases e
  have:=F k s (by rw[Y_ r];exact e)
  rwa [abf adC] at this
 rw[aaM,e7,aab];have c:=d l adE;refine⟨j o q λs h=>d s (Zq _ h),c.1,λa p b g e=>?_⟩;subst e;obtain⟨t,i,rfl⟩:=l_.mp (c.2 a g);have f:=F A.length l (by rw[H_ (m_ _)];simp);rw[abP rfl] at f;exact (f.one t i g).1 p
def Xu:Sp3:=λts H Q=>∃(d:am) (W:Wk),ts=[.ref d,W.enc]/\lz W/\Cl H d/\∀(n:Int) (H':eH),0<=n->Drw d H H'->Q (.int n) H'
theorem yf:∀{l:List Int},(∀x∈l,0<=x)->0<=l.sum
 |[],_=>ZJ _
 |x::r,h=>by
  have b:=h x k_
  have c:=yf λy a=>h y (u_ _ a)
  rw[aav]
  omega
theorem LQ {l:List Int}(h:∀x∈l,0<=x) (i:Nat):0<=l.getD i 0:=by
 rw[U_];cases e:l[i]? with
 |none=>exact ZJ _
 |some x=>exact h x (ZC e)
theorem Hc {a:List ai} (h:k<a.length):atI (a.map v1) (k:Int)=ab (.str (a.getD k "")):=bM (by rw[J_,g_ h,U_,g_ h];rfl)
theorem qO:∀ns:List ai,pick ns 0=[]
 |[]=>rfl
 |n::r=>by
  have:=qO r
  unfold pick
  simpa using this
theorem Ak:∀(ns:List ai) (b:Int),(pick ns b).Sublist ns
 |[],_=>abZ _
 |n::r,b=>by
  have:=Ak r (b / 2)
  unfold pick
  split
  ·
   exact this.cons₂ n
  ·
   exact this.cons n
theorem lq (p:lz W) (g:ns.Perm (W.tasks.map (·.1))) (w:m<=W.row.length) (t:∀n,f n<m):Dok W (acO ns f m):=by
 have d:∀x,x∈(acO ns f m).flatten↔x∈ns:=λx=>by
  rw[ZW];constructor
  .rintro⟨s,o,c⟩;obtain⟨k,_,rfl⟩:=l_.mp o;exact (E_.mp c).1
  intro c;exact⟨_,l_.mpr ⟨f x,F_.mpr (t x),rfl⟩,E_.mpr ⟨c,A_ rfl⟩⟩
 refine⟨by rw[qM];exact w,λx c=>g.mem_iff.mp ((d x).mp c),?_,λx c=>(d x).mpr (g.mem_iff.mpr c)⟩;have z:=g.nodup_iff.mpr p.nd;unfold acO;have:∀l:List Nat,l.Nodup->((l.map λk=>ns.filter λn=>decide (f n=k)).flatten).Nodup:=by
  intro l;induction l with
  |nil=>intro _;exact aaA
  |cons k r q =>
  intro i;rw[ZV] at i;rw[D_,aao,aab];refine⟨List.filter_sublist.nodup z,q i.2,λa y b h e=>?_⟩;subst e;obtain⟨s,o,h⟩:=ZW.mp h;obtain⟨j,v,rfl⟩:=l_.mp o;have A:=Zw (E_.mp y).2;have u:=Zw (E_.mp h).2;exact i.1 (by rw[<- A,u];exact v)
 exact this _ i6
def gre {b:Type}(a:b->b->Bool):List b->List b
 |[]=>[]
 |n::B=>if (gre a B).any (λg=>a g n) then gre a B else gre a B++[n]
theorem sW:∀(xs:List b),∀g∈gre a xs,g∈xs
 |[],g,h=>h
 |n::B,g,h=>by
  unfold gre at h
  split at h
  ·
   exact u_ _ (sW B g h)
  ·
   rcases t_.mp h with h | h
   ·
    exact u_ _ (sW B g h)
   ·
    rw[e_.mp h];exact k_
theorem Al {c:f->f->Bool} (i:∀a,c a a=ag):∀(xs:List f),∀b∈xs,∃g∈gre c xs,c g b=ag
 |n::B,b,h=>by
  unfold gre
  rcases n_.mp h with rfl | h
  ·
   split
   ·
    rename_i j
    obtain⟨g,d,e⟩:=Z_.mp j
    exact⟨g,d,e⟩
   ·
    exact⟨b,adE,i b⟩
  ·
   obtain⟨g,d,e⟩:=Al i B b h
   split
   ·
    exact⟨g,d,e⟩
   ·
    exact⟨g,Zq _ d,e⟩
theorem Cm (m:Nat):af (m+m)=af m++(af m).map (·+m):=by
 rw[sg];congr 1;exact ZF λa _=>Nat.add_comm _ _
theorem Am:∀(ws:List ai) (b:Int),(pick ws b).length<=ws.length
 |[],_=>m_ _
 |x::r,b=>by
  unfold pick
  have:=Am r (b / 2)
  split
  ·
   rw[i_,i_];omega
  ·
   rw[i_];omega
def bU (b a:Nat):Bool:=decide (a9 (b:Int) (a:Int)=(a:Int))
theorem gM (b a:Nat):bU b a=ag↔b &&& a=a:=by
 unfold bU;rw[j_,sE];exact Int.ofNat_inj
theorem Cp (a:Nat):bU a a=ag:=(gM a a).mpr (Nat.and_self a)
def nm (W:Wk):List ai:=W.tasks.map (·.1)
def pk (W:Wk) (i:Nat):List ai:=pick (nm W) (i:Int)
def top2 (W:Wk):Nat:=2^W.tasks.length
theorem lr (W:Wk):(nm W).length=W.tasks.length:=b_ _
theorem dW (b:lz W) (h:i<top2 W):bT (nm W) (pk W i)=i:=by
 have a:((i:Int))<2^(nm W).length:=by
  have e:((2^W.tasks.length:Nat):Int)=(2:Int)^W.tasks.length:=by push_cast;rfl
  rw[lr,<- e];exact Int.ofNat_lt.mpr h
 have:=Gv (ns:=nm W) b.nd (aaF i) a;rw[cG] at this;exact Int.ofNat.inj this
theorem mL (A:List ai):bT (nm W) A<top2 W:=by
 have:=vC (nm W) A;rw[cG,lr] at this;have e:((2^W.tasks.length:Nat):Int)=(2:Int)^W.tasks.length:=by push_cast;rfl
 rw[<- e] at this;exact Int.ofNat_lt.mp this
theorem Ow (a:lz W) (A:List ai):pk W (bT (nm W) A)=(nm W).filter λx=>decide (x∈A):=by
 unfold pk;rw[<- cG];exact vD _ _ a.nd
theorem jF (a:lz W):x∈pk W (bT (nm W) A)↔x∈nm W/\x∈A:=by
 rw[Ow a,E_,j_]
theorem iM (h:x∈pk W i):x∈nm W:=jP _ _ x h
theorem Xv (a:lz W) (i:Nat):(pk W i).Nodup:=(Ak _ _).nodup a.nd
theorem ie:∀(ns A B:List ai),(∀x∈ns,x∈B↔x∉A)->bT ns A+bT ns B+1=2^ns.length
 |[],_,_,_=>rfl
 |x::r,A,B,h=>by
  have d:=ie r A B λy c=>h y (u_ _ c)
  have b:=h x k_
  simp only[bT,i_,fT]
  by_cases a:x∈A
  ·
   rw[aca a,ace (λz=>b.mp z a)];omega
  ·
   rw[ace a,aca (b.mpr a)];omega
theorem iQ:∀(ns A B:List ai),(∀x∈ns,¬(x∈A/\x∈B))->bT ns A+bT ns B=bT ns (A++B)
 |[],_,_,_=>rfl
 |x::r,A,B,h=>by
  have e:=iQ r A B λy c=>h y (u_ _ c)
  have d:=h x k_
  simp only[bT,t_]
  by_cases a:x∈A
  ·
   have b:x∉B:=λz=>d ⟨a,z⟩
   simp only[a,b,if_true,Zj,aba];omega
  ·
   by_cases b:x∈B
   ·
    simp only[a,b,if_true,Zj,or_true];omega
   ·
    simp only[a,b,Zj,or_self];omega
theorem vN:bU (bT (nm W) A) (bT (nm W) B)=ag↔∀x∈nm W,x∈B->x∈A:=by
 unfold bU;rw[j_,<- cG,<- cG];exact gm _ _ _
def vO (N:Nat):List Nat:=(af (N+1)).filter (bU N)
theorem LR (h:bU N i=ag):i<=N:=by
 have:=(gM N i).mp h;have:=Nat.and_le_left (n:=N) (m:=i);omega
theorem An (h:N<M):(af M).filter (bU N)=vO N:=by
 obtain⟨k,rfl⟩:∃k,M=(N+1)+k:=⟨M - (N+1),adC⟩;unfold vO;rw[sg,aaP];have:((af k).map λx=>N+1+x).filter (bU N)=[]:=by rw[List.filter_eq_nil_iff];intro a b;obtain⟨x,_,rfl⟩:=l_.mp b;intro z;have:=LR z;omega
 rw[this,P_]
theorem vP (d:i<2^k):bU N (i+2^k)=(bU N (2^k)&&bU N i):=by
 have a:i+2^k=2^k ||| i:=by have:=Nat.two_pow_add_eq_or_of_lt d 1;rw[Nat.mul_one] at this;omega
 rw[Zv,Zx,gM,gM,gM,a];constructor
 .intro h;have c:∀j,(N &&& (2^k ||| i)).testBit j=(2^k ||| i).testBit j:=λj=>by rw[h]
  refine⟨k6 λj=>?_,k6 λj=>?_⟩
  .have:=c j;rw[fF,se] at this;rw[fF];cases b:(2^k).testBit j <;> simp_all
  have:=c j;rw[fF,se] at this;rw[fF];cases b:i.testBit j <;> simp_all
 rintro⟨b,e⟩;rw[Nat.and_or_distrib_left,b,e]
theorem Hd:(af (2^(k+1))).filter (bU N)=(af (2^k)).filter (bU N)++if bU N (2^k)=ag then ((af (2^k)).filter (bU N)).map (·+2^k) else []:=by
 rw[show 2^(k+1)=2^k+2^k by rw[fT];omega,Cm,aaP];congr 1;rw[ku];by_cases h:bU N (2^k)=ag
 .rw[aca h];congr 1;refine aar λi a=>?_;show bU N (i+2^k)=bU N i;rw[vP (F_.mp a),h,ab2]
 rw[ace h,List.filter_eq_nil_iff.mpr,Z5];intro i a;show ¬bU N (i+2^k)=ag;rw[vP (F_.mp a),Zx];exact λz=>h z.1
def fil (W:Wk) (aX:Int) (k d i:Nat):Bool:=xV W aX (W.row.getD k "") (pk W d) (pk W i)
def fls (W:Wk) (aX:Int) (k d:Nat):List Nat:=(af (top2 W)).filter (fil W aX k d)
theorem acn:i∈fls W aX k d↔i<top2 W/\Fil W aX (W.row.getD k "") (pk W d) (pk W i):=by
 unfold fls;rw[E_,F_];unfold fil;rw[aea]
theorem Fil.apart (f:Fil W aX a D S) (d:x∈nm W) (c:x∈S):x∉D:=by
 obtain⟨t,b,rfl⟩:=l_.mp d;exact (f.one t b c).1
theorem Cq (c:lz W) (e:d<top2 W):(vO (top2 W - 1 - d)).filter (fil W aX k d)=fls W aX k d:=by
 have j:top2 W - 1 - d<top2 W:=adC
 rw[<- An j];unfold fls;rw[List.filter_filter];refine aar λi g=>?_;have b:=F_.mp g;cases h:fil W aX k d i with
 |false=>rfl
 |true =>
 rw[ab2];have f:Fil W aX (W.row.getD k "") (pk W d) (pk W i):=aea.mp h;have m:top2 W - 1 - d=bT (nm W) ((nm W).filter λx=>decide (x∉pk W d)):=by
  have:=ie (nm W) (pk W d) ((nm W).filter λx=>decide (x∉pk W d)) λx a=>by rw[E_,j_];exact⟨λz=>z.2,λz=>⟨a,z⟩⟩
  rw[dW c e,lr] at this;unfold top2;omega
 rw[m,show i=bT (nm W) (pk W i) from (dW c b).symm];rw[vN];intro x a l;rw[E_,j_];exact⟨a,f.apart a l⟩
inductive Frw (W:Wk) (aX:Int):List Nat->Nat->Prop
 |nil:Frw W aX [] 0
 |snoc {fs:List Nat} {d f:Nat}:Frw W aX fs d->fs.length<W.row.length->f∈fls W aX fs.length d->Frw W aX (fs++[f]) (d+f)
theorem Ma (W:Wk):pk W 0=[]:=qO _
theorem Frw.ok (i:lz W) (r:Frw W aX a d):d<top2 W/\a.length<=W.row.length/\(∀x,x∈pk W d↔x∈(a.map (pk W)).flatten)/\acS W aX (a.map (pk W))/\∀f∈a,f<top2 W:=by
 induction r with
 |nil=>exact⟨p9 adD,aae _,λx=>by rw[Ma];rfl,acS.nil,λ_ h=>(nomatch h)⟩
 |@snoc a d f r p m k =>
 obtain⟨l,_,j,q,o⟩:=k;obtain⟨c,F⟩:=acn.mp m;have e:d+f=bT (nm W) (pk W d++pk W f):=by rw[<- iQ _ _ _ λx n z=>F.apart n z.2 z.1,dW i l,dW i c]
 refine⟨by rw[e];exact mL _,by rw[a_];exact p,λx=>?_,?_,λg b=>?_⟩
 .rw[e,jF i,v_,aaM,t_,t_,<- j x];simp only[D_,Z5,aao,o1,P_];exact⟨λz=>z.2,λz=>⟨z.elim iM iM,z⟩⟩
 .rw[v_];refine q.snoc ?_;rw[b_];exact F.congr j λx=>Iff.rfl
 rcases t_.mp b with b | b
 .exact o g b
 rw[e_.mp b];exact c
theorem Frw.of (g:lz W):∀{D:List (List ai)},D.length<=W.row.length->(∀s∈D,∀n∈s,n∈nm W)->acS W aX D->Frw W aX (D.map (bT (nm W))) (bT (nm W) D.flatten):=by
 intro D;induction hl:D.length generalizing D with
 |zero=>intro _ _ _;rw[aac.mp hl,Z5,o1,iI];exact .nil
 |succ m i =>
 intro t c F;obtain⟨A,l,rfl⟩:∃A l,D=A++[l]:=⟨D.dropLast,D.getLast (by intro z;rw[z] at hl;cases hl),(abp _).symm⟩;have j:A.length=m:=by simp at hl;exact hl
 have p:acS W aX A:=λk s e=>by
  have q:k<A.length:=by
   rcases abl k A.length with z | z
   .exact z
   rw[Zf z] at e;cases e
  have:=F k s (by rw[Y_ q];exact e)
  rwa [abf adC] at this
 have r:=i j adC (λs h=>c s (Zq _ h)) p;have f:=F A.length l (by rw[H_ (m_ _)];simp);rw[abP rfl] at f;have d:=c l adE;have a:∀n∈A.flatten,n∈nm W:=λn b=>by obtain⟨s,h,b⟩:=ZW.mp b;exact c s (Zq _ h) n b
 have:=Frw.snoc r (by rw[b_];omega) (f:=bT (nm W) l) (acn.mpr ⟨mL _,by
  rw[b_]
  exact f.congr (λx=>by rw[jF g];exact⟨λz=>⟨a x z,z⟩,λz=>z.2⟩) λx=>by rw[jF g];exact⟨λz=>⟨d x z,z⟩,λz=>z.2⟩⟩)
 rw[iQ _ _ _ λx o z=>f.apart o z.2 z.1] at this;rw[v_,aaM];simpa using this
theorem qP (c:lz W):∀x∈nm W,x∈pk W (top2 W - 1):=λx a=>by
 have b:bT (nm W) (nm W)=top2 W - 1:=by
  have:=ie (nm W) (nm W) [] λy d=>by simp [d]
  rw[iI,lr] at this;unfold top2;omega
 rw[<- b,jF c];exact⟨a,a⟩
theorem lw (h:∀x∈nm W,x∈A):bT (nm W) A=top2 W - 1:=by
 have:=ie (nm W) A [] λy a=>by simp [h y a]
 rw[iI,lr] at this;unfold top2;omega
theorem Frw.dok (c:lz W) (r:Frw W aX b (top2 W - 1)):Dok W (b.map (pk W))/\acS W aX (b.map (pk W)):=by
 obtain⟨_,j,f,e,_⟩:=r.ok c;have d:∀s∈b.map (pk W),s.Nodup/\∀n∈s,n∈W.tasks.map (·.1):=λs h=>by obtain⟨i,_,rfl⟩:=l_.mp h;exact⟨Xv c i,λn a=>iM a⟩
 refine⟨⟨by rw[b_];exact j,λx g=>?_,LK e d,λn a=>(f n).mp (qP c n a)⟩,e⟩;obtain⟨s,h,a⟩:=ZW.mp g;exact (d s h).2 x a
theorem Frw.ofD (a:lz W) (h:Dok W D) (F:acS W aX D):Frw W aX (D.map (bT (nm W))) (top2 W - 1):=by
 have:=Frw.of a h.rw (λs b=>(h.in b).2) F
 rwa [lw h.al] at this
def bF (i:Nat):T:=.int (i:Int)
def wkF (W:Wk) (aX:Int) (p:am):List (ai × T):=[("works",W.enc),("beat",.int aX),("rules",.ref p),("whole",.int ((top2 W:Int) - 1))]
structure Wlk (C:am) (W:Wk) (aX:Int) (H:eH) (a:am):Prop where
 ex:∃p,H a=ab (.ins C (wkF W aX p))/\H p=ab (.lst (W.tasks.map (ruT W (W.tasks.map (·.1)))))
theorem Wlk.sub (h:Wlk C W aX H a) (s:bc H H'):Wlk C W aX H' a:=by
 obtain⟨p,b,c⟩:=h.ex;exact⟨p,s _ _ b,s _ _ c⟩
theorem vQ:aR "works" (wkF W aX p)=ab W.enc:=rfl
theorem Mf:aR "beat" (wkF W aX p)=ab (.int aX):=by unfold wkF aR;rw[ace adx];unfold aR;rw[aca rfl]
theorem vR:aR "rules" (wkF W aX p)=ab (.ref p):=by unfold wkF aR;rw[ace adx];unfold aR;rw[ace adx];unfold aR;rw[aca rfl]
theorem oN:aR "whole" (wkF W aX p)=ab (.int ((top2 W:Int) - 1)):=by unfold wkF aR;rw[ace adx];unfold aR;rw[ace adx];unfold aR;rw[ace adx];unfold aR;rw[aca rfl]
theorem qQ (h:m∉(["works","beat","rules","whole"]:List ai)):aR m (wkF W aX p)=ae:=by
 simp only[n_,ZR,aba,not_or] at h;unfold wkF;simp only[aR];rw[ace (a6 h.1),ace (a6 h.2.1),ace (a6 h.2.2.1),ace (a6 h.2.2.2)]
theorem T5 (a:lz W) (h:i<top2 W):numOf (W.tasks.map (·.1)) (pk W i)=(i:Int):=by
 rw[cG];exact T_ Int.ofNat (dW a h)
theorem mO (a:lz W):top2 W<=256:=aaY (n:=2) adD a.t8
theorem jW (W:Wk):0<top2 W:=p9 adD
def Ox:Sp3:=λts H Q=>∃N:Nat,ts=[.int (N:Int)]/\N<256/\∀p,H p=ae->Q (.ref p) (aY H p (.lst ((vO N).map bF)))
def T6 (C:am):Sp3:=λts H Q=>∃(a:am) (W:Wk) (aX:Int),ts=[.ref a,W.enc,.int aX]/\lz W/\H a=ab (.ins C [])/\∀H',(∀b o,b≠a->H b=ab o->H' b=ab o)->Wlk C W aX H' a->Q .non H'
def T7 (C:am):Sp3:=λts H Q=>∃(a:am) (W:Wk) (aX:Int) (k d:Nat),ts=[.ref a,.int (k:Int),.int (d:Int)]/\lz W/\Wlk C W aX H a/\k<W.row.length/\d<top2 W/\∀p,H p=ae->Q (.ref p) (aY H p (.lst ((fls W aX k d).map bF)))
def Oz (C:am):Sp3:=λts H Q=>∃(a:am) (W:Wk) (aX:Int) (i:Nat),ts=[.ref a,.int (i:Int)]/\lz W/\Wlk C W aX H a/\i<top2 W/\Q (.int (cL W.tasks (pk W i))) H
def T8 (C:am):Sp3:=λts H Q=>∃(a:am) (W:Wk) (aX:Int) (b:List Nat),ts=[.ref a,.tup (b.map bF)]/\lz W/\Wlk C W aX H a/\b.length<=8/\(∀f∈b,f<top2 W)/\Q (.tup ((b.map (pk W)).map sT)) H
section
variable {α:Type}
def cC (k:Nat):List (Nat × α)->Option α
 |[]=>ae
 | (k',v)::r=>if k'=k then ab v else cC k r
def putN (k:Nat) (v:α) (E:List (Nat × α)):List (Nat × α) :=
 if (E.any λe=>decide (e.1=k))=ag then E.map (λe=>if e.1=k then (e.1,v) else e) else E++[(k,v)]
def dI (a:α->T) (E:List (Nat × α)):List (Int × T):=E.map λe=>((e.1:Int),a e.2)
theorem Hf (a:α->T) (E:List (Nat × α)):(dI a E).length=E.length:=b_ _
theorem jX (a:α->T) (k:Nat):∀E:List (Nat × α),dq (k:Int) (dI a E)=(cC k E).map a
 |[]=>rfl
 | (k',v)::r=>by
  have b:=jX a k r
  unfold dI at b |-
  rw[D_]
  unfold dq cC
  by_cases h:k'=k
  ·
   rw[aca h,aca (show ((k':Nat):Int)=(k:Int) by rw[h])];rfl
  ·
   rw[ace h,ace (show ¬((k':Nat):Int)=(k:Int) by omega),b]
theorem Hg (a:α->T) (k:Nat) (v:α) (E:List (Nat × α)):pK (k:Int) (a v) (dI a E)=dI a (putN k v E):=by
 have c:((dI a E).any λb=>decide (b.1=(k:Int)))=E.any λe=>decide (e.1=k):=by unfold dI;rw[oe];congr 1;funext e;show decide ((e.1:Int)=(k:Int))=decide (e.1=k);rw[abe];omega
 unfold pK putN;rw[c];split
 .unfold dI;rw[X_,X_];refine ZF λe _=>?_;show (if (e.1:Int)=(k:Int) then ((e.1:Int),a v) else ((e.1:Int),a e.2))=_;show _=((((if e.1=k then (e.1,v) else e).1:Nat):Int),a (if e.1=k then (e.1,v) else e).2);by_cases h:e.1=k
  .rw[aca h,aca (by rw[h])]
  rw[ace h,ace adC]
 unfold dI;rw[v_];rfl
theorem dG:∀{E:List (Nat × α)},cC k E=ab v->(k,v)∈E
 | (k',v')::r,h=>by
  unfold cC at h
  by_cases e:k'=k
  ·
   rw[aca e] at h;cases h;subst e;exact k_
  ·
   rw[ace e] at h;exact u_ _ (dG h)
theorem jG:∀{E:List (Nat × α)},cC k E=ae->∀e∈E,e.1≠k
 | (k',v')::r,h,e,a=>by
  unfold cC at h
  by_cases z:k'=k
  ·
   rw[aca z] at h;cases h
  ·
   rw[ace z] at h
   rcases n_.mp a with rfl | a
   ·
    exact z
   ·
    exact jG h e a
theorem Cr (k:Nat) (v:α) (E:List (Nat × α)):(putN k v E).map (·.1)=if k∈E.map (·.1) then E.map (·.1) else E.map (·.1)++[k]:=by
 have a:(E.any λe=>decide (e.1=k))=decide (k∈E.map (·.1)):=by rw[Zv,Z_,j_,l_];exact⟨λ⟨e,h,z⟩=>⟨e,h,Zw z⟩,λ⟨e,h,z⟩=>⟨e,h,A_ z⟩⟩
 unfold putN;rw[a];by_cases h:k∈E.map (·.1)
 .rw[aca h,aca (A_ h),X_];refine ZF λe _=>?_;show (if e.1=k then (e.1,v) else e).1=e.1;split <;> rfl
 rw[ace h,ace (Ex h),v_];rfl
theorem iR {e:Nat × α} (h:e∈putN k v E):e=(k,v)\/(e∈E/\e.1≠k)\/(e∈E/\k∉E.map (·.1)):=by
 unfold putN at h;split at h
 .obtain⟨x,a,rfl⟩:=l_.mp h;by_cases z:x.1=k
  .rw[aca z,z];exact .inl rfl
  rw[ace z];exact .inr (.inl ⟨a,z⟩)
 rename_i b;rcases t_.mp h with h | h
 .refine .inr (.inr ⟨h,λz=>b ?_⟩);obtain⟨x,a,e⟩:=l_.mp z;exact Z_.mpr ⟨x,a,A_ e⟩
 exact .inl (e_.mp h)
theorem jY (k:Nat) (v:α) (E:List (Nat × α)):(k,v)∈putN k v E:=by
 unfold putN;split
 .rename_i h;obtain⟨x,a,e⟩:=Z_.mp h;refine l_.mpr ⟨x,a,?_⟩;have:=Zw e;rw[aca this,this]
 exact Ze _ (e_.mpr rfl)
theorem oO {e:Nat × α} (h:e∈E) (a:e.1≠k):e∈putN k v E:=by
 unfold putN;split
 .exact l_.mpr ⟨e,h,ace a⟩
 exact Zq _ h
theorem jZ {E:List (Nat × α)} (h:(E.map (·.1)).Nodup):((putN k v E).map (·.1)).Nodup:=by
 rw[Cr];split
 .exact h
 rename_i z;exact iW h z
theorem j0:∀{E:List (Nat × α)},(E.map (·.1)).Nodup->(k,v)∈E->cC k E=ab v
 | (k',v')::r,nd,h=>by
  rw[D_,ZV] at nd
  unfold cC
  rcases n_.mp h with e | h
  ·
   cases e;rw[aca rfl]
  ·
   rw[ace (λz=>nd.1 (by rw[z];exact l_.mpr ⟨_,h,rfl⟩))]
   exact j0 nd.2 h
end
def evT (v:Int × List Nat):T:=.tup [.int v.1,.tup (v.2.map bF)]
abbrev Ev:=List (Nat × Int × List Nat)
def ldN (W:Wk) (i:Nat):Int:=cL W.tasks (pk W i)
def sqs (W:Wk) (a:List Nat):Int:=(a.map λf=>ldN W f^2).sum
def stp (W:Wk) (d:Nat) (v:Int × List Nat) (B:Ev) (f:Nat):Ev:=match cC (d+f) B with
 |none=>putN (d+f) (v.1+ldN W f^2,v.2++[f]) B
 |some u=>if v.1+ldN W f^2<u.1 then putN (d+f) (v.1+ldN W f^2,v.2++[f]) B else B
def ebh (W:Wk) (aX:Int) (k:Nat) (E:Ev):Ev:=E.foldl (λB e=>(fls W aX k e.1).foldl (stp W e.1 e.2) B) []
def evs (W:Wk) (aX:Int):Nat->Ev
 |0=>[(0,0,[])]
 |k+1=>ebh W aX k (evs W aX k)
structure Tbl (W:Wk) (aX:Int) (k:Nat) (E:Ev):Prop where
 nd:(E.map (·.1)).Nodup
 ok:∀e∈E,Frw W aX e.2.2 e.1/\e.2.2.length=k/\e.2.1=sqs W e.2.2
 al:∀fs d,Frw W aX fs d->fs.length=k->∃e∈E,e.1=d/\e.2.1<=sqs W fs
theorem vU (W:Wk) (a:List Nat) (f:Nat):sqs W (a++[f])=sqs W a+ldN W f^2:=by
 unfold sqs;rw[v_,kr];simp
structure TbI (W:Wk) (aX:Int) (k:Nat) (sub:Nat->Int × List Nat->Nat->Prop) (B:Ev):Prop where
 nd:(B.map (·.1)).Nodup
 ok:∀e∈B,Frw W aX e.2.2 e.1/\e.2.2.length=k+1/\e.2.1=sqs W e.2.2
 al:∀d v f,sub d v f->∃e∈B,e.1=d+f/\e.2.1<=v.1+ldN W f^2
theorem TbI.step (h:TbI W aX k sub B) (t:Frw W aX v.2 d) (o:v.2.length=k) (r:v.1=sqs W v.2) (w:k<W.row.length) (p:f∈fls W aX k d):
  TbI W aX k (λd' g i=>sub d' g i\/(d'=d/\g=v/\i=f)) (stp W d v B f):=by
 have j:Frw W aX (v.2++[f]) (d+f)/\(v.2++[f]).length=k+1/\v.1+ldN W f^2=sqs W (v.2++[f]) :=
  ⟨.snoc t adC (by rw[o];exact p),by rw[a_,o];rfl,by rw[vU,r]⟩
 unfold stp;cases e:cC (d+f) B with
 |none =>
  refine⟨jZ h.nd,λx a=>?_,λd' g i b=>?_⟩
  .rcases iR a with rfl | ⟨a,_⟩ | ⟨a,_⟩
   .exact j
   .exact h.ok x a
   exact h.ok x a
  rcases b with b | ⟨rfl,rfl,rfl⟩
  .obtain⟨x,a,m,l⟩:=h.al d' g i b;exact⟨x,oO a (jG e x a),m,l⟩
  exact⟨_,jY _ _ _,rfl,ZJ _⟩
 |some u =>
  have s:=dG e
  show TbI W aX k _ (if v.1+ldN W f^2<u.1 then putN (d+f) (v.1+ldN W f^2,v.2++[f]) B else B)
  by_cases c:v.1+ldN W f^2<u.1
  ·
   rw[aca c]
   refine⟨jZ h.nd,λx a=>?_,λd' g i b=>?_⟩
   ·
    rcases iR a with rfl | ⟨a,_⟩ | ⟨a,_⟩
    ·
     exact j
    ·
     exact h.ok x a
    ·
     exact h.ok x a
   ·
    rcases b with b | ⟨rfl,rfl,rfl⟩
    ·
     obtain⟨x,a,m,l⟩:=h.al d' g i b
     by_cases z:x.1=d+f
     ·
      have n:x.2=u:=by
       have q:=j0 h.nd (show (x.1,x.2)∈B from a)
       rw[z,e] at q
       exact (Zg q).symm
      exact⟨_,jY _ _ _,by rw[<- m,z],by rw[n] at l;show v.1+ldN W f^2<=_;omega⟩
     ·
      exact⟨x,oO a z,m,l⟩
    ·
     exact⟨_,jY _ _ _,rfl,ZJ _⟩
  ·
   rw[ace c]
   refine⟨h.nd,h.ok,λd' g i b=>?_⟩
   rcases b with b | ⟨rfl,rfl,rfl⟩
   ·
    exact h.al d' g i b
   ·
    exact⟨_,s,rfl,by show u.1<=_;omega⟩
theorem TbI.inner (q:Frw W aX v.2 d) (s:v.2.length=k) (p:v.1=sqs W v.2) (t:k<W.row.length):
  ∀{xs:List Nat},(∀f∈xs,f∈fls W aX k d)->TbI W aX k sub B->TbI W aX k (λd' a b=>sub d' a b\/(d'=d/\a=v/\b∈xs)) (xs.foldl (stp W d v) B):=by
 intro xs;induction xs generalizing sub B with
 |nil=>intro _ h;exact⟨h.nd,h.ok,λd' a b c=>h.al d' a b (c.resolve_right λz=>nomatch z.2.2)⟩
 |cons f r n =>
 intro l h;have i:=n (λg o=>l g (u_ _ o)) (h.step q s p t (l f k_));refine⟨i.nd,i.ok,λd' a b c=>i.al d' a b ?_⟩;rcases c with c | ⟨m,j,e⟩
 .exact .inl (.inl c)
 rcases n_.mp e with e | e
 .exact .inl (.inr ⟨m,j,e⟩)
 exact .inr ⟨m,j,e⟩
theorem TbI.outer (g:k<W.row.length):∀{xs:Ev}{sub:Nat->Int × List Nat->Nat->Prop}{B:Ev},(∀e∈xs,Frw W aX e.2.2 e.1/\e.2.2.length=k/\e.2.1=sqs W e.2.2)->TbI W aX k sub B ->
  TbI W aX k (λd v f=>sub d v f\/((d,v)∈xs/\f∈fls W aX k d)) (xs.foldl (λB e=>(fls W aX k e.1).foldl (stp W e.1 e.2) B) B)
 |[],_,_,_,h=>⟨h.nd,h.ok,λd v f a=>h.al d v f (a.resolve_right λz=>nomatch z.1)⟩
 |e::r,sub,B,hx,h=>by
  obtain⟨j,m,l⟩:=hx e k_
  have q:=TbI.outer g (xs:=r) (λx b=>hx x (u_ _ b)) (TbI.inner (xs:=fls W aX k e.1) j m l g (λf i=>i) h)
  refine⟨q.nd,q.ok,λd v f a=>q.al d v f ?_⟩
  rcases a with a | ⟨n,c⟩
  ·
   exact .inl (.inl a)
  ·
   rcases n_.mp n with z | z
   ·
    rw[<- z] at *
    exact .inl (.inr ⟨rfl,rfl,c⟩)
   ·
    exact .inr ⟨z,c⟩
theorem Frw.inv (r:Frw W aX c d) (b:c.length=k+1):∃a d' f,c=a++[f]/\d=d'+f/\Frw W aX a d'/\a.length=k/\f∈fls W aX k d':=by
 cases r with
 |nil=>cases b
 |@snoc a d' f r g e =>
  have:a.length=k:=by rw[a_] at b;simp at b;exact b
  exact⟨a,d',f,rfl,rfl,r,this,by rw[<- this];exact e⟩
theorem Hh (h:Tbl W aX k E) (o:k<W.row.length):Tbl W aX (k+1) (ebh W aX k E):=by
 have q:=TbI.outer (W:=W) (aX:=aX) o (xs:=E) (sub:=λ_ _ _=>False) (B:=[]) h.ok ⟨aaA,λ_ z=>(nomatch z),λ_ _ _ z=>z.elim⟩;refine⟨q.nd,q.ok,λt d r l=>?_⟩;obtain⟨i,d',f,rfl,rfl,m,a,c⟩:=r.inv l;obtain⟨e,j,n,p⟩:=h.al i d' m a;obtain⟨x,g,b,s⟩:=q.al d' e.2 f (.inr ⟨by rw[<- n];exact j,c⟩);exact⟨x,g,b,by rw[vU];omega⟩
theorem Frw.nil0 (r:Frw W aX a d) (h:a=[]):d=0:=by
 cases r with
 |nil=>rfl
 |@snoc c d' f r b e=>exact ach h adE
theorem oR:∀{k:Nat},k<=W.row.length->Tbl W aX k (evs W aX k)
 |0,_=>⟨by simp [evs],λe b=>by rw[e_.mp (show e∈[(0,0,[])] from b)];exact⟨.nil,rfl,rfl⟩,λf d r c=>by
  have a:=aac.mp c
  exact⟨_,e_.mpr rfl,(r.nil0 a).symm,by rw[a];exact ZJ _⟩⟩
 |k+1,h=>Hh (oR (k:=k) adC) h
structure EOk (W:Wk) (n:Nat) (E:Ev):Prop where
 nd:(E.map (·.1)).Nodup
 lt:∀e∈E,e.1<top2 W/\e.2.2.length<=n/\∀f∈e.2.2,f<top2 W
theorem EOk.len (h:EOk W n E):E.length<=top2 W:=by
 have:=kY (l:=E.map (·.1)) (m:=af (top2 W)) h.nd λx b=>by obtain⟨e,a,rfl⟩:=l_.mp b;exact F_.mpr (h.lt e a).1
 rwa [b_,p_] at this
theorem sZ (b:lz W) (c:d<top2 W) (g:f∈fls W aX k d):d+f<top2 W:=by
 obtain⟨a,F⟩:=acn.mp g;have e:d+f=bT (nm W) (pk W d++pk W f):=by rw[<- iQ _ _ _ λx h z=>F.apart h z.2 z.1,dW b c,dW b a]
 rw[e];exact mL _
theorem EOk.stp (j:lz W) (h:EOk W (n+1) B) (l:d<top2 W) (m:v.2.length<=n) (e:∀f∈v.2,f<top2 W) (i:f∈fls W aX k d):EOk W (n+1) (stp W d v B f):=by
 have c:EOk W (n+1) (putN (d+f) (v.1+ldN W f^2,v.2++[f]) B):=⟨jZ h.nd,λx b=>by
  rcases iR b with rfl | ⟨b,_⟩ | ⟨b,_⟩
  ·
   refine⟨sZ j l i,by rw[a_];simp;exact m,λg a=>?_⟩
   rcases t_.mp a with a | a
   ·
    exact e g a
   ·
    rw[e_.mp a];exact (acn.mp i).1
  ·
   exact h.lt x b
  ·
   exact h.lt x b⟩
 unfold M.stp;split
 .exact c
 split
 .exact c
 exact h
theorem Tbl.eok (a:lz W) (h:Tbl W aX k E):EOk W k E:=⟨h.nd,λe c=>by
 obtain⟨r,f,_⟩:=h.ok e c;obtain⟨b,_,_,_,d⟩:=r.ok a;exact⟨b,adC,d⟩⟩
theorem Ao (b:lz W) (S:List ai):0<=cL W.tasks S/\cL W.tasks S<10^61:=by
 have h:∀l:List (ai × Int × List ai),(∀t∈l,afV t)->0<=(l.map (·.2.1)).sum/\(l.map (·.2.1)).sum<=l.length*10^60:=by
  intro l;induction l with
  |nil=>intro _;exact⟨ZJ _,ZJ _⟩
  |cons t r d =>
  intro a;obtain⟨c,f⟩:=d λx e=>a x (u_ _ e);have q:=a t k_;have g:=q.lo;have j:=q.hi;rw[D_,aav,i_];constructor
  .omega
  push_cast
  omega
 obtain⟨c,f⟩:=h (W.tasks.filter λt=>decide (t.1∈S)) λt a=>b.tk t (E_.mp a).1;have i:(W.tasks.filter λt=>decide (t.1∈S)).length<=8:=W_ (Zh _ _) b.t8;unfold cL;exact⟨c,adC⟩
theorem oU {x:Int}(c:0<=x) (b:x<10^61):x.natAbs<2^1000:=by
 have a:x.natAbs<10^61:=adC
 exact abj a adx
def evE (e:Nat × Int × List Nat):T:=.tup [.int (e.1:Int),evT e.2]
theorem Xw (E:Ev):(dI evT E).map itT=E.map evE:=by unfold dI;rw[X_];rfl
def ebF (W:Wk) (aX:Int) (k:Nat) (B:Ev) (e:Nat × Int × List Nat):Ev:=(fls W aX k e.1).foldl (stp W e.1 e.2) B
def Xx (C:am):Sp3:=λts H Q=>∃(a q:am) (W:Wk) (aX:Int) (k n:Nat) (E:Ev),ts=[.ref a,.int (k:Int),.ref q]/\lz W/\Wlk C W aX H a/\k<W.row.length/\n<=8/\EOk W n E/\H q=ab (.dci (dI evT E))/\∀o p,H p=ae->Q (.ref p) (aY (aY H q (.dif o (dI evT E))) p (.dci (dI evT (ebh W aX k E))))
def Xy (W:Wk) (aX:Int) (H:eH) (b:List am):Prop:=∀(j:Nat) (a:am),b[j]?=ab a->∃o,H a=ab (.dif o (dI evT (evs W aX j)))
def Xz (C:am):Sp3:=λts H Q=>∃(a:am) (W:Wk) (aX:Int) (m:Nat),ts=[.ref a,.int (m:Int)]/\lz W/\Wlk C W aX H a/\m<=W.row.length/\∀(H':eH) (p:am) (b:List am) (q:am),bc H H'->b.length=m->H' p=ab (.lst (b.map wa++[.ref q]))->Xy W aX H' b->H' q=ab (.dci (dI evT (evs W aX m)))->Q (.ref p) H'
def meT (W:Wk) (aX:Int) (m:Nat):T:=match cC (top2 W - 1) (evs W aX m) with
 |none=>.non
 |some v=>.tup [.int v.1,.tup ((v.2.map (pk W)).map sT)]
def XC:Sp3:=λts H Q=>∃(W:Wk) (aX:Int) (m:Nat),ts=[W.enc,.int aX,.int (m:Int)]/\lz W/\m<=W.row.length/\Q (meT W aX m) H
theorem Wlk.frz {W:Wk}{aX:Int}{H:eH}{a q:am}{o:O3}{E:List (Int × T)} (h:Wlk C W aX H a) (d:H q=ab (.dci E)):Wlk C W aX (aY H q o) a:=by
 obtain⟨p,b,c⟩:=h.ex;exact⟨p,by rw[aD (ne3 b d adE)];exact b,by rw[aD (ne3 c d adE)];exact c⟩
def Kb1 (a:am) (H H':eH):Prop:=∀b u,b≠a->H b=ab u->H' b=ab u
theorem Kb1.new (k:Kb1 c H H') (d:H' p=ae):Kb1 c H (aY H' p o):=λb u a h=>by rw[aD (bf (k b u a h) d)];exact k b u a h
theorem Kb1.put (k:Kb1 a H H'):Kb1 a H (aY H' a o):=λb u c h=>by rw[aD c];exact k b u c h
theorem Kb1.wlk (k:Kb1 e H H') (c:H e=ae) (h:Wlk C W aX H a):Wlk C W aX H' a:=by
 obtain⟨p,b,d⟩:=h.ex;exact⟨p,k _ _ (bf b c) b,k _ _ (bf d c) d⟩
structure Hol (W:Wk) (f:ai->Nat):Prop where
 ord:∀o∈W.orders,f o.1<=f o.2
 pai:∀p∈W.pairs,f p.2.1=f p.2.2↔p.1="with"
 kin:∀t∈W.tasks,vG t.2.2 (W.row.getD (f t.1) "")=ag
theorem Hol.congr (b:lz W) (h:Hol W f) (e:∀n∈nm W,f n=g n):Hol W g :=
 ⟨λo c=>by
  have q:=b.oo o c
  rw[<- e _ q.2.1,<- e _ q.2.2];exact h.ord o c,λp d=>by
  have q:=b.pp p d
  rw[<- e _ q.2.2.1,<- e _ q.2.2.2];exact h.pai p d,λt a=>by
  rw[<- e _ (l_.mpr ⟨t,a,rfl⟩)];exact h.kin t a⟩
def ldF (ts:List (ai × Int × List ai)) (f:ai->Nat) (k:Nat):Int:=((ts.filter λt=>decide (f t.1=k)).map (·.2.1)).sum
def lds (W:Wk) (f:ai->Nat) (m:Nat):List Int:=(af m).map (ldF W.tasks f)
theorem Cu (e:∀t∈ts,f t.1=g t.1) (k:Nat):ldF ts f k=ldF ts g k:=by
 have:(ts.filter λt=>decide (f t.1=k))=ts.filter λt=>decide (g t.1=k):=aar λt a=>by rw[e t a]
 unfold ldF;rw[this]
theorem Cv (e:∀n∈nm W,f n=g n) (m:Nat):lds W f m=lds W g m :=
 ZF λk _=>Cu (λt a=>e _ (l_.mpr ⟨t,a,rfl⟩)) k
theorem Hi (A:List (ai × Int × List ai)) (t:ai × Int × List ai) (f:ai->Nat) (k:Nat):ldF (A++[t]) f k=ldF A f k+if f t.1=k then t.2.1 else 0:=by
 unfold ldF;rw[aaP,v_,kr];by_cases h:f t.1=k <;> simp [h]
theorem Hj (a:k<m):(acO ns f m)[k]?=ab (ns.filter λn=>decide (f n=k)):=by
 unfold acO;rw[J_,aaC a];rfl
theorem Hk (b:lz W) (c:m<=W.row.length) (a:∀n,f n<m):∀n∈nm W,fD (acO (nm W) f m) n=f n:=λn d =>
 fc (lq b (abG _) c a).nd (Hj (a n)) (E_.mpr ⟨d,A_ rfl⟩)
theorem yg:cL W.tasks ((nm W).filter λn=>decide (f n=k))=ldF W.tasks f k:=by
 have e:(W.tasks.filter λt=>decide (t.1∈(nm W).filter λn=>decide (f n=k)))=W.tasks.filter λt=>decide (f t.1=k):=aar λt a=>by rw[abe,E_,j_];exact⟨λz=>z.2,λz=>⟨l_.mpr ⟨t,a,rfl⟩,z⟩⟩
 unfold cL ldF;rw[e]
theorem Hl (a:lz W) (j:m<=W.row.length) (i:∀n,f n<m) (h:Hol W f) (r:∀l∈lds W f m,l<=aX):acS W aX (acO (nm W) f m):=by
 have d:Dok W (acO (nm W) f m):=lq (W:=W) a (abG _) j i;have e:=Hk a j i;have c:=h.congr a (g:=fD (acO (nm W) f m)) λn q=>(e n q).symm;refine (oM a d).mp ⟨c.ord,c.pai,λk s o t p b=>?_,λs b=>?_⟩
 .have:=fc d.nd o b;have:=c.kin t p
  rwa [fc d.nd o b] at this
 obtain⟨k,u,rfl⟩:=l_.mp b;show cL W.tasks ((nm W).filter λn=>decide (f n=k))<=aX
 rw[yg];exact r _ (l_.mpr ⟨k,u,rfl⟩)
def gfl (W:Wk) (aX:Int) (k d:Nat):List Nat:=(gre bU (fls W aX k d)).reverse
theorem tu (h:f∈gfl W aX k d):f∈fls W aX k d:=sW _ _ (List.mem_reverse.mp h)
theorem Mg (h:f∈fls W aX k d):∃g∈gfl W aX k d,bU g f=ag:=by
 obtain⟨g,a,e⟩:=Al Cp _ f h;exact⟨g,List.mem_reverse.mpr a,e⟩
theorem Hm (h:x∈gH W t) (a:t∈nm W):t∈gH W x:=by
 unfold gH at h |-;rw[E_,@j_ _ (aw _)] at h |-;exact⟨a,h.2.2,h.2.1⟩
theorem Frw.grp (h:lz W) (r:Frw W aX m d) (b:t∈pk W d) (k:x∈gH W t):x∈pk W d:=by
 obtain⟨_,_,e,n,_⟩:=r.ok h;obtain⟨s,g,a⟩:=ZW.mp ((e t).mp b);obtain⟨j,i⟩:=fm g;obtain⟨u,l,c⟩:=l_.mp (iM b);have f:=(n j s i).one u l (by rw[c];exact a);exact (e x).mpr (ZW.mpr ⟨s,g,f.2.2.1 x (by rw[c];exact k)⟩)
theorem yh (c:∀t∈ts,0<=t.2.1) (h:∀x∈a,x∈S):cL ts a<=cL ts S:=by
 unfold cL;induction ts with
 |nil=>exact ZJ _
 |cons t r e =>
  have i:=e λu f=>c u (u_ _ f)
  have g:=c t k_
  rw[abJ,abJ]
  by_cases b:t.1∈a
  ·
   rw[aca (A_ b),aca (A_ (h _ b)),D_,D_,aav,aav]
   omega
  ·
   rw[ace (Ex b)]
   by_cases d:t.1∈S
   ·
    rw[aca (A_ d),D_,aav];omega
   ·
    rw[ace (Ex d)];exact i
theorem Fil.more (i:lz W) (f:Fil W aX b D S) (g:∀x∈D,x∈c) (j:∀t x,t∈c->x∈gH W t->x∈c):Fil W aX b c (S.filter λx=>decide (x∉c)) :=
 ⟨λt d e=>by
  rw[E_,j_] at e
  obtain⟨n,l,k,h,m⟩:=f.one t d e.1
  refine⟨e.2,l,λx a=>?_,λx a=>?_,λx a z=>m x a (E_.mp z).1⟩
  ·
   rw[E_,j_]
   exact⟨k x a,λz=>e.2 (j x t.1 z (Hm a (l_.mpr ⟨t,d,rfl⟩)))⟩
  ·
   by_cases z:x∈c
   ·
    exact .inr z
   ·
    exact .inl (E_.mpr ⟨(h x a).resolve_right λq=>z (g x q),A_ z⟩),
  ZM (yh (λt d=>by have:=(i.tk t d).lo;omega) λx a=>(E_.mp a).1) f.ld⟩
abbrev Wy:=List (Nat × List Nat)
def jl (d:Nat) (v:List Nat) (B:Wy) (f:Nat):Wy:=match cC (d+f) B with
 |none=>putN (d+f) (v++[f]) B
 |some _=>B
def wbh (W:Wk) (aX:Int) (k:Nat) (E:Wy):Wy:=E.foldl (λB e=>(gfl W aX k e.1).foldl (jl e.1 e.2) B) []
def wys (W:Wk) (aX:Int):Nat->Wy
 |0=>[(0,[])]
 |k+1=>wbh W aX k (wys W aX k)
structure Wtb (W:Wk) (aX:Int) (k:Nat) (E:Wy):Prop where
 nd:(E.map (·.1)).Nodup
 ok:∀e∈E,Frw W aX e.2 e.1/\e.2.length=k
 al:∀fs d,Frw W aX fs d->fs.length=k->∃e∈E,∀x∈pk W d,x∈pk W e.1
structure WtI (W:Wk) (aX:Int) (k:Nat) (sub:Nat->Nat->Prop) (B:Wy):Prop where
 nd:(B.map (·.1)).Nodup
 ok:∀e∈B,Frw W aX e.2 e.1/\e.2.length=k+1
 al:∀d f,sub d f->∃e∈B,e.1=d+f
theorem WtI.step (h:WtI W aX k sub B) (l:Frw W aX v d) (i:v.length=k) (n:k<W.row.length) (j:f∈fls W aX k d):
  WtI W aX k (λd' c=>sub d' c\/(d'=d/\c=f)) (jl d v B f):=by
 have g:Frw W aX (v++[f]) (d+f)/\(v++[f]).length=k+1 :=
  ⟨.snoc l adC (by rw[i];exact j),by rw[a_,i];rfl⟩
 unfold jl;cases e:cC (d+f) B with
 |none =>
  refine⟨jZ h.nd,λx a=>?_,λd' c b=>?_⟩
  .rcases iR a with rfl | ⟨a,_⟩ | ⟨a,_⟩
   .exact g
   .exact h.ok x a
   exact h.ok x a
  rcases b with b | ⟨rfl,rfl⟩
  .obtain⟨x,a,m⟩:=h.al d' c b;exact⟨x,oO a (jG e x a),m⟩
  exact⟨_,jY _ _ _,rfl⟩
 |some u =>
 refine⟨h.nd,h.ok,λd' c b=>?_⟩;rcases b with b | ⟨rfl,rfl⟩
 .exact h.al d' c b
 exact⟨_,dG e,rfl⟩
theorem WtI.inner (n:Frw W aX v d) (o:v.length=k) (p:k<W.row.length):
  ∀{xs:List Nat},(∀f∈xs,f∈fls W aX k d)->WtI W aX k sub B->WtI W aX k (λd' a=>sub d' a\/(d'=d/\a∈xs)) (xs.foldl (jl d v) B):=by
 intro xs;induction xs generalizing sub B with
 |nil=>intro _ h;exact⟨h.nd,h.ok,λd' a b=>h.al d' a (b.resolve_right λz=>nomatch z.2)⟩
 |cons f r l =>
 intro i h;have e:=l (λg m=>i g (u_ _ m)) (h.step n o p (i f k_));refine⟨e.nd,e.ok,λd' a b=>e.al d' a ?_⟩;rcases b with b | ⟨j,c⟩
 .exact .inl (.inl b)
 rcases n_.mp c with c | c
 .exact .inl (.inr ⟨j,c⟩)
 exact .inr ⟨j,c⟩
theorem WtI.outer (g:k<W.row.length):∀{xs:Wy}{sub:Nat->Nat->Prop}{B:Wy},(∀e∈xs,Frw W aX e.2 e.1/\e.2.length=k)->WtI W aX k sub B ->
  WtI W aX k (λd f=>sub d f\/((∃v,(d,v)∈xs)/\f∈gfl W aX k d)) (xs.foldl (λB e=>(gfl W aX k e.1).foldl (jl e.1 e.2) B) B)
 |[],_,_,_,h=>⟨h.nd,h.ok,λd f a=>h.al d f (a.resolve_right λz=>z.1.elim λ_ q=>nomatch q)⟩
 |e::r,sub,B,hx,h=>by
  obtain⟨j,l⟩:=hx e k_
  have q:=WtI.outer g (xs:=r) (λx b=>hx x (u_ _ b)) (WtI.inner (xs:=gfl W aX k e.1) j l g (λf i=>tu i) h)
  refine⟨q.nd,q.ok,λd f a=>q.al d f ?_⟩
  rcases a with a | ⟨⟨v,m⟩,c⟩
  ·
   exact .inl (.inl a)
  ·
   rcases n_.mp m with z | z
   ·
    rw[<- z] at *
    exact .inl (.inr ⟨rfl,c⟩)
   ·
    exact .inr ⟨⟨v,z⟩,c⟩
theorem Hn (a:lz W) (c:d<top2 W) (g:f∈fls W aX k d):x∈pk W (d+f)↔x∈pk W d\/x∈pk W f:=by
 obtain⟨b,F⟩:=acn.mp g;have e:d+f=bT (nm W) (pk W d++pk W f):=by rw[<- iQ _ _ _ λx h z=>F.apart h z.2 z.1,dW a c,dW a b]
 rw[e,jF a,t_];exact⟨λz=>z.2,λz=>⟨z.elim iM iM,z⟩⟩
theorem Ho (a:lz W) (h:Wtb W aX k E) (K:k<W.row.length):Wtb W aX (k+1) (wbh W aX k E):=by
 have q:=WtI.outer (W:=W) (aX:=aX) K (xs:=E) (sub:=λ_ _=>False) (B:=[]) h.ok ⟨aaA,λ_ z=>(nomatch z),λ_ _ z=>z.elim⟩;refine⟨q.nd,q.ok,λM d r L=>?_⟩;obtain⟨D,d',f,rfl,rfl,o,m,w⟩:=r.inv L;obtain⟨e,A,p⟩:=h.al D d' o m;have v:=(h.ok e A).1;have i:=(v.ok a).1;obtain⟨J,F⟩:=acn.mp w;have C:=F.more a p λt x G n=>v.grp a G n;have l:bT (nm W) ((pk W f).filter λx=>decide (x∉pk W e.1))∈fls W aX k e.1:=acn.mpr ⟨mL _,C.congr (λx=>Iff.rfl) λx=>by rw[jF a];exact⟨λz=>⟨iM (E_.mp z).1,z⟩,λz=>z.2⟩⟩;obtain⟨g,s,u⟩:=Mg l;have b:=tu s;obtain⟨x,n,I⟩:=q.al e.1 g (.inr ⟨⟨e.2,A⟩,s⟩);have j:=(acn.mp b).1;refine⟨x,n,λy H=>?_⟩;rw[I,Hn a i b];rcases (Hn a (o.ok a).1 w).mp H with z | z
 .exact .inl (p y z)
 by_cases c:y∈pk W e.1
 .exact .inl c
 refine .inr ?_;rw[<- dW a j,vN] at u;exact u y (iM z) (E_.mpr ⟨z,A_ c⟩)
theorem wtb (a:lz W):∀{k:Nat},k<=W.row.length->Wtb W aX k (wys W aX k)
 |0,_=>⟨by simp [wys],λe c=>by rw[e_.mp c];exact⟨.nil,rfl⟩,λg d r f=>by
   refine⟨(0,[]),e_.mpr rfl,λx b=>?_⟩
   rw[r.nil0 (aac.mp f)] at b
   exact b⟩
 |k+1,h=>Ho a (wtb a adC) adC
structure WOk (W:Wk) (n:Nat) (E:Wy):Prop where
 nd:(E.map (·.1)).Nodup
 lt:∀e∈E,e.1<top2 W/\e.2.length<=n/\∀f∈e.2,f<top2 W
theorem WOk.len (h:WOk W n E):E.length<=top2 W:=by
 have:=kY (l:=E.map (·.1)) (m:=af (top2 W)) h.nd λx b=>by obtain⟨e,a,rfl⟩:=l_.mp b;exact F_.mpr (h.lt e a).1
 rwa [b_,p_] at this
theorem WOk.stp (i:lz W) (h:WOk W (n+1) B) (j:d<top2 W) (l:v.length<=n) (c:∀f∈v,f<top2 W) (e:f∈fls W aX k d):WOk W (n+1) (jl d v B f):=by
 unfold jl;split
 .refine⟨jZ h.nd,λx b=>?_⟩;rcases iR b with rfl | ⟨b,_⟩ | ⟨b,_⟩
  .refine⟨sZ i j e,by rw[a_];simp;exact l,λg a=>?_⟩;rcases t_.mp a with a | a
   .exact c g a
   rw[e_.mp a];exact (acn.mp e).1
  .exact h.lt x b
  exact h.lt x b
 exact h
theorem Wtb.wok (a:lz W) (h:Wtb W aX k E):WOk W k E:=⟨h.nd,λe c=>by
 obtain⟨r,f⟩:=h.ok e c;obtain⟨b,_,_,_,d⟩:=r.ok a;exact⟨b,adC,d⟩⟩
theorem Aq (a:lz W) (d:m<=W.row.length):(cC (top2 W - 1) (wys W aX m)).isSome=ag↔∃b,Frw W aX b (top2 W - 1)/\b.length=m:=by
 have T:=wtb (aX:=aX) a d;constructor
 .intro h;obtain⟨v,e⟩:=abK.mp h;have:=T.ok _ (dG e);exact⟨v,this.1,this.2⟩
 rintro⟨b,r,g⟩;obtain⟨e,c,h⟩:=T.al b _ r g;have i:e.1=top2 W - 1:=by rw[<- dW a ((T.ok e c).1.ok a).1];exact lw λx f=>h x (qP a x f)
 have:=j0 T.nd (show (e.1,e.2)∈wys W aX m from c);rw[i] at this;rw[this];rfl
def wyT (v:List Nat):T:=.tup (v.map bF)
def wyE (e:Nat × List Nat):T:=.tup [.int (e.1:Int),wyT e.2]
theorem XD (E:Wy):(dI wyT E).map itT=E.map wyE:=by unfold dI;rw[X_];rfl
def wbF (W:Wk) (aX:Int) (k:Nat) (B:Wy) (e:Nat × List Nat):Wy:=(gfl W aX k e.1).foldl (jl e.1 e.2) B
def XF:Sp3:=λts H Q=>∃(a:am) (b:List Nat),ts=[.ref a]/\H a=ab (.lst (b.map bF))/\b.length<=256/\∀p,H p=ae->Q (.ref p) (aY H p (.lst ((gre bU b).reverse.map bF)))
theorem tD (a:b->b->Bool):∀xs:List b,(gre a xs).length<=xs.length
 |[]=>m_ _
 |n::B=>by
  have:=tD a B
  unfold gre
  split
  ·
   rw[i_];omega
  ·
   rw[a_,i_];simp only[i_,aaD];omega
def XH (C:am):Sp3:=λts H Q=>∃(a:am) (W:Wk) (aX:Int) (k d:Nat),ts=[.ref a,.int (k:Int),.int (d:Int)]/\lz W/\Wlk C W aX H a/\k<W.row.length/\d<top2 W/\∀p,H p=ae->Q (.ref p) (aY H p (.lst ((gfl W aX k d).map bF)))
def XJ (C:am):Sp3:=λts H Q=>∃(a q:am) (W:Wk) (aX:Int) (k n:Nat) (E:Wy),ts=[.ref a,.int (k:Int),.ref q]/\lz W/\Wlk C W aX H a/\k<W.row.length/\n<=8/\WOk W n E/\H q=ab (.dci (dI wyT E))/\∀o p,H p=ae->Q (.ref p) (aY (aY H q (.dif o (dI wyT E))) p (.dci (dI wyT (wbh W aX k E))))
def dtT (W:Wk) (aX:Int) (m:Nat):T:=match cC (top2 W - 1) (wys W aX m) with
 |none=>.non
 |some v=>.tup ((v.map (pk W)).map sT)
def T9:Sp3:=λts H Q=>∃(W:Wk) (aX:Int) (m:Nat),ts=[W.enc,.int aX,.int (m:Int)]/\lz W/\m<=W.row.length/\Q (dtT W aX m) H
def sqD (W:Wk) (D:List (List ai)):Int:=(D.map λs=>smL W.tasks s*smL W.tasks s).sum
def mvF (D:List (List ai)) (tks:List ai) (t k:Nat):List ai:=((D.getD k []).filter λn=>!decide (n∈tks))++if k=t then tks else []
def mvD (D:List (List ai)) (tks:List ai) (t:Nat):List (List ai):=(af D.length).map (mvF D tks t)
def Ua (W:Wk) (aX:Int) (m:Nat) (a:Int):Prop:=∀D,Dok W D->D.length=m->lg W aX D=ae->a<=sqD W D
theorem Dok.n8 (a:Dok W D) (b:lz W):∀ns∈D,ns.length<=8/\∀n∈ns,n∈W.tasks.map (·.1):=λs c=>by
 have q:=a.in c;have h:=kY q.1 q.2;rw[b_] at h;exact⟨W_ h b.t8,q.2⟩
theorem Dok.sm (a:Dok W D) (b:lz W) (c:s∈D):smL W.tasks s=cL W.tasks s:=by
 have q:=a.in c;rw[Ov b.nd q.1 q.2,sV]
theorem Dok.smB (b:Dok W D) (a:lz W) (c:s∈D):0<=smL W.tasks s/\smL W.tasks s<10^61:=by
 rw[b.sm a c];exact Ao a s
theorem ac5 {tks:List ai}:x∈mvF D tks t k↔((∃s,D[k]?=ab s/\x∈s)/\x∉tks)\/(k=t/\x∈tks):=by
 unfold mvF;rw[t_,E_,U_];cases e:D[k]? with
 |none=>by_cases c:k=t <;> simp [c]
 |some s=>by_cases c:k=t <;> simp [c]
theorem XM {tks:List ai} (h:Dok W D) (w:tks.Nodup) (G:∀x∈tks,x∈W.tasks.map (·.1)) (B:t<D.length):Dok W (mvD D tks t):=by
 refine⟨by unfold mvD;rw[b_,p_];exact h.rw,λx g=>?_,?_,λn F=>?_⟩
 .obtain⟨l,m,g⟩:=ZW.mp g;obtain⟨k,_,rfl⟩:=l_.mp m;rcases ac5.mp g with ⟨⟨s,e,f⟩,_⟩ | ⟨_,d⟩
  .exact h.st x (ZW.mpr ⟨s,ZC e,f⟩)
  exact G x d
 .unfold mvD ng;rw[List.pairwise_flatten,abx];refine⟨λl m=>?_,List.pairwise_lt_range.imp_of_mem λ{i j} J L H x g y C z=>?_⟩
  .obtain⟨k,p,rfl⟩:=l_.mp m;show (mvF D tks t k).Nodup;unfold mvF;rw[aab];refine⟨?_,by split;exact w;exact aaA,λa E b q z=>?_⟩
   .rw[U_,g_ (F_.mp p)];exact (h.in (Zt _)).1.filter _
   subst z;have d:=(E_.mp E).2;split at q
   .simp [q] at d
   cases q
  subst z;rcases ac5.mp g with ⟨⟨s,e,f⟩,r⟩ | ⟨K,d⟩ <;> rcases ac5.mp C with ⟨⟨I,u,o⟩,A⟩ | ⟨M,v⟩
  .have a:=fc h.nd e f;have b:=fc h.nd u o;omega
  .exact r v
  .exact A d
  omega
 rw[ZW];by_cases c:n∈tks
 .exact⟨_,l_.mpr ⟨t,F_.mpr B,rfl⟩,ac5.mpr (.inr ⟨rfl,c⟩)⟩
 obtain⟨k,s,e,f⟩:=jh (h.al n F);have p:k<D.length:=by
  rcases abl k D.length with z | z
  .exact z
  rw[Zf z] at e;cases e
 exact⟨_,l_.mpr ⟨k,F_.mpr p,rfl⟩,ac5.mpr (.inl ⟨⟨s,e,f⟩,c⟩)⟩
theorem OD (a:lz W) (h:Dok W D):sqs W (D.map (bT (nm W)))=sqD W D:=by
 unfold sqs sqD;rw[X_];congr 1;refine ZF λs b=>?_;have e:ldN W (bT (nm W) s)=smL W.tasks s:=by rw[h.sm a b];refine lM λx=>?_;rw[jF a];exact⟨λz=>z.2,λz=>⟨(h.in b).2 x z,z⟩⟩
 show ldN W (bT (nm W) s)^2=_;rw[e,abm,abm,Int.pow_zero,Int.one_mul]
structure EvB (W:Wk) (aX:Int) (m:Nat) (v:Int × List Nat):Prop where
 ok:Dok W (v.2.map (pk W))
 l:(v.2.map (pk W)).length=m
 s:∀s∈v.2.map (pk W),(nm W).filter (λn=>decide (n∈s))=s
 f:flt W aX (v.2.map (pk W))=ae
 e:v.1=sqD W (v.2.map (pk W))
 b:Ua W aX m v.1
theorem Mh (a:lz W) (p:m<=W.row.length) (h:cC (top2 W - 1) (evs W aX m)=ab v):EvB W aX m v:=by
 have T:=oR (aX:=aX) p;obtain⟨r,u,t⟩:=T.ok _ (dG h);obtain⟨f,F⟩:=r.dok a;have k:=(r.ok a).2.2.2.2;have w:(v.2.map (pk W)).map (bT (nm W))=v.2:=by
  rw[X_]
  conv=>rhs;rw[<- List.map_id v.2]
  exact ZF λi e=>dW a (k i e)
 refine⟨f,by rw[b_];exact u,λs q=>?_,(Hb a f).mpr F,by rw[<- OD a f,w];exact t,λD b g n=>?_⟩
 .obtain⟨i,e,rfl⟩:=l_.mp q;rw[<- Ow a,dW a (k i e)]
 obtain⟨⟨d,x⟩,o,c,l⟩:=T.al _ _ (Frw.ofD a b ((vM a b).mp n)) (by rw[b_];exact g);have c:d=top2 W - 1:=c;subst c;have j:=j0 T.nd o;rw[h] at j;cases j;rw[OD a b] at l;exact l
theorem XN (e:lz W) (c:m<=W.row.length):(cC (top2 W - 1) (evs W aX m)).isSome=(cC (top2 W - 1) (wys W aX m)).isSome:=by
 have T:=oR (aX:=aX) c;rw[Zv,Aq e c];constructor
 .intro h;obtain⟨v,h⟩:=abK.mp h;obtain⟨r,b,_⟩:=T.ok _ (dG h);exact⟨_,r,b⟩
 rintro⟨i,r,b⟩;obtain⟨⟨d,g⟩,f,a,_⟩:=T.al _ _ r b;have a:d=top2 W - 1:=a;subst a;rw[j0 T.nd f];rfl
theorem OJ (W:Wk) (b:List Nat) (z:Int):([.int z,.tup ((b.map (pk W)).map sT)]:List T).all (pl 20)=ag:=by
 have h:((b.map (pk W)).map sT).all (pl 19)=ag:=Zy.mpr λt a=>by obtain⟨x,_,rfl⟩:=l_.mp a;exact Zy.mpr λt a=>by obtain⟨x,_,rfl⟩:=l_.mp a;rfl
 show (pl 20 (.int z)&&(pl 20 (.tup ((b.map (pk W)).map sT))&&ag))=ag;rw[abN];exact h
def Ub:Sp3:=λts H Q=>∃(W:Wk) (D:List (List ai)),ts=[W.enc,.tup (D.map sT)]/\lz W/\Dok W D/\Q (.int (sqD W D)) H
def O1:Sp3:=λts H Q=>∃(D:List (List ai)) (tks:List ai) (t:Nat),ts=[.tup (D.map sT),sT tks,.int (t:Int)]/\D.length<=8/\(∀s∈D,s.length<=8)/\tks.length<=2/\Q (.tup ((mvD D tks t).map sT)) H
def XQ:Sp3:=λts H Q=>∃(W:Wk) (aX:Int) (D:List (List ai)) (a:Int),ts=[W.enc,.int aX,.tup (D.map sT),.int a]/\lz W/\Dok W D/\Ua W aX D.length a/\Q (.bl ag) H
def XR:Sp3:=λts H Q=>∃(W:Wk) (aX:Int) (m:Nat) (D:List (List ai)),ts=[W.enc,.int aX,.int (m:Int),.tup [.int (sqD W D),.tup (D.map sT)]]/\lz W/\D.length=m/\(∀s∈D,(nm W).filter (λn=>decide (n∈s))=s)/\Dok W D/\flt W aX D=ae/\Ua W aX D.length (sqD W D)/\Q (.bl ag) H
def Can (W:Wk) (m:Nat) (b:Int):Prop:=∃f:ai->Nat,(∀n,f n<m)/\Hol W f/\∀l∈lds W f m,l<=b
theorem Mi (j:lz W) (r:Frw W aX a (top2 W - 1)) (q:a.length=m):Can W m aX:=by
 obtain⟨b,F⟩:=r.dok j;have R:=(oM j b).mpr F;have u:∀n∈nm W,fD (a.map (pk W)) n<m:=λn f=>by
  obtain⟨k,s,e,i⟩:=jh (b.al n f);rw[fc b.nd e i];have:k<(a.map (pk W)).length:=by
   rcases abl k (a.map (pk W)).length with z | z
   .exact z
   rw[Zf z] at e;cases e
  rwa [b_,q] at this
 have w:Hol W (fD (a.map (pk W))):=⟨R.ord,R.pai,λt c=>by
  obtain⟨k,s,e,i⟩:=jh (b.al t.1 (l_.mpr ⟨t,c,rfl⟩))
  rw[fc b.nd e i]
  exact R.kin k s e t c i⟩
 have x:0<m:=by obtain⟨t,c⟩:∃t,t∈W.tasks:=List.exists_mem_of_length_pos (by have:=j.t1;omega);have:=u t.1 (l_.mpr ⟨t,c,rfl⟩);omega
 have p:∀n∈nm W,fD (a.map (pk W)) n=if n∈nm W then fD (a.map (pk W)) n else 0:=λn f=>by rw[aca f]
 refine⟨λn=>if n∈nm W then fD (a.map (pk W)) n else 0,λn=>?_,w.congr j p,λl d=>?_⟩
 .show (if n∈nm W then fD (a.map (pk W)) n else 0)<m;split
  .exact u n (by assumption)
  exact x
 rw[<- Cv p] at d;obtain⟨k,y,rfl⟩:=l_.mp d;have h:k<(a.map (pk W)).length:=by rw[b_,q];exact F_.mp y
 have v:=g_ h;refine ZM (Int.le_of_eq ?_) (R.bea _ (Zt h));unfold ldF cL;congr 2;refine aar λt c=>?_;rw[abe];have f:t.1∈nm W:=l_.mpr ⟨t,c,rfl⟩;constructor
 .intro z;obtain⟨B,A,o,g⟩:=jh (b.al t.1 f);rw[fc b.nd o g] at z;subst z;rw[v] at o;cases o;exact g
 intro z;exact fc b.nd v z
theorem Hq (a:lz W) (b:m<=W.row.length):(dtT W aX m=.non/\¬Can W m aX)\/((∃xs,dtT W aX m=.tup xs)/\Can W m aX):=by
 have h:=Aq (aX:=aX) a b;unfold dtT;cases e:cC (top2 W - 1) (wys W aX m) with
 |none=>refine .inl ⟨rfl,λ⟨f,c,i,d⟩=>?_⟩;have:=h.mpr ⟨_,Frw.ofD a (lq (W:=W) a (abG _) b c) (Hl a b c i d),by rw[b_,qM]⟩;rw[e] at this;cases this
 |some v =>
 obtain⟨j,r,g⟩:=h.mp (by rw[e];rfl);exact .inr ⟨⟨_,rfl⟩,Mi a r g⟩
def alS (l:List Int) (t:ai × Int × List ai):List Int:=l++l.map (·+t.2.1)
def alD (ts:List (ai × Int × List ai)):List Int:=ts.foldl alS [0]
theorem j4 (A:List (ai × Int × List ai)) (t:ai × Int × List ai):alD (A++[t])=alS (alD A) t:=by unfold alD;rw[aaq];rfl
theorem snoc_ind {a:Type}{C:List a->Prop}(c:C []) (b:∀A t,C A->C (A++[t])) (l:List a):C l:=by
 have:∀l:List a,C l.reverse:=λl=>by
  induction l with
  |nil=>exact c
  |cons x r d=>rw[abV];exact b _ _ d
 simpa using this l.reverse
theorem tE (ts:List (ai × Int × List ai)):(alD ts).length=2^ts.length:=by
 refine snoc_ind (C:=λts=>(alD ts).length=2^ts.length) rfl (λA t a=>?_) ts;rw[j4];unfold alS;rw[a_,b_,a,a_,M_,fT];omega
theorem Uc (ts:List (ai × Int × List ai)) (f:ai->Nat) (k:Nat):ldF ts f k∈alD ts:=by
 refine snoc_ind (C:=λts=>ldF ts f k∈alD ts) (e_.mpr rfl) (λA t a=>?_) ts;rw[j4,Hi];unfold alS;split
 .exact Ze _ (l_.mpr ⟨_,a,rfl⟩)
 rw[oi];exact Zq _ a
theorem Ar:∀{l:List Int},l≠[]->∃M∈l,∀x∈l,x<=M
 |[],h=>ach rfl h
 |[x],_=>⟨x,.head _,λy d=>by rw[e_.mp d];exact ZJ _⟩
 |x::y::r,_=>by
  obtain⟨M,b,a⟩:=Ar (l:=y::r) adE
  by_cases c:M<=x
  ·
   exact⟨x,.head _,λz hz=>by
    rcases n_.mp hz with rfl | hz
    ·
     exact ZJ _
    ·
     exact ZM (a z hz) c⟩
  ·
   exact⟨M,.tail _ b,λz hz=>by
    rcases n_.mp hz with rfl | hz
    ·
     omega
    ·
     exact a z hz⟩
def Lb (W:Wk) (m:Nat) (t:T):Prop:=(t=.non/\∀b,¬Can W m b)\/∃b,t=.int b/\Can W m b/\∀c,Can W m c->b<=c
theorem Can.mono (h:Can W m b) (i:b<=c):Can W m c:=by
 obtain⟨f,a,g,d⟩:=h;exact⟨f,a,g,λl e=>ZM (d l e) i⟩
theorem Hr {us:List Int} (n:∀k,k∈us↔k∈alD W.tasks) (h:Can W m c):∃i,∃j:i<us.length,Can W m us[i]/\us[i]<=c:=by
 obtain⟨f,g,p,o⟩:=h;have a:lds W f m≠[]:=λz=>by have:=T_ aT z;unfold lds at this;rw[b_,p_] at this;have b:=g "";rw[this] at b;cases b
 obtain⟨M,d,l⟩:=Ar a;obtain⟨k,_,e⟩:=l_.mp d;have:M∈us:=(n M).mpr (by rw[<- e];exact Uc _ _ _);obtain⟨i,j,rfl⟩:=ZG this;exact⟨i,j,⟨f,g,p,l⟩,o _ d⟩
theorem yj {us:List Int} (h:us.Pairwise (·<·)) (b:i<us.length) (a:j<us.length) (e:i<=j):us[i]<=us[j]:=by
 rcases aaO e with z | z
 .exact ZX (Zn.mp h i j b a z)
 subst z;exact ZJ _
theorem Mj (a:Ris (alD W.tasks) us) (f:j+1=us.length) (h:¬Can W m (us[j]' adC)):Lb W m .non:=.inl ⟨rfl,λb e=>by
 obtain⟨i,d,c,_⟩:=Hr a.2 e;exact h (c.mono (yj a.1 d adC adC))⟩
theorem Ml (d:Ris (alD W.tasks) us) (g:a<us.length) (h:Can W m us[a]) (f:∀i (b:i<us.length),i<a->¬Can W m us[i]):Lb W m (.int us[a]):=.inr ⟨_,rfl,h,λc k=>by
 obtain⟨i,b,e,j⟩:=Hr d.2 k;rcases abl i a with z | z
 .exact ach e (f i b z)
 exact ZM (yj d.1 g b z) j⟩
def XS:Sp3:=λts H Q=>∃(W:Wk),ts=[W.enc]/\lz W/\W.tasks.length<=8/\∀(H':eH) (p:am) (us:List Int),bc H H'->Ris (alD W.tasks) us->H' p=ab (.lst (us.map v0))->Q (.ref p) H'
def XX:Sp3:=λts H Q=>∃(W:Wk) (m:Nat),ts=[W.enc,.int (m:Int)]/\lz W/\W.tasks.length<=8/\m<=W.row.length/\∀(H':eH) (t:T),bc H H'->Lb W m t->Q t H'
section
variable {K:a8}
abbrev qR:List ai:=[acW,"_law_cells",acX,"_law_cell",acG,adn]
theorem ab4:eG qR [acW] (aB (top 36)):=bx
theorem ym (g:G3 K mg "_law_numbers" (top 36) [acW] f fd) (B:Bl mg):mY P w K mg base 1 "_law_numbers" (top 36) [acW] Om:=by
 refine c6 g ab4 ?_;rintro _ A _ s H _ _ H3 _ hr ⟨a,ns,rfl,ha,hl,k⟩;have R:=mX.u30 hr;refine⟨_,(ak (aF 1 ab4.nd (aL bh (iC adG iB (fP aq)) (aL Rm (bL (aa aq aj)) (bJ Jt rfl B.int_ Ed (aa (gU (Th R) adG (bL aj)) aj)))))
   (ak (aF 2 ab4.nd (bL aj))
   (ak (bD (aP (cY R) (aL eV (aJ pA adH aq) aq) aq) (ak (aZ q_ rfl (bR (aL bh (bL (aa (aL f9 (aJ pA adH aq) aq) aj)) (iC adH (fP aq) iB))) (aC 3 ab4.nd) (ao (aZ q_ rfl (aO rfl B.range_ (aa aq aj)) (aC 4 ab4.nd) (ak (bQ (di N_ Q_ R_ bC adI (aa (aL eV adJ (aL gW aq aq)) aj)))
      (ao (aF 3 ab4.nd (aL f9 adJ (aL gW aq aq))))))))
    (ao (aH (zA adI (fP (rQ aq)))))) aW)
   (ak (aF 5 ab4.nd (aL eV (aL f9 (aJ pA adH aq) aq) aq))
   (ak (aZ q_ rfl (aO rfl B.range_ (aa aq aj)) (aC 4 ab4.nd) (ak (aF 3 ab4.nd (aL eV (aJ pA adH (aL eV adK (aM bH rfl B.len_ bI (aa adH aj)))) aq))
    (ak (aF 5 ab4.nd (aL eV (aL bh (aL bh (aL iw adM adM) (aL iw aq adJ)) adK) aq))
    (ao (bQ (di N_ Q_ R_ bC adI (aa (aL f9 (aL eV (aL iw adM (aL bh adM aq)) aq) aq) aj)))))))
   (ao (aH (zA adI (fP (rQ aq)))))))))),?_⟩
 walk_at "q";walk_at "h";have k':=eY.mk k;clear k;walk_at "s";refine λp1 X=>⟨adD,λp2 hp2=>⟨adC,λp3 hp3=>?_⟩⟩;have h2:=(cA hp2);have h3:=(cA hp3);have h3':=(cA h3.2);have na1:a≠p1:=bf ha X;have na2:a≠p2:=bf ha h2.2;have na3:a≠p3:=bf ha h3'.2;have hpl:(ns.map v0).all (pl 20)=ag:=by rw[Zy];intro t ht;obtain⟨x,_,rfl⟩:=l_.mp ht;rfl
 have n32:p2≠p3:=a6 h3.1;have n31:p1≠p3:=a6 h3'.1;have n21:p1≠p2:=a6 h2.1;walk_at "";obtain⟨O,c1,c63,Z⟩:=GF ns hl;refine⟨adF,adF,rfl,⟨by split <;> decide,by split <;> decide,by split <;> decide⟩,λp4 V=>?_⟩;have h4:=cA V;have h4':=cA h4.2;have M:=cA h4'.2;rw[aD (a6 M.1),aD n31,aD n21,aA,jA,Z];have hcl:(fU (ns.map v0) ae (ab 63)).length+(a4 (if decide (ns.map v0=[])=ag then (1:Int) else 0).toNat [v0 0]).flatten.length<=16777216:=by have:=T_ aT Z;rw[a_,b_] at this;omega
 refine⟨hcl,λC hpc=>?_⟩;have hS:bc H3 (aY (aY (aY (aY H3 p1 (.lst (fU (ns.map v0) ae (ab 63)))) p2 (.lst [v0 0])) p3 (.lst [])) p4 (.lst (a4 (if decide (ns.map v0=[])=ag then (1:Int) else 0).toNat [v0 0]).flatten)) :=
  (((bc.new X).trans (bc.new hp2)).trans (bc.new hp3)).trans (bc.new V)
 have L:=hS.trans (bc.new (o:=.lst (O.map v0)) hpc);have m:∀H:eH,aY H C (.lst (O.map v0)) C=ab (.lst (O.map v0)):=λ_=>aA;have m:=m (aY (aY (aY (aY H3 p1 (.lst (fU (ns.map v0) ae (ab 63)))) p2 (.lst [v0 0])) p3 (.lst [])) p4 (.lst (a4 (if decide (ns.map v0=[])=ag then (1:Int) else 0).toNat [v0 0]).flatten));generalize aY (aY (aY (aY (aY H3 p1 (.lst (fU (ns.map v0) ae (ab 63)))) p2 (.lst [v0 0])) p3 (.lst [])) p4 (.lst (a4 (if decide (ns.map v0=[])=ag then (1:Int) else 0).toNat [v0 0]).flatten)) C (.lst (O.map v0))=H5 at L m;clear hS hcl Z hpc V h4 h4' M hp3 h3 h3' hp2 h2 X n32 n31 n21 na1 na2 na3 hpl ha hl;walk_at "n";walk_at "s";refine⟨adC,λu q=>?_⟩;have nb:Nb H3 (aY H5 u (.lst [])) C u O []:=⟨L.trans (bc.new q),by rw[aD (bf m q)];exact m,aA,by
  cases e:H3 u with
  |none=>rfl
  |some o=>exact ach (q.symm.trans (L _ _ e)) adE,bf m q⟩
 generalize aY H5 u (.lst [])=H6 at nb;clear L m q;walk_at "n";cases O with
 |nil=>simp at c1
 |cons d j =>
 refine au λR2 hR2=>?_;have m:=nb.c;rw[D_] at m;walk_at "";refine⟨adD,?_⟩;by_cases hev:d%2=0
 .rw[A_ hev,aca rfl];clear hR2;refine⟨⟨adD,adx⟩,adD,λq1 hq1=>?_⟩;have F:=nb.new (o:=.lst [v0 (d / 2)]) hq1;have gq:aY H6 q1 (.lst [v0 (d / 2)]) q1=ab (.lst [v0 (d / 2)]):=aA;have Y:=F.c;generalize aY H6 q1 (.lst [v0 (d / 2)])=H7 at F gq Y;clear nb m hq1;rw[Y,Np];intro q2 hq2;rw[show (1:Int)=((1:Nat):Int) from rfl,Ek,D_,List.drop_one,List.tail_cons];have I:=F.new (o:=.lst (j.map v0)) hq2;have gq1:aY H7 q2 (.lst (j.map v0)) q1=_ := upa gq hq2;have gq2:aY H7 q2 (.lst (j.map v0)) q2=ab (.lst (j.map v0)):=aA;generalize aY H7 q2 (.lst (j.map v0))=H8 at I gq1 gq2;clear F gq Y hq2;rw[i_] at c63;rw[Eh,gq1,gq2,jA];refine⟨by rw[b_,M_];omega,λq3 W=>?_⟩;have J:=I.new (o:=.lst ([v0 (d / 2)]++j.map v0)) W;have G:aY H8 q3 (.lst ([v0 (d / 2)]++j.map v0)) q3=ab (.lst ([v0 (d / 2)]++j.map v0)):=aA;have n3f:q3≠u:=a6 (bf I.f W);rw[show [v0 (d / 2)]++j.map v0=((d / 2)::j).map v0 from rfl] at *;generalize aY H8 q3 (.lst (((d / 2)::j).map v0))=H9 at J G;clear I gq1 gq2 W;have xl:((d / 2)::j).length<=63:=by rw[i_];exact c63
  generalize (d / 2)::j=xs at *;walk_at "";refine aN v0 xs (λA n H=>∃(l:List Int) (v3 v:Option T),n=[ab (.ref a),ab (.ref C),ab (.ref u),v3,v,ae]/\Nb H3 H C u (d::j) l/\H q3=ab (.lst (xs.map v0))/\l.length=8*A.length) ⟨[],_,_,rfl,J,G,rfl⟩ ?_ ?_
  .rintro n H ⟨l,v3,v,rfl,nb,S,U⟩;refine⟨.inl S,?_⟩;have gf:=nb.f;clear J G;walk_at "";refine⟨by first | trivial | rfl,λp hp=>lu.of bc.refl (k'.out p _ (nb.sb.trans (bc.new hp)) (cB nb.sb hp) ⟨l.reverse,by rw[aA,ff],by rw[aal];omega⟩)⟩
  rintro A c B n H N e ⟨l,v3,v,rfl,nb,S,U⟩ hN;refine⟨.inl S,?_⟩;have hA:A.length+1<=63:=by have:=T_ aT e;simp only[a_,i_] at this;omega
  have D:=eY.mk hN;clear hN e J G k';walk_at "";refine⟨adF,adD,adD,?_⟩;have rl:(cX 0 (df 8)).length=8:=by unfold cX;rw[b_,p_];rfl
  generalize cX 0 (df 8)=ts0 at rl;refine mD (λr n H=>∃(l:List Int) (c:Int) (v:Option T),n=[ab (.ref a),ab (.ref C),ab (.ref u),ab (.int c),v,ae]/\Nb H3 H C u (d::j) l/\H q3=ab (.lst (xs.map v0))/\l.length+r.length=8*(A.length+1)) ⟨l,c,_,rfl,nb,S,adC⟩ ?_ ?_
  .rintro n H ⟨l,c,v,rfl,nb,S,U⟩;rw[aaD] at U;exact⟨adF,D.out _ _ ⟨l,_,_,rfl,nb,S,by rw[a_,M_];omega⟩⟩
  rintro x r n H N2 ⟨l,c,v,rfl,nb,S,U⟩ hN2;walk_at "t";rw[i_] at U;have hM:=eY.mk hN2;have gf:=nb.f;clear hN2 D;walk_at "";refine⟨⟨adF,adF⟩,⟨adD,adD,adD⟩,adD,adC,⟨adD,adD,adD⟩,⟨adD,adx⟩,?_⟩;exact hM.out _ _ ⟨_,_,_,rfl,nb.put _,by rw[aD n3f];exact S,by rw[a_,M_];omega⟩
 rw[x_ hev,ace B_];walk_at "n";walk_at "s";refine⟨⟨adD,adx⟩,adD,?_⟩;have m0:=Z9 (d / 2) (show (2147483629:Int)≠0 by decide);have m1:=Z8 (d / 2) (show (0:Int)<2147483629 by decide);generalize d / 2%2147483629=b at m0 m1;walk_at "n";refine au λR4 hR4=>?_;walk_at "";refine⟨by first | trivial | decide,adD,adD,?_⟩;rw[show cX 0 (df 504)=(af 504).map (λ(i:Nat)=>v0 (i:Int)) from eZ 504];refine aN (λ(i:Nat)=>v0 (i:Int)) (af 504) (λA n H=>∃(l:List Int) (v3 v:Option T) (b:Int),n=[ab (.ref a),ab (.ref C),ab (.ref u),v3,v,ab (.int b)]/\Nb H3 H C u (d::j) l/\l.length=A.length/\0<=b/\b<2147483629) ⟨[],_,_,b,rfl,nb,rfl,m0,m1⟩ ?_ ?_
 .rintro n H ⟨l,v3,v,b,rfl,nb,U,_,_⟩;walk_at "t";rw[p_] at U;walk_at "n";have gf:=nb.f;walk_at "";refine⟨by first | trivial | rfl,λp hp=>lu.of bc.refl (k'.out p _ (nb.sb.trans (bc.new hp)) (cB nb.sb hp) ⟨l.reverse,by rw[aA,ff],by rw[aal];omega⟩)⟩
 rintro A c B n H N e ⟨l,v3,v,b,rfl,nb,U,m0,m1⟩ hN;walk_at "t";have hA:A.length+1<=504:=by have:=T_ aT e;simp only[a_,i_,p_] at this;omega
 have D:=eY.mk hN;have m:=nb.c;obtain⟨z,_,hz⟩:=uM (d::j) ((c:Int)%((d::j).length:Int)) (Z9 _ (by rw[i_];omega)) (Z8 _ (by rw[i_];omega));have hz':atI ((d::j).map v0) ((c:Int)%((d::j).length:Int))=ab (v0 z):=by rw[nG,hz];rfl
 generalize d::j=O at *;clear hN e hz hR4 k';refine au λR5 hR5=>?_;have cl:(0:Int)<(O.length:Int):=adC
 walk_at "";refine⟨by first | trivial | omega,adD,?_⟩;have z0:=Z9 z (show (2147483647:Int)≠0 by decide);have z1:=Z8 z (show (0:Int)<2147483647 by decide);generalize z%2147483647=z' at z0 z1;walk_at "n";walk_at "s";refine⟨.inl ⟨adC,adC⟩,.inl ⟨adD,adD⟩,adD,?_⟩;have y0:=Z9 (b*b+69621*z'+(c:Int)) (show (2147483629:Int)≠0 by decide);have y1:=Z8 (b*b+69621*z'+(c:Int)) (show (0:Int)<2147483629 by decide);generalize (b*b+69621*z'+(c:Int))%2147483629=y at y0 y1;walk_at "n";have gf:=nb.f;walk_at "";refine⟨⟨adF,adF⟩,.inl ⟨adC,adC⟩,adD,⟨adD,adx⟩,adC,?_⟩;exact D.out _ _ ⟨_,_,_,_,rfl,nb.put _,by rw[a_,a_,M_,M_];omega,y0,y1⟩
abbrev oV:List ai:=[ack,acD]
theorem Mm:eG oV oV (aB (top 37)):=bx
theorem Mp (g:G3 K mg ac1 (top 37) oV f G) (B:Bl mg):mY P w K mg base 1 ac1 (top 37) oV oA:=by
 refine c6 g Mm ?_;rintro _ _ _ _ H _ _ H3 _ R ⟨d,m,rfl,u,C,k⟩;have i:=mX.u30 R;refine⟨_,(ak (bD (aP (cY i) adG (bL aj)) (ao (aH aq)) aW)
   (ao (aH (aL eV (Rt N_ kA ky Tg adG) adH)))),?_⟩
 walk_at "q";walk_at "h";obtain⟨ns,z,M⟩:=C.ex;walk_at "";refine⟨adC,λp l=>?_⟩;have e:d≠p:=bf z l;have j:(ns.map v0).all (pl 20)=ag:=by rw[Zy];intro t N;obtain⟨x,_,rfl⟩:=l_.mp N;rfl
 have D:=eY.mk k;clear k;walk_at "";refine⟨by first | trivial | exact e,by first | trivial | exact j,by first | trivial | rfl,?_⟩;rcases List.eq_nil_or_concat ns with rfl | ⟨r,n,rfl⟩
 .simp only[Z5,mG,if_true];exact jf (a:=d) (H:=H3) (C.new (a6 e)) (Kep.refl.new l) λc q=>D.out 0 c (ZJ _) u q
 rw[x_ adE,ace B_];rw[List.concat_eq_append] at *;have U:=GJ r n;have S:=Ck r n;have v:aY H3 p (.lst []) d=ab (.lst ((r++[n]).map v0)):=by rw[aD e];exact z
 generalize O:aY H3 p (.lst [])=V at v;clear j;walk_at "";refine⟨⟨adF,adF⟩,?_⟩;rw[show (si v0 (r++[n]))[(r++[n]).length - 1]?=ab (v0 n) by simp,iD];walk_at "";refine⟨by first | trivial | exact u,jf (a:=d) (H:=H3) ⟨r,aA,by rw[a_,M_] at M;omega⟩ (λb o I L=>?_) λc q=>D.out _ c (Z9 _ adC) (Z8 _ u) q⟩;rw[aD L,<- O,aD (bf I l)];exact I
abbrev Av:List ai:=[ack,acD,"_law_total",acG]
theorem ac4:eG Av [ack,acD] (aB (top 38)):=bx
theorem Ht (g:G3 K mg "_law_great" (top 38) [ack,acD] f z) (B:Bl mg) (a:mY P w K mg base 1 ac1 (top 37) [ack,acD] oA):mY P w K mg base 2 "_law_great" (top 38) [ack,acD] Ti:=by
 refine c6 g ac4 ?_;rintro _ _ q s H _ _ H3 _ D ⟨d,m,rfl,u,F,k⟩;refine⟨_,(ak (aF 2 ac4.nd aq)
   (ak (aZ q_ rfl (aO rfl B.range_ (aa aq aj)) (aC 3 ac4.nd) (ao (aF 2 ac4.nd (aL bh (aL iw adI (aL gW aq aq)) (aK a D rfl (aa adG (aa (aL gW aq aq) aj)))))))
   (ao (aH (aL eV adI adH))))),?_⟩
 walk_at "q";have y:=eY.mk k;clear k;walk_at "s";walk_at "n";refine au λM j=>?_;walk_at "";refine⟨by first | trivial | decide,adD,adD,?_⟩;generalize cX 0 (df 6)=G;refine mD (λr c H=>∃(t:Int) (v3:Option T),c=[ab (.ref d),ab (.int m),ab (.int t),v3]/\Cl H d/\Kep d H3 H) ⟨_,_,rfl,F,Kep.refl⟩ ?_ ?_
 .rintro c H ⟨t,v3,rfl,o,p⟩;walk_at "t";walk_at "n";walk_at "";refine⟨by first | trivial | exact u,jf o p λl b=>y.out _ l (Z9 _ adC) (Z8 _ u) b⟩
 rintro x r c H N ⟨t,v3,rfl,o,p⟩ v;walk_at "t";have e:=eY.mk v;clear v j y;walk_at "";refine⟨⟨adD,adD,adD⟩,.inr ⟨adD,adD⟩,⟨adD,adD,adD⟩,d,10^df 12,rfl,adD,o,λn J n0 L b=>?_⟩;exact e.out _ _ ⟨_,_,rfl,b.cl,p.drw b⟩
abbrev Hu:List ai:=[ack,adi,"_law_left",acX]
theorem adB:eG Hu [ack,adi] (aB (top 41)):=bx
theorem Mq (g:G3 K mg "_law_turn" (top 41) [ack,adi] f fd) (B:Bl mg) (u:mY P w K mg base 1 ac1 (top 37) [ack,acD] oA):mY P w K mg base 2 "_law_turn" (top 41) [ack,adi] K7:=by
 refine c6 g adB ?_;rintro _ _ _ s H _ _ H3 _ hr ⟨d,a,xs,rfl,nad,ha,S,hl,hC,k⟩;have R:=mX.u30 hr;refine⟨_,(ak (aF 2 adB.nd (bJ mC rfl B.list_ iZ (aa adH aj)))
   (ak (aF 3 adB.nd (bL aj))
   (ak (jL q_ (aP (iy R) adI (bL aj)) (ao (bQ (di N_ Q_ R_ bC adJ (aa (di N_ kA ky Eb adI (aa (aK u hr rfl (aa adG (aa (aM bH rfl B.len_ bI (aa adI aj)) aj))) aj)) aj)))))
   (ao (aH adJ))))),?_⟩
 walk_at "q";walk_at "h";have k':=eY.mk k;clear k;have w0:Wt d H3 H3 []:=⟨hC,Kep.refl,(λ_ h=>nomatch h)⟩;walk_at "s";intro e c;have l0:=w0.fresh c;have V:=w0.new (o:=.lst xs) c;generalize aY H3 e (.lst xs)=H4 at V;clear w0 c;walk_at "n";walk_at "s";refine⟨adC,λM v=>?_⟩;have f0:=V.fresh v;have I:M≠e:=a6 (bf V.hd v);have w2:=V.new (o:=.lst []) v;generalize aY H4 M (.lst [])=H5 at w2;clear V v;walk_at "n";refine au λR2 hR2=>?_;show rD _ _ _ _ _;refine Cj (λm σ H=>∃(z y:List T),m=z.length/\σ=[ab (.ref d),ab (.ref a),ab (.ref e),ab (.ref M)]/\Wt d H3 H [(M,.lst y),(e,.lst z)]/\(y++z).Perm xs/\z.all (pl 20)=ag) ⟨_,xs,[],rfl,rfl,w2,abG _,S⟩ ?_;intro m σ H hI WI TB NX O p l;obtain⟨z,y,rfl,rfl,w,b,U⟩:=hI;have C:=b.length_eq;rw[a_] at C;have gl:=w.tl.hd;have gf:=w.hd;clear w2;walk_at "";refine⟨adC,λN D=>?_⟩;have J:=w.new (o:=.lst []) D;have X:=J.tl.tl.hd;have nle:e≠N:=bf gl D;walk_at "";refine⟨adF,adF,rfl,?_⟩;have npd:M≠d:=(w.at' _ k_).2;have G:=J.tl.hd;generalize aY H N (.lst [])=H6 at J X G;clear w gl gf D nle;cases z with
 |nil=>rw[ace adE];clear p O;obtain⟨l⟩:=l;subst l;walk_at "n";walk_at "";rw[P_] at b;exact gJ J.cl J.kp G f0 npd λH1 hD h1=>k'.out y H1 M b hD h1
 |cons t r =>
 rw[aca adE];clear l hR2 k';obtain⟨p⟩:=p;subst p;have L:=J.tl;clear J;walk_at "";refine⟨⟨adF,adF⟩,⟨adF,adF⟩,d,_,rfl,adC,L.cl,λn H7 n0 n1 hD=>?_⟩;have Z:=L.drw hD;have gl4:=Z.tl.hd;have gf4:=Z.hd;clear L X G hD;obtain⟨j,rfl⟩:∃j:Nat,n=(j:Int):=⟨n.toNat,adC⟩;have Y:j<(t::r).length:=by rw[i_];omega
 have ej:=zp Y;have ex:=g_ Y;have N:=K8 Y;have le:=abE Y;generalize (t::r)[j]=x at ex N;have hal:=Tj U j;have w5:=(Z.swap.set l0 (λq hq=>by rw[e_.mp hq];exact I) (.lst ((t::r).eraseIdx j))).swap.set f0 (λq hq=>by rw[e_.mp hq];exact a6 I) (.lst (y++[x]));have hfl:y.length<60:=by rw[i_] at C;omega
 have nfl':=a6 I;have hpm:(y++[x]++(t::r).eraseIdx j).Perm xs:=by refine kv ?_ b;rw[y_];exact (abG y).append N
 have hlr:=eY.mk (show (t::r).length=r.length+1 from rfl);have le':=eY.mk le;generalize W:(t::r)=z at *;clear Z U b N W le;walk_at "";exact⟨adC,(z.eraseIdx j).length,by have:=hlr.out;have:=le'.out;omega,by rw[O.out];exact⟨_,y++[x],rfl,rfl,w5,hpm,hal⟩⟩
abbrev ig:List ai:=[ack,adk,acw,acX,acF]
theorem acE:eG ig [ack,adk,acw] (aB (top 45)):=bx
theorem pN (g:G3 K mg "_law_some_kinds" (top 45) [ack,adk,acw] f fd) (B:Bl mg) (t:mY P w K mg base 2 "_law_turn" (top 41) [ack,adi] K7) (j:mY P w K mg base 1 ac1 (top 37) [ack,acD] oA):mY P w K mg base 3 "_law_some_kinds" (top 45) [ack,adk,acw] Xf:=by
 refine c6 g acE ?_;rintro _ A _ s H _ _ H3 _ hr ⟨d,a,b,ws,rfl,nad,ha,R,w8,hcm,hC,k⟩;have z:=mX.u30 hr;refine⟨_,(ak (aF 3 acE.nd (bL (aa adH aj)))
   (ak (aZ q_ rfl (bR (aK t hr rfl (aa adG (aa (bz rfl (b6 45 ig [acF,adk] 1 [1]) (bR adI) (λcl pins s H C0 fp=>⟨(aC 0 (n7 [acF,adk])),(dZ (aP (iy z) adG adH)),adG⟩)) aj)))) (aC 4 acE.nd) (ao (bD (PW3.pt (cT (aP qu (aM bH rfl B.len_ bI (aa adJ aj)) aq) (cM (aP (cY z) (aK j hr rfl (aa adG (aa aq aj))) aq)))) (ao (bQ (di N_ PySem.F.slot_list_insert PySem.F.type_list_insert BP adJ (aa (aK j hr rfl (aa adG (aa (aL bh (aM bH rfl B.len_ bI (aa adJ aj)) aq) aj))) (aa adK aj))))) aW)))
   (ao (aH (bJ cN rfl B.tuple_ cz (aa adJ aj)))))),?_⟩
 walk_at "q";walk_at "h";have k':=eY.mk k;clear k;have w0:Wt d H3 H3 [(a,.lst (ws.map v1))]:=⟨hC,Kep.refl,λq r=>by rw[e_.mp r];exact⟨ha,nad⟩⟩;clear hC;walk_at "s";refine⟨adD,λC u=>?_⟩;have f0:=w0.fresh u;have nfa:a≠C:=bf ha u;have w1:=w0.new (o:=.lst [v1 b]) u;generalize aY H3 C (.lst [v1 b])=H4 at w1;clear w0 u ha;walk_at "n";refine au λR1 hR1=>?_;have gA:=w1.tl.hd;walk_at "";walk_at "c";refine cZ v1 v1 (λx=>!decide (x=b)) ws [ab (.str b)] (.inl gA) adC (λx l Q' r=>?_) (λx l _ Q' r=>r) (λq r=>?_)
 .have hq':=eY.mk r;clear k' r hR1;walk_at "";first | exact hq'.out | trivial
 have J:=w1.new (o:=.lst ((ws.filter λx=>!decide (x=b)).map v1)) r;have gq:=J.hd;generalize aY H4 q (.lst ((ws.filter λx=>!decide (x=b)).map v1))=H5 at J gq;clear w1 r gA;refine⟨d,q,(ws.filter λx=>!decide (x=b)).map v1,rfl,(J.at' _ k_).2,gq,dJ _,by rw[b_];have:=Zh (λx=>!decide (x=b)) ws;omega,J.cl,λys W Z m Y M=>?_⟩;obtain⟨v,p,rfl⟩:=jT m _ rfl;have S:Nms v:=⟨λx l=>R.nm x (E_.mp (p.mem_iff.mp l)).1,p.nodup_iff.mpr (R.nd.filter _)⟩;have fcm:b∉v:=λh=>by have:=(E_.mp (p.mem_iff.mp h)).2;simp at this
 have fl:v.length<=8:=by rw[p.length_eq];have:=Zh (λx=>!decide (x=b)) ws;omega
 have I:=(J.drw Y).tl.new (o:=.lst (v.map v1)) M;have gq2:=I.hd;have nfq:C≠Z:=bf (J.drw Y).tl.hd M;generalize aY W Z (.lst (v.map v1))=H7 at I gq2;clear J Y M gq m p;try dsimp only
 walk_at "";have w4:Wt d H3 H7 [(C,.lst ([b].map v1)),(Z,.lst (v.map v1))]:=⟨I.cl,I.kp,λx l=>by
  rcases n_.mp l with rfl | l
  ·
   exact I.at' _ adE
  ·
   rw[e_.mp l];exact I.at' _ k_⟩
 clear I gq2;refine aN v1 v (λA σ H=>∃(c:List ai) (v4:Option T),σ=[ab (.ref d),ab (.str b),ab (.ref a),ab (.ref C),v4]/\Nms c/\c.length<=4/\(∀x∈c,x=b\/x∈A)/\Wt d H3 H [(C,.lst (c.map v1)),(Z,.lst (v.map v1))]) ⟨[b],_,rfl,⟨λx l=>by rw[e_.mp l];exact hcm,adE⟩,adE,λx l=>.inl (e_.mp l),w4⟩ ?_ ?_
 .rintro σ H ⟨c,v4,rfl,hk,k4,_,w⟩;refine⟨.inl w.tl.hd,?_⟩;have g:=w.hd;walk_at "n";clear w4;try dsimp only
  walk_at "";exact jf w.cl w.kp λH'' Y=>k'.out c H'' hk k4 Y
 rintro A x B σ H N e ⟨c,v4,rfl,hk,k4,L,w⟩ hN;refine⟨.inl w.tl.hd,?_⟩;have l:isNm x:=S.nm x (by rw[e];simp);have hnx:x∉c:=λh=>by
  rcases L x h with h | h
  .exact fcm (by rw[<- h,e];simp)
  have nd:=S.nd;rw[e,aab] at nd;exact nd.2.2 x h x k_ rfl
 have U:=eY.mk hN;have G:=eY.mk L;clear hN L e k' hR1 w4;have g:=w.hd;walk_at "";have D:∀W,Wt d H3 W [(C,.lst (c.map v1)),(Z,.lst (v.map v1))]->N [ab (.ref d),ab (.str b),ab (.ref a),ab (.ref C),ab (.str x)] W:=λW w'=>U.out _ _ ⟨c,_,rfl,hk,k4,λy hy=>(G.out y hy).imp id λh=>Zq _ h,w'⟩;have n:=eY.mk D;clear D;split
 .rename_i h4;have h4':c.length<4:=by have:=Zw h4;omega
  refine⟨d,2,rfl,adD,w.cl,λn1 H8 p0 p1 hD1=>?_⟩;have V:=w.drw hD1;have g5:=V.hd;clear w g hD1;walk_at "";split
  .refine⟨⟨adF,adF⟩,d,_,rfl,adC,V.cl,λO H9 r0 r1 X=>?_⟩;have w6:=V.drw X;have g6:=w6.hd;clear V g5 X;walk_at "";have em:(c.map v1).take O.toNat++v1 x::(c.map v1).drop O.toNat=(c.take O.toNat++x::c.drop O.toNat).map v1:=by rw[v_,D_,List.map_take,List.map_drop]
   rw[em];refine⟨⟨by first | trivial | omega,by first | trivial | omega,by first | trivial | omega⟩,U.out _ _ ⟨c.take O.toNat++x::c.drop O.toNat,_,rfl,hk.ins l hnx,?_,λy hy=>?_,w6.set f0 (λq r=>by rw[e_.mp r];exact a6 nfq) _⟩⟩
   .rw[a_,i_,Zm,Zr];omega
   rcases GK hy with rfl | h
   .exact .inr (Ze _ (e_.mpr rfl))
   exact (G.out y h).imp id λh=>Zq _ h
  exact n.out _ V
 exact n.out _ w
abbrev tG:List ai:=[ack,"_law_row",acw,ac_,acA,"_law_commons",acX,acM,"_law_first"]
theorem acH:eG tG [ack,"_law_row",acw,ac_] (aB (top 46)):=bx
theorem Hv (g:G3 K mg "_law_kinds" (top 46) [ack,"_law_row",acw,ac_] f fd) (B:Bl mg) (I:mY P w K mg base 1 ac1 (top 37) [ack,acD] oA) (b:mY P w K mg base 3 "_law_some_kinds" (top 45) [ack,adk,acw] Xf):mY P w K mg base 4 "_law_kinds" (top 46) [ack,"_law_row",acw,ac_] Xg:=by
 refine c6 g acH ?_;rintro _ A _ s H _ _ H3 Q hr ⟨d,r,a,t,F,ws,m,H0,as,rfl,nrd,nad,hr',r1,r8,hrow,ha,hws,w8,tq,m8,hC,k⟩;have R:=mX.u30 hr;refine⟨_,(ak (aF 4 acH.nd (aM bH rfl B.len_ bI (aa adJ aj)))
   (ak (aF 5 acH.nd (bL aj))
   (ak (aF 6 acH.nd (bL aj))
   (ak (aZ q_ rfl (aO rfl B.range_ (aa adK aj)) (aC 7 acH.nd) (ak (aF 8 acH.nd (aJ pA (bz rfl (b6 46 tG [acY,acM,ac_] 1 [7,3]) (aO rfl B.range_ (aa adK aj)) (λcl pins s H C0 fp=>⟨(aC 0 (n7 [acY,acM,ac_])),(dZ (PW3.pt (iu (aP (cY R) adG adH) (ir (PW3.pt (cT (cH (aJ pA (aJ pA adI adH) adG)) (cM (cH (aJ pA (aJ pA adI adG) adH))))))))),adG⟩)) aq))
    (ak (bD (aP (cY R) adT adP) (ao (bQ (di N_ Q_ R_ bC adM (aa (aJ pA adH (aK I hr rfl (aa adG (aa (aM bH rfl B.len_ bI (aa adH aj)) aj)))) aj)))) (ao (bQ (di N_ Q_ R_ bC adM (aa (aJ pA adM adT) aj)))))
    (ao (bD (aP (cY R) (aK I hr rfl (aa adG (aa aq aj))) aq) (ao (bQ (di N_ Q_ R_ bC adO (aa (aK b hr rfl (aa adG (aa (aJ pA adM adP) (aa adI aj)))) aj)))) (ao (bQ (di N_ Q_ R_ bC adO (aa (bB aj) aj)))))))))
   (ao (aH adO)))))),?_⟩
 walk_at "q";walk_at "h";have k':=eY.mk k;clear k;have gt:=tq.t;have tl:as.length=m:=tq.l;have w0:Wt d H3 H3 [(r,.lst (F.map v1)),(a,.lst (ws.map v1))]:=⟨hC,Kep.refl,λq hq=>by
  rcases n_.mp hq with rfl | hq
  ·
   exact⟨hr',nrd⟩
  ·
   rw[e_.mp hq];exact⟨ha,nad⟩⟩
 clear hC;have rg:cX 0 m=(af m).map λ(i:Nat)=>v0 (i:Int):=eZ _;walk_at "s";walk_at "n";walk_at "s";refine⟨adC,λW y=>?_⟩;have c0:=w0.fresh y;have nrc:r≠W:=bf hr' y;have nac:a≠W:=bf ha y;have ntc:t≠W:=bf gt y;have nsc:∀x∈as,x≠W:=λx hx=>by obtain⟨bs,_,h2⟩:=tq.r x hx;exact bf h2 y
 have w1:=w0.new (o:=.lst []) y;have O:=tq.new (o:=.lst []) y;generalize aY H3 W (.lst [])=H4 at w1 O;clear y gt;walk_at "n";walk_at "s";refine⟨adC,λpf u=>?_⟩;have J:KI d H3 H0 (aY H4 pf (.lst [])) pf W r a t F ws m as [] [] :=
  ⟨w1.new u,O.new u,a6 (bf w1.hd u),⟨nrc,bf w1.tl.hd u⟩,⟨nac,bf w1.tl.tl.hd u⟩,⟨ntc,bf O.t u⟩,λx hx=>⟨nsc x hx,by obtain⟨bs,_,h2⟩:=O.r x hx;exact bf h2 u⟩,c0,w1.fresh u⟩
 generalize aY H4 pf (.lst [])=H5 at J;clear w1 O u nrc nac ntc nsc c0 tq;walk_at "n";refine au λR3 hR3=>?_;walk_at "";refine⟨by first | trivial | omega,adC,adC,?_⟩;try rw[rg]
 refine aN (λ(i:Nat)=>v0 (i:Int)) (af m) (λA σ H=>∃(p:List ai) (G:List (List ai)) (v7 v8:Option T),σ=[ab (.ref d),ab (.ref r),ab (.ref a),ab (.ref t),ab (.int (m:Int)),ab (.ref W),ab (.ref pf),v7,v8]/\KI d H3 H0 H pf W r a t F ws m as p G/\p.length=A.length/\G.length=A.length/\(∀c∈p,isNm c)/\(∀k∈G,Nms k/\k.length<=4)) ⟨[],[],_,_,rfl,J,rfl,rfl,(λ_ h=>nomatch h),(λ_ h=>nomatch h)⟩ ?_ ?_
 .rintro σ H ⟨p,G,v7,v8,rfl,J,hcl,S,hc,hk⟩;walk_at "t";rw[p_] at S;walk_at "n";walk_at "";exact gJ J.w.cl J.w.kp J.w.hd J.f0 (J.w.at' _ k_).2 λH1 hD h1=>k'.out G H1 pf S hk hD h1
 rintro A i B σ H N e ⟨p,G,v7,v8,rfl,J,hcl,S,hc,hk⟩ hN;walk_at "t";have hi:i<m:=F_.mp (by rw[e];simp);have hiA:=eY.mk (vI e);have hN':=eY.mk hN;have U:=eY.mk hcl;have V:=eY.mk S;clear hN e k' hR3 hcl S;refine au λR4 hR4=>?_;walk_at "";refine⟨by first | trivial | omega,adC,adC,?_⟩;try rw[rg]
 walk_at "c";refine dU (λ(j:Nat)=>v0 (j:Int)) (af m) (λA2 ys σ H'=>∃(M:List Nat) (v:Option T),σ=[v,ab (.int (i:Int)),ab (.ref t)]/\ys=M.map (λ(j:Nat)=>v0 (j:Int))/\M.length<=A2.length/\H=H'/\((M=[]/\i∉A2)\/∃f rest,M=f::rest/\f<=i)) ⟨[],_,rfl,rfl,m_ _,rfl,.inl ⟨rfl,adE⟩⟩ ?_ ?_;rotate_left
 .rintro A2 j B2 ys σ H' N2 e2 ⟨M,v,rfl,rfl,X,rfl,L⟩ hN2;walk_at "t";have hj:j<m:=F_.mp (by rw[e2];simp);have hjA:=vI e2;have hpr:=qL e2;have hA2:A2.length<8:=adC
  have app:N2 (M.map (λ(j:Nat)=>v0 (j:Int))++[v0 (j:Int)]) [ab (v0 (j:Int)),ab (.int (i:Int)),ab (.ref t)] H:=hN2 _ _ _ ⟨M++[j],_,rfl,by rw[v_];rfl,by rw[a_,a_];simp only[M_];omega,rfl,.inr (by
   rcases L with ⟨rfl,hni⟩ | ⟨f,rest,rfl,hf⟩
   ·
    refine⟨j,[],rfl,?_⟩
    rw[hpr,F_,<- hjA] at hni
    omega
   ·
    exact⟨f,rest++[j],rfl,hf⟩)⟩
  have skip:j≠i->N2 (M.map (λ(j:Nat)=>v0 (j:Int))) [ab (v0 (j:Int)),ab (.int (i:Int)),ab (.ref t)] H:=λhne=>hN2 _ _ _ ⟨M,_,rfl,rfl,by rw[a_];simp only[M_];omega,rfl,by
   rcases L with ⟨rfl,hni⟩ | h
   ·
    exact .inl ⟨rfl,λh=>by
     rcases t_.mp h with h | h
     ·
      exact hni h
     ·
      exact hne (e_.mp h).symm⟩
   ·
    exact .inr h⟩
  have Y:=eY.mk app;have skip':=eY.mk skip;have gt:=J.tq.t;obtain⟨ri,bi,gi,hri,li,gri⟩:=J.tq.at' hi;obtain⟨rj,bj,gj,hrj,lj,grj⟩:=J.tq.at' hj;obtain⟨x1,gx1⟩:=oF (show j<bi.length by omega);obtain⟨x2,gx2⟩:=oF (show i<bj.length by omega);have hjl':M.length<8:=adC
  clear li lj app skip hN2 hN' L hjA hpr e2 hR4 X rg;walk_at "";by_cases hji:(j:Int)=(i:Int)
  .rw[A_ hji,aca rfl];exact⟨adC,Y.out⟩
  rw[x_ hji,ace B_];have sk:=skip'.out (λh=>hji (by rw[h]));split
  .split
   .exact⟨adC,Y.out⟩
   exact sk
  exact sk
 rintro ys σ H' ⟨M,v,rfl,rfl,X,rfl,L⟩;rw[p_] at X;refine⟨adF,by rw[b_];omega,λq hq=>?_⟩;obtain⟨f,rest,rfl,hf⟩:∃f rest,M=f::rest/\f<=i:=L.resolve_left λh=>h.2 (F_.mpr hi);have C:=J.new (o:=.lst ((f::rest).map λ(j:Nat)=>v0 (j:Int))) hq;generalize aY H q (.lst ((f::rest).map λ(j:Nat)=>v0 (j:Int)))=H6 at C;clear J hq L X;rw[D_,at0,iD];walk_at "n";refine au λR5 hR5=>?_;have il:p.length=i:=U.out.trans hiA.out.symm;have key:∀(c:ai) (H7:eH),isNm c->KI d H3 H0 H7 pf W r a t F ws m as (p++[c]) G->R5 { nx:=N,rt:=lu Q,bk:=R3 { nx:=λx H'=>lu Q T.non H',rt:=lu Q},ct:=N} [ab (wa d),ab (wa r),ab (wa a),ab (wa t),ab (v0 (m:Int)),ab (wa W),ab (wa pf),ab (v0 (i:Int)),ab (v0 (f:Int))] H7:=λc H7 hcn ki7=>by
  walk_at "n";clear C;have hcs:∀x∈p++[c],isNm x:=λx hx=>by
   rcases t_.mp hx with h | h
   .exact hc x h
   rw[e_.mp h];exact hcn
  have gci:atI ((p++[c]).map v1) (i:Int)=ab (.str c):=bM (by rw[<- il];simp);have il':=eY.mk il;clear il;walk_at "";refine⟨d,3,rfl,adD,ki7.w.cl,λn H8 p0 p1 hD=>?_⟩;have D:=ki7.drw hD;have gf:=D.w.hd;have gc:=D.w.tl.hd;have gA:=D.w.tl.tl.tl.hd;have kl:G.length<8:=by rw[V.out,<- hiA.out];omega
  clear ki7 hD;walk_at "";split
  .refine⟨⟨adF,adF⟩,d,a,c,ws,rfl,nad,gA,hws,w8,hcn,D.w.cl,λk1 H9 hk1 hk4 hD9=>?_⟩;have ki9:=D.drw hD9;have gf9:=ki9.w.hd;clear D hD9 gf gc gA;try dsimp only
   walk_at "";have em:G.map sT++[v2 (k1.map v1)]=(G++[k1]).map sT:=by rw[v_];rfl
   rw[em];refine⟨adC,hN'.out _ _ ⟨p++[c],G++[k1],_,_,rfl,ki9.putf _,by rw[a_,a_,U.out];rfl,by rw[a_,a_,V.out];rfl,hcs,λk hk'=>?_⟩⟩;rcases t_.mp hk' with h | h
   .exact hk k h
   rw[e_.mp h];exact⟨hk1,hk4⟩
  have em:G.map sT++[v2 []]=(G++[[]]).map sT:=by rw[v_];rfl
  rw[em];refine⟨⟨adF,adF⟩,by first | trivial | omega,adC,hN'.out _ _ ⟨p++[c],G++[[]],_,_,rfl,D.putf _,by rw[a_,a_,U.out];rfl,by rw[a_,a_,V.out];rfl,hcs,λk hk'=>?_⟩⟩;rcases t_.mp hk' with h | h
  .exact hk k h
  rw[e_.mp h];exact⟨Nms.nil,adD⟩
 have Z:=eY.mk key;have gc:=C.w.tl.hd;have gr:=C.w.tl.tl.hd;have cl8:p.length<8:=adC
 clear key hR5;walk_at "";by_cases hfi:(f:Int)=(i:Int)
 .rw[A_ hfi,aca rfl];refine⟨⟨adF,adF⟩,d,_,rfl,adC,C.w.cl,λn H7 p0 p1 hD=>?_⟩;have ki3:=C.drw hD;have gr3:=ki3.w.tl.tl.hd;have gc3:=ki3.w.tl.hd;clear C hD gc gr;obtain⟨z,hz,ez⟩:=uM F n p0 adC;have ez':atI (F.map v1) n=ab (v1 z):=by rw[nG,ez];rfl
  clear ez;have em:p.map v1++[v1 z]=(p++[z]).map v1:=by rw[v_];rfl
  walk_at "";have fin:=Z.out z _ (hrow z hz) (ki3.putc _);rw[hfi] at fin;exact⟨adC,fin⟩
 rw[x_ hfi,ace B_];have hfl:f<p.length:=adC
 have gz:atI (p.map v1) (f:Int)=ab (v1 p[f]):=bM (by rw[J_,g_ hfl];rfl);have hz:=hc _ (Zt hfl);generalize p[f]=z at gz hz;have em:p.map v1++[v1 z]=(p++[z]).map v1:=by rw[v_];rfl
 rw[gz,iD,em];exact⟨⟨adF,adF⟩,adC,Z.out z _ hz (C.putc _)⟩
abbrev lA:List ai:=[acA,ac6,ac_,acG,acM,acY]
theorem acB:eG lA [acA,ac6] (aB (top 43)):=bx
theorem yo (g:G3 K mg "_law_chained" (top 43) [acA,ac6] f fd) (B:Bl mg):mY P w K mg base 1 "_law_chained" (top 43) [acA,ac6] Xc:=by
 refine c6 g acB ?_;rintro _ A _ s H _ _ H3 _ hr ⟨m,a,X,rfl,m8,Z,hes,k⟩;have D:=mX.u31 hr;refine⟨_,(ak (rE (i:=2) rfl acB.nd (b6 43 lA [acM,ac6,acA] 1 [1,0]) (aO rfl B.range_ (aa adG aj)) (λcl C s H C0 fp=>⟨(aC 0 (n7 [acM,ac6,acA])),bK,(bz rfl (zj (n00:=(aB (top 43)).names) (N:=[acM,ac6,acA]) (N':=[acY,ac6,acM]) (nt:=1) (cap:=[1,0]) rfl rfl rfl adx) (aO rfl B.range_ (aa adI aj)) (λcl C s H C0 fp=>⟨(aC 0 (n7 [acY,ac6,acM])),bK,(gU (uG D) (bB (aa adI (aa adG aj))) adH rfl)⟩))⟩))
   (ak (aZ q_ rfl (aO rfl B.range_ (aa adG aj)) (aC 3 acB.nd) (ao (aZ q_ rfl (aO rfl B.range_ (aa adG aj)) (aC 4 acB.nd) (ao (aZ q_ rfl (aO rfl B.range_ (aa adG aj)) (aC 5 acB.nd) (ao (Dv (MK (aJ pA (aJ pA adI adK) adM) (rB (Ds (aJ pA (aJ pA adI adK) adJ) (rB (aJ pA (aJ pA adI adJ) adM))))) (QD (aJ pA adI adK) adM Bw))))))))
   (ao (aH adI)))),?_⟩
 walk_at "q";walk_at "h";have k':=eY.mk k;clear k;have x:cX 0 m=(af m).map λ(i:Nat)=>v0 (i:Int):=eZ m;refine au λR0 hR0=>?_;walk_at "";refine⟨by first | trivial | omega,adC,adC,?_⟩;try rw[x]
 walk_at "c";refine dU (λ(i:Nat)=>v0 (i:Int)) (af m) (λA ys d H=>∃(l:List am) (v:Option T),d=[v,ab (.ref a),ab (.int (m:Int))]/\ys=l.map wa/\l.length=A.length/\Rws H3 H m l) ⟨[],_,rfl,rfl,rfl,bc.refl,(λ_ h=>nomatch h),(λ_ h=>nomatch h)⟩ ?_ ?_;rotate_left
 .rintro A i B ys d H N e ⟨l,v,rfl,rfl,I,u⟩ hN;walk_at "t";have hA:A.length<8:=by have:=T_ aT e;simp only[a_,i_,p_] at this;omega
  have F:=eY.mk hN;have ha':=u.sb _ _ Z;clear hN e k' hR0 Z;walk_at "";refine⟨by first | trivial | omega,adC,adC,?_⟩;try rw[x]
  walk_at "c";refine bZ (λ(j:Nat)=>v0 (j:Int)) (λj=>.bl (dM ah (.tup [.int (i:Int),.int (j:Int)]) X)) (af m) [ab (.ref a),ab (.int (i:Int))] trivial (by rw[p_];omega) (λj hj Q' hq=>?_) (λq hq=>?_)
  .clear F x;walk_at "";exact⟨adD,rfl,adF,adF⟩
  rw[show (af m).map (λ(j:Nat)=>T.bl (dM ah (.tup [.int (i:Int),.int (j:Int)]) X))=((af m).map λ(j:Nat)=>dM ah (.tup [.int (i:Int),.int (j:Int)]) X).map T.bl by rw[X_];rfl];refine⟨by first | omega | (rw[b_,I];omega),F.out _ _ _ ⟨l++[q],_,rfl,by rw[v_];rfl,by rw[a_,a_,I];rfl,u.grow (by rw[b_,p_]) hq⟩⟩
 rintro ys d H ⟨l,v,rfl,rfl,I,u⟩;rw[p_] at I;refine⟨adF,by rw[b_];omega,λp z=>?_⟩;have c:Tb H3 (aY H p (.lst (l.map wa))) p m l:=by
  refine⟨u.sb.trans (bc.new z),I,aA,λb hb=>?_,λhin=>?_,cB u.sb z,u.fa⟩
  .obtain⟨bs,h1,Y⟩:=u.r b hb;exact⟨bs,h1,by rw[aD (bf Y z)];exact Y⟩
  obtain⟨bs,_,Y⟩:=u.r p hin;rw[Y] at z;cases z
 generalize aY H p (.lst (l.map wa))=H4 at c;clear u z;walk_at "n";refine au λR1 hR1=>?_;walk_at "";refine⟨by first | trivial | omega,adC,adC,?_⟩;try rw[x]
 refine aN (λ(i:Nat)=>v0 (i:Int)) (af m) (λ_ d H=>∃(v3 y n:Option T),d=[ab (.int (m:Int)),ab (.ref a),ab (.ref p),v3,y,n]/\Tb H3 H p m l) ⟨_,_,_,rfl,c⟩ ?_ ?_
 .rintro d H ⟨v3,y,n,rfl,c⟩;walk_at "t";walk_at "n";walk_at "";exact lu.of bc.refl (k'.out p l H c)
 rintro A1 R B1 d H N1 e1 ⟨v3,y,n,rfl,c⟩ L;walk_at "t";have hk:R<m:=F_.mp (by rw[e1];simp);have M:=eY.mk L;clear L e1 hR1 k' Z;walk_at "";refine⟨by first | trivial | omega,adC,adC,?_⟩;try rw[x]
 refine aN (λ(i:Nat)=>v0 (i:Int)) (af m) (λ_ d H=>∃(y n:Option T),d=[ab (.int (m:Int)),ab (.ref a),ab (.ref p),ab (.int (R:Int)),y,n]/\Tb H3 H p m l) ⟨_,_,rfl,c⟩ ?_ ?_
 .rintro d H ⟨y,n,rfl,c⟩;exact⟨adF,M.out _ _ ⟨_,_,_,rfl,c⟩⟩
 rintro A2 ii B2 d H N2 e2 ⟨y,n,rfl,c⟩ V;walk_at "t";have hii:ii<m:=F_.mp (by rw[e2];simp);have U:=eY.mk V;clear V e2 M;walk_at "";refine⟨by first | trivial | omega,adC,adC,?_⟩;try rw[x]
 refine aN (λ(i:Nat)=>v0 (i:Int)) (af m) (λ_ d H=>∃(n:Option T),d=[ab (.int (m:Int)),ab (.ref a),ab (.ref p),ab (.int (R:Int)),ab (.int (ii:Int)),n]/\Tb H3 H p m l) ⟨_,rfl,c⟩ ?_ ?_
 .rintro d H ⟨n,rfl,c⟩;exact⟨adF,U.out _ _ ⟨_,_,rfl,c⟩⟩
 rintro A3 G B3 d H N3 e3 ⟨n,rfl,c⟩ S;walk_at "t";have hjj:G<m:=F_.mp (by rw[e3];simp);have hM3:=eY.mk S;clear S e3 U x;have gt:=c.t;obtain⟨ri,W,gi,hri,li,gri⟩:=c.at' hii;obtain⟨rk,bk,gk,hrk,lk,grk⟩:=c.at' hk;obtain⟨x1,gx1⟩:=oF (show G<W.length by omega);obtain⟨x2,gx2⟩:=oF (show R<W.length by omega);obtain⟨x3,gx3⟩:=oF (show G<bk.length by omega);have J:=eY.mk li;clear li lk;have O:∀b:Bool,oq (ixN W.length (G:Int)) λj=>N3 [ab (v0 (m:Int)),ab (wa a),ab (wa p),ab (v0 (R:Int)),ab (v0 (ii:Int)),ab (v0 (G:Int))] (aY H ri (O3.lst ((si T.bl W).set j (T.bl b)))):=λb=>by rw[zp (by have:=J.out;omega),iD,<- List.map_set];exact hM3.out _ _ ⟨_,rfl,c.put hri (by rw[qk];exact J.out)⟩
 have o:=eY.mk O;clear O;walk_at "";split
 .exact o.out ag
 split
 .exact o.out x3
 exact o.out ah
abbrev tH:List ai:=[ack,acw,ado,"_law_lots",acA,"_law_pairs_here",ac6,acM,acY,ac_]
theorem ab7:eG tH [ack,acw,ado,"_law_lots"] (aB (top 44)):=bx
theorem Hw (g:G3 K mg "_law_pairs" (top 44) [ack,acw,ado,"_law_lots"] f fd) (B:Bl mg) (F_turn:mY P w K mg base 2 "_law_turn" (top 41) [ack,adi] K7) (O:mY P w K mg base 1 ac1 (top 37) [ack,acD] oA) (L:mY P w K mg base 1 "_law_chained" (top 43) [acA,ac6] Xc):mY P w K mg base 3 "_law_pairs" (top 44) [ack,acw,ado,"_law_lots"] Xd:=by
 refine c6 g ab7 ?_;rintro _ A _ s H _ _ H3 _ hr ⟨d,a,o,ws,v,l,rfl,l1,l100,nad,nod,ha,hws,w8,ho,hes,e28,hC,k⟩;have M:=mX.u30 hr;refine⟨_,(ak (aF 4 ab7.nd (aM bH rfl B.len_ bI (aa adH aj)))
   (ak (aF 5 ab7.nd (bL aj))
   (ak (aF 6 ab7.nd (bJ mC rfl B.list_ iZ (aa adI aj)))
   (ak (aZ q_ rfl (aO rfl B.range_ (aa adK aj)) (aC 7 ab7.nd) (ao (aZ q_ rfl (aO rfl B.range_ (aa adK aj)) (aC 8 ab7.nd) (ao (bD (PW3.pt (cT (aP (iy M) adP adT) (cT (aP (cY M) (aK O hr rfl (aa adG (aa (aL iw aq adJ) aj))) aq) (cM (aP qu (aM bH rfl B.len_ bI (aa adM aj)) aq))))) (ak (bQ (di N_ Q_ R_ bC adM (aa (bB (aa cR (aa adP (aa adT aj)))) aj)))
      (ao (aF 6 ab7.nd (aL bh adO (bL (aa (bB (aa adP (aa adT aj))) (aa (bB (aa adT (aa adP aj))) aj))))))) aW)))))
   (ak (aF 9 ab7.nd (aK L hr rfl (aa adK (aa adO aj))))
   (ak (aZ q_ rfl (aO rfl B.range_ (aa adK aj)) (aC 7 ab7.nd) (ao (aZ q_ rfl (aO rfl B.range_ (aa adK aj)) (aC 8 ab7.nd) (ao (bD (PW3.pt (cT (aP (iy M) adP adT) (cT (aP (cY M) (aK O hr rfl (aa adG (aa adJ aj))) aq) (cT (gD (PW3.pt (cT (cH (aJ pA (aJ pA adV adP) adT)) (cM (cH (aJ pA (aJ pA adV adT) adP)))))) (cM (aP qu (aM bH rfl B.len_ bI (aa adM aj)) aq)))))) (ao (bQ (di N_ Q_ R_ bC adM (aa (bB (aa cR (aa adP (aa adT aj)))) aj)))) aW)))))
   (ak (aF 5 ab7.nd (aK F_turn hr rfl (aa adG (aa adM aj))))
   (ao (aH (bB (aa (bJ cN rfl B.tuple_ cz (aa (bz rfl (b6 44 tH ["_law_word",acM,acY,acw] 3 [1]) (bR adM) (λcl pins s H C0 fp=>⟨(cI (n:=3) rfl (aG (aC 0 (n7 ["_law_word",acM,acY,acw])) (aG (aC 1 (n7 ["_law_word",acM,acY,acw])) (aG (aC 2 (n7 ["_law_word",acM,acY,acw])) bW)))),bK,(bB (aa adG (aa (aJ pA adJ adH) (aa (aJ pA adJ adI) aj))))⟩)) aj)) (aa adV aj)))))))))))),?_⟩
 walk_at "q";walk_at "h";have k':=eY.mk k;clear k;have w0:Wt d H3 H3 []:=⟨hC,Kep.refl,(λ_ h=>nomatch h)⟩;have w0:Wt d H3 H3 [(a,.lst (ws.map v1))]:=⟨hC,Kep.refl,λq F=>by rw[e_.mp F];exact⟨ha,nad⟩⟩;clear hC;have rg:cX 0 ws.length=(af ws.length).map λ(i:Nat)=>v0 (i:Int):=eZ _;walk_at "s";walk_at "n";walk_at "s";refine⟨adC,λz X=>?_⟩;have pp0:=w0.fresh X;have npa:a≠z:=bf ha X;have npo:o≠z:=bf ho X;have w1:=w0.new (o:=.lst []) X;have ho1:aY H3 z (.lst []) o=ab (.lst v):=by rw[aD npo];exact ho
 generalize aY H3 z (.lst [])=H4 at w1 ho1;clear w0 X ha;walk_at "n";walk_at "s";intro r U;have w2:=w1.new (o:=.lst v) U;have pe0:=w1.fresh U;have npe:z≠r:=bf w1.hd U;have nae:a≠r:=bf w1.tl.hd U;generalize aY H4 r (.lst v)=H5 at w2;clear w1 U ho1;walk_at "n";have pi0:PI d H3 H5 z r a ws [] v:=⟨⟨w2.cl,w2.kp,λq F=>w2.at' q (by simp only[n_,ZR,aba] at F |-;rcases F with h | h | h;exact .inr (.inl h);exact .inl h;exact .inr (.inr h))⟩,a6 npe,npa,adD,hes,by simp;omega,(λ_ h=>nomatch h)⟩;clear w2 pe0 npe nae;refine au λR3 hR3=>?_;walk_at "";refine⟨adF,adC,adC,?_⟩;try rw[rg]
 refine aN (λ(i:Nat)=>v0 (i:Int)) (af ws.length) (λA D H=>∃(ps:List (Bool × Nat × Nat)) (v:List T) (r:am) (v7 J:Option T),D=[ab (.ref d),ab (.ref a),ab (.ref o),ab (.int l),ab (.int (ws.length:Int)),ab (.ref z),ab (.ref r),v7,J,ae]/\PI d H3 H z r a ws ps v/\ps.Sublist (enm ag ws.length A)) ⟨[],v,r,_,_,rfl,pi0,abZ _⟩ ?_ ?_;rotate_left
 .rintro A i B D H N e ⟨ps,v,r,v7,J,rfl,c,b⟩ hN;walk_at "t";have hi:i<ws.length:=F_.mp (by rw[e];simp);have hM:=eY.mk hN;clear hN e pi0 k' hR3;walk_at "";refine⟨adF,adC,adC,?_⟩;try rw[rg]
  refine aN (λ(i:Nat)=>v0 (i:Int)) (af ws.length) (λA2 D H=>∃(ps:List (Bool × Nat × Nat)) (v:List T) (r:am) (J:Option T),D=[ab (.ref d),ab (.ref a),ab (.ref o),ab (.int l),ab (.int (ws.length:Int)),ab (.ref z),ab (.ref r),ab (.int (i:Int)),J,ae]/\PI d H3 H z r a ws ps v/\ps.Sublist (enm ag ws.length A++A2.map λj=>(ag,i,j))) ⟨ps,v,r,_,rfl,c,by rw[Z5,P_];exact b⟩ ?_ ?_
  .rintro D H ⟨ps,v,r,J,rfl,c,b⟩;exact⟨adF,hM.out _ _ ⟨ps,v,r,_,_,rfl,c,by rw[vH];exact b⟩⟩
  rintro A2 j B2 D H N2 e2 ⟨ps,v,r,J,rfl,c,b⟩ hN2;walk_at "t";have hj:j<ws.length:=F_.mp (by rw[e2];simp);have C:=eY.mk hN2;have Y:=xY (y:=(ag,i,j)) b;have G:=xZ (y:=(ag,i,j)) b;rw[y_,show [(ag,i,j)]=[j].map λj=>(ag,i,j) from rfl,<- v_] at Y G;clear hN2 e2 hM rg b;walk_at "";by_cases I:(i:Int)=(j:Int)
  .rw[A_ I];simp only[Z0,I_,Zj];exact C.out _ _ ⟨ps,v,r,_,rfl,c,G⟩
  rw[x_ I];simp only[aag,if_true];refine⟨.inl ⟨adD,adD⟩,d,_,rfl,adC,c.w.cl,λn H6 n0 n1 hD=>?_⟩;have u:=c.drw hD;clear c hD;have g1:=u.w.hd;have g2:=u.w.tl.hd;walk_at "";have R:=eY.mk (C.out [ab (.ref d),ab (.ref a),ab (.ref o),ab (.int l),ab (.int (ws.length:Int)),ab (.ref z),ab (.ref r),ab (.int (i:Int)),ab (.int (j:Int)),ae] H6 ⟨ps,v,r,_,rfl,u,G⟩);split
  .split
   .rename_i h12;have h12':ps.length<12:=by have:=Zw h12;omega
    have el:=u.el;have e1:ps.map pT3++[v2 [v1 (ee "with"),v0 (i:Int),v0 (j:Int)]]=(ps++[(ag,i,j)]).map pT3:=by rw[v_];rfl
    rw[e1];refine⟨⟨adF,adF⟩,adD,adC,adD,adD,adD,λq0 hq0=>?_⟩;have Z:aY H6 z (.lst ((ps++[(ag,i,j)]).map pT3)) r=ab (.lst v):=by rw[aD u.ne];exact g2
    rw[aD (bf Z hq0),Z,jA];refine⟨by rw[i_,i_,aaD];omega,λq F=>?_⟩;exact C.out _ _ ⟨ps++[(ag,i,j)],v++[v2 [v0 (i:Int),v0 (j:Int)],v2 [v0 (j:Int),v0 (i:Int)]],q,_,rfl,u.add pp0 h12' ⟨λh=>I (by have:i=j:=h;rw[this]),hi,hj⟩ hq0 F rfl rfl,Y⟩
   first | exact R.out | trivial
  first | exact R.out | trivial
 rintro D H ⟨ps,v,r,v7,J,rfl,c,b⟩;walk_at "t";clear pi0;walk_at "n";refine au λR4 hR4=>?_;have Z:=c.w.tl.hd;walk_at "";refine⟨ws.length,r,v,rfl,w8,Z,c.ea,λpt as H7 tb=>?_⟩;have S:Tq d H3 H7 pt ws.length as:=tb.tq c.w.cl c.w.kp;have npt:pt≠z:=a6 (bf c.w.hd tb.f0);have nas:∀x∈as,x≠z:=λx hx=>a6 (bf c.w.hd (tb.fa x hx));have pi1:=c.sub tb.sb;clear c tb Z;walk_at "n";refine au λR5 hR5=>?_;walk_at "";refine⟨adF,adC,adC,?_⟩;try rw[rg]
 refine aN (λ(i:Nat)=>v0 (i:Int)) (af ws.length) (λA D H=>∃(ps:List (Bool × Nat × Nat)) (v7 J:Option T),D=[ab (.ref d),ab (.ref a),ab (.ref o),ab (.int l),ab (.int (ws.length:Int)),ab (.ref z),ab (.ref r),v7,J,ab (.ref pt)]/\PI d H3 H z r a ws ps v/\Tq d H3 H pt ws.length as/\ps.Sublist (enm ag ws.length (af ws.length)++enm ah ws.length A)) ⟨ps,_,_,rfl,pi1,S,by rw[show enm ah ws.length []=[] from rfl,P_];exact b⟩ ?_ ?_;rotate_left
 .rintro A i B D H N e ⟨ps,v7,J,rfl,c,S,b⟩ hN;walk_at "t";have hi:i<ws.length:=F_.mp (by rw[e];simp);have hM:=eY.mk hN;clear hN e pi1 k' hR5;walk_at "";refine⟨adF,adC,adC,?_⟩;try rw[rg]
  refine aN (λ(i:Nat)=>v0 (i:Int)) (af ws.length) (λA2 D H=>∃(ps:List (Bool × Nat × Nat)) (J:Option T),D=[ab (.ref d),ab (.ref a),ab (.ref o),ab (.int l),ab (.int (ws.length:Int)),ab (.ref z),ab (.ref r),ab (.int (i:Int)),J,ab (.ref pt)]/\PI d H3 H z r a ws ps v/\Tq d H3 H pt ws.length as/\ps.Sublist (enm ag ws.length (af ws.length)++enm ah ws.length A++A2.map λj=>(ah,i,j))) ⟨ps,_,rfl,c,S,by rw[Z5,P_];exact b⟩ ?_ ?_
  .rintro D H ⟨ps,J,rfl,c,S,b⟩;exact⟨adF,hM.out _ _ ⟨ps,_,_,rfl,c,S,by rw[vH,<- y_];exact b⟩⟩
  rintro A2 j B2 D H N2 e2 ⟨ps,J,rfl,c,S,b⟩ hN2;walk_at "t";have hj:j<ws.length:=F_.mp (by rw[e2];simp);have C:=eY.mk hN2;have Y:=xY (y:=(ah,i,j)) b;have G:=xZ (y:=(ah,i,j)) b;rw[y_ (_++_),show [(ah,i,j)]=[j].map λj=>(ah,i,j) from rfl,<- v_] at Y G;clear hN2 e2 hM rg b;walk_at "";by_cases I:(i:Int)=(j:Int)
  .rw[A_ I];simp only[Z0,I_,Zj];exact C.out _ _ ⟨ps,_,rfl,c,S,G⟩
  rw[x_ I];simp only[aag,if_true];refine⟨d,_,rfl,adC,c.w.cl,λn H6 n0 n1 hD=>?_⟩;have u:=c.drw hD;have W:=S.drw hD;clear c hD S;have g1:=u.w.hd;have gt:=W.t;obtain⟨ri,bi,gi,hri,li,gri⟩:=W.at' hi;obtain⟨rj,bj,gj,hrj,lj,grj⟩:=W.at' hj;obtain⟨x1,gx1⟩:=oF (show j<bi.length by omega);obtain⟨x2,gx2⟩:=oF (show i<bj.length by omega);clear li lj;have R:=eY.mk (C.out [ab (.ref d),ab (.ref a),ab (.ref o),ab (.int l),ab (.int (ws.length:Int)),ab (.ref z),ab (.ref r),ab (.int (i:Int)),ab (.int (j:Int)),ab (.ref pt)] H6 ⟨ps,_,rfl,u,W,G⟩);have e1:ps.map pT3++[v2 [v1 (ee "apart"),v0 (i:Int),v0 (j:Int)]]=(ps++[(ah,i,j)]).map pT3:=by rw[v_];rfl
  have go:decide ((ps.length:Int)<12)=ag->N2 [ab (.ref d),ab (.ref a),ab (.ref o),ab (.int l),ab (.int (ws.length:Int)),ab (.ref z),ab (.ref r),ab (.int (i:Int)),ab (.int (j:Int)),ab (.ref pt)] (aY H6 z (O3.lst (si pT3 ps++[v2 [v1 (ee "apart"),v0 (i:Int),v0 (j:Int)]]))):=λh12=>by rw[e1];exact C.out _ _ ⟨ps++[(ah,i,j)],_,rfl,u.add1 pp0 (by have:=Zw h12;omega) ⟨λh=>I (by have:i=j:=h;rw[this]),hi,hj⟩,W.set npt nas,Y⟩
  have go':=eY.mk go;have l12:=u.l12;clear go e1;walk_at ""
  repeat' split
  all_goals first | exact R.out | exact⟨⟨adF,adF⟩,adD,adC,go'.out (by assumption)⟩ | trivial
 rintro D H ⟨ps,v7,J,rfl,c,S,b⟩;walk_at "t";clear pi1;walk_at "n";refine au λR6 hR6=>?_;have g1:=c.w.hd;have l12:=c.l12;walk_at "";refine⟨d,z,ps.map pT3,rfl,(c.w.at' _ k_).2,g1,Xe ps,by rw[b_];omega,c.w.cl,λys H8 q V hD F=>?_⟩;obtain⟨m,hp',rfl⟩:=jT V ps rfl;have nd':m.Nodup:=(hp'.nodup_iff).mpr ((Ld ⟨ws.length,adC⟩).sublist b);have ok':∀x∈m,x.2.1≠x.2.2/\x.2.1<ws.length/\x.2.2<ws.length:=λx hx=>c.ok x (hp'.mem_iff.mp hx);have l12':m.length<=12:=by rw[hp'.length_eq];exact l12
 have w9:=(c.w.drw hD).tl.tl.new (o:=.lst (m.map pT3)) F;have tq9:=(S.drw hD).new (o:=.lst (m.map pT3)) F;generalize aY H8 q (.lst (m.map pT3))=H9 at w9 tq9;clear hD F c S V hp' b g1 l12 rg;walk_at "n";have gq:=w9.hd;have gA:=w9.tl.hd;try dsimp only
 walk_at "";walk_at "c";refine iH (λx:Bool × Nat × Nat=>.str (bw x.1)) (λx=>.int (x.2.1:Int)) (λx=>.int (x.2.2:Int)) (λx=>prT (nmP ws x)) (λ_=>ag) m [ab (.ref a)] (.inl gq) adC (λx hx Q' F=>F) (λx hx _ Q' F=>?_) (λp hp=>?_)
 .have o:=ok' x hx;have a1:=getD_at o.2.1;have a2:=getD_at o.2.2;have hq':=eY.mk F;clear k' F;walk_at "";exact⟨adD,hq'.out⟩
 rw[show m.filter (λ_=>ag)=m from aa4.mpr λ_ _=>rfl] at *;rw[show m.map (λx=>prT (nmP ws x))=(m.map (nmP ws)).map prT by rw[X_];rfl];have w10:=w9.new (o:=.lst ((m.map (nmP ws)).map prT)) hp;have tq10:=tq9.new (o:=.lst ((m.map (nmP ws)).map prT)) hp;generalize aY H9 p (.lst ((m.map (nmP ws)).map prT))=H10 at w10 tq10;walk_at "";exact⟨adD,lu.of bc.refl (k'.out (m.map (nmP ws)) pt as H10 (by rw[b_];exact l12') (Tr hws.nd nd' ok') (λx hx=>by obtain⟨y,hy,rfl⟩:=l_.mp hx;exact Tt hws.nd (ok' y hy)) w10.cl w10.kp tq10)⟩
abbrev lN:List ai:=["_law_size",adn,acw,"_law_letters",acX,"_law_turn_here","_law_left",acF,acG]
theorem nW:eG lN ["_law_size",adn,acw] (aB (top 39)):=bx
theorem tK (g:G3 K mg "_law_free_name" (top 39) ["_law_size",adn,acw] f fd) (B:Bl mg):mY P w K mg base 1 "_law_free_name" (top 39) ["_law_size",adn,acw] Xa:=by
 refine c6 g nW ?_;rintro _ A _ s H _ _ H3 _ hr ⟨d,b,a,ws,rfl,s1,s8,ha,hl,k⟩;have I:=mX.u30 hr;have J:=mX.u31 hr;refine⟨_,(ak (aF 3 nW.nd cR)
   (ak (aF 4 nW.nd cR)
   (ak (aZ q_ rfl (aO rfl B.range_ (aa (aL bh (aM bH rfl B.len_ bI (aa adI aj)) aq) aj)) (aC 5 nW.nd) (ak (aF 6 nW.nd (aL bh adH adM))
    (ak (aF 7 nW.nd cR)
    (ak (aZ q_ rfl (aO rfl B.range_ (aa adG aj)) (aC 8 nW.nd) (ak (aF 7 nW.nd (aL bh adP (aJ pA adJ (aL eV adO aq))))
     (ao (aF 6 nW.nd (aL f9 adO aq)))))
    (ao (bD (PW3.pt (cT (aP (cY I) adK cR) (cM (aP (iz J) adP adI rfl)))) (ao (aF 4 nW.nd adP)) aW))))))
   (ao (aH adK))))),?_⟩
 walk_at "q";walk_at "h";have al:(mkS lV).length<=ap:=by rw[d9];decide
 have k':=eY.mk k;clear k;have S:("":ai)=mkS []:=by decide +kernel
 walk_at "s";simp only[Gw];walk_at "n";walk_at "s";walk_at "n";refine au λR2 hR2=>?_;walk_at "";refine⟨by first | trivial | omega,adC,adC,?_⟩;rw[show cX 0 ((ws.length:Int)+1).toNat=(af (ws.length+1)).map (λ(i:Nat)=>v0 (i:Int)) by rw[show ((ws.length:Int)+1).toNat=ws.length+1 by omega];exact eZ _];refine aN (λ(i:Nat)=>v0 (i:Int)) (af (ws.length+1)) (λA z H=>∃(m:ai) (Z V R y:Option T),z=[ab (.int (d:Int)),ab (.int b),ab (.ref a),ab (.str (mkS lV)),ab (.str m),Z,V,R,y]/\H3=H/\((m=""/\∀i∈A,mkS (dg d (b+i))∈ws)\/(isNm m/\m∉ws))) ⟨"",_,_,_,_,rfl,rfl,.inl ⟨rfl,(λ_ h=>nomatch h)⟩⟩ ?_ ?_
 .rintro z H ⟨m,Z,V,R,y,rfl,rfl,u⟩;walk_at "t";walk_at "n";walk_at "";rcases u with ⟨_,p⟩ | ⟨h1,h2⟩
  .exfalso;obtain⟨n,rfl⟩:∃n,d=n+1:=⟨d - 1,adC⟩;exact pig ws (λi=>mkS (dg (n+1) (b+i))) (λi j hi G h=>Tn adC adC h) λi hi=>p i (F_.mpr adC)
  exact lu.of bc.refl (k'.out m h1 h2)
 rintro A i B z H N e ⟨m,Z,V,R,y,rfl,rfl,u⟩ hN;walk_at "t";have t:=eY.mk hN;have o:=eY.mk u;clear hN u e k' hR2;walk_at "s";walk_at "n";walk_at "s";walk_at "n";refine au λR5 Y=>?_;walk_at "";refine⟨by first | trivial | omega,adC,adC,?_⟩;have F:(cX 0 d).length=d:=by unfold cX;rw[b_,p_]
 generalize cX 0 d=ts0 at F;try rw[S]
 refine mD (λr z H=>∃(l:List Nat) (D:Int) (y:Option T),z=[ab (.int (d:Int)),ab (.int b),ab (.ref a),ab (.str (mkS lV)),ab (.str m),ab (.int (i:Int)),ab (.int D),ab (.str (mkS l)),y]/\l++dg r.length D=dg d (b+i)/\l.length+r.length=d/\H3=H) ⟨[],b+i,_,rfl,by rw[F];rfl,by rw[F];exact aaG _,rfl⟩ ?_ ?_
 .rintro z H ⟨l,D,y,rfl,c,v,rfl⟩;walk_at "t";rw[aaD,dg,P_] at c;subst c;walk_at "n";walk_at "";have O:isNm (mkS (dg d (b+(i:Int)))):=Oh (by rw[xX];omega) (by rw[xX];omega) (Oo _ _);by_cases q:m=mkS []
  .rw[A_ q,aca rfl];refine⟨rfl,dJ ws,?_⟩;split
   .rename_i X;exact t.out _ _ ⟨_,_,_,_,_,rfl,rfl,.inr ⟨O,(Sy gZ (x:=mkS (dg d (b+(i:Int))))).mp X⟩⟩
   rename_i X;have W:mkS (dg d (b+(i:Int)))∈ws:=hh λh=>X ((Sy gZ).mpr h);rcases o.out with ⟨_,p⟩ | h
   .exact t.out _ _ ⟨m,_,_,_,_,rfl,rfl,.inl ⟨q.trans S.symm,λj G=>by
     rcases t_.mp G with G | G
     ·
      exact p j G
     ·
      rw[e_.mp G];exact W⟩⟩
   exact t.out _ _ ⟨m,_,_,_,_,rfl,rfl,.inr h⟩
  rw[x_ q,ace B_];rcases o.out with ⟨h,_⟩ | h
  .exact ach (h.trans S) q
  exact t.out _ _ ⟨m,_,_,_,_,rfl,rfl,.inr h⟩
 rintro x r z H N2 ⟨l,D,y,rfl,c,v,rfl⟩ L;walk_at "t";rw[i_] at c v;rw[dg] at c;have hM:=eY.mk L;have C:=eY.mk c;have hpl':l.length<8:=adC
 have M:=eY.mk v;have U:=Gx (D%26) (Z9 _ adD) (Z8 _ adD);clear L t o Y c v;walk_at "";simp only[fB,U,iD];walk_at "";rw[show (⟨#[97+(D%26).toNat]⟩:ai)=mkS [97+(D%26).toNat] from rfl];refine⟨adD,al,by rw[d9,d9];simp only[M_];omega,⟨adD,adx⟩,?_⟩;rw[sH];exact hM.out _ _ ⟨_,_,_,rfl,by rw[y_];exact C.out,by rw[a_,M_];have:=M.out;omega,rfl⟩
abbrev tL:List ai:=[ack,acA,"_law_letters",acX,acG,"_law_base","_law_at_here","_law_spot"]
theorem acz:eG tL [ack,acA] (aB (top 40)):=bx
theorem Hx (g:G3 K mg "_law_names" (top 40) [ack,acA] f fd) (B:Bl mg) (a:mY P w K mg base 1 ac1 (top 37) [ack,acD] oA) (c:mY P w K mg base 1 "_law_free_name" (top 39) ["_law_size",adn,acw] Xa):mY P w K mg base 2 "_law_names" (top 40) [ack,acA] Xb:=by
 refine c6 g acz ?_;rintro _ A _ s H _ _ H3 _ r ⟨d,m,rfl,m1,m8,hC,k⟩;refine⟨_,(ak (aF 2 acz.nd cR)
   (ak (aF 3 acz.nd (bL aj))
   (ak (bD (aP uD (aK a r rfl (aa adG (aa aq aj))) aq) (ak (aZ q_ rfl (aO rfl B.range_ (aa adH aj)) (aC 4 acz.nd) (ao (bQ (di N_ Q_ R_ bC adJ (aa (aK c r rfl (aa (aL bh aq (aK a r rfl (aa adG (aa aq aj)))) (aa (aK a r rfl (aa adG (aa (aL gW aq aq) aj))) (aa adJ aj)))) aj)))))
    (ao (aH adJ))) aW)
   (ak (aF 5 acz.nd (aK c r rfl (aa (aL bh aq (aK a r rfl (aa adG (aa aq aj)))) (aa (aK a r rfl (aa adG (aa (aL gW aq aq) aj))) (aa (bL aj) aj)))))
   (ak (aF 6 acz.nd (aK a r rfl (aa adG (aa (aM bH rfl B.len_ bI (aa adM aj)) aj))))
   (ak (aF 7 acz.nd (di PySem.F.plainAttrs_str PySem.F.slot_str_index PySem.F.type_str_index Ec adI (aa (aJ pA adM adO) aj)))
   (ao (aH (bz rfl (b6 40 tL [acG,"_law_base","_law_letters","_law_at_here","_law_spot"] 1 [5,2,6,7]) (aO rfl B.range_ (aa adH aj)) (λcl pins s H C0 fp=>⟨(aC 0 (n7 [acG,"_law_base","_law_letters","_law_at_here","_law_spot"])),bK,(aL bh (aL bh (iC adH iB (fP adJ)) (aJ pA adI (aL eV (aL bh adK adG) aq))) (iC adH (fP (aL bh adJ aq)) iB))⟩)))))))))),?_⟩
 walk_at "q";walk_at "h";have al:(mkS lV).length<=ap:=by rw[d9];decide
 have M:=eY.mk k;clear k;have S:Wt d H3 H3 []:=⟨hC,Kep.refl,(λ_ h=>nomatch h)⟩;clear hC;walk_at "s";simp only[Gw];walk_at "n";walk_at "s";refine⟨adC,λI q=>?_⟩;have f0:=S.fresh q;have npd:=S.cl.ne q;have R:=S.new (o:=.lst []) q;generalize aY H3 I (.lst [])=H4 at R;clear S q;walk_at "n";refine au λR2 hR2=>?_;walk_at "";refine⟨d,3,rfl,adD,R.cl,λway H5 y0 y1 z=>?_⟩;have y:=R.drw z;clear R z;walk_at "";have rg:cX 0 m=(af m).map λ(i:Nat)=>v0 (i:Int):=eZ m;by_cases hw:0<way
 .rw[A_ hw,aca rfl];clear hR2;refine⟨by first | trivial | omega,adC,adC,?_⟩;try rw[rg]
  refine aN (λ(i:Nat)=>v0 (i:Int)) (af m) (λA σ H=>∃(ws:List ai) (v4:Option T),σ=[ab (.ref d),ab (.int (m:Int)),ab (.str (mkS lV)),ab (.ref I),v4,ae,ae,ae]/\Nms ws/\ws.length=A.length/\Wt d H3 H [(I,.lst (ws.map v1))]) ⟨[],_,rfl,Nms.nil,rfl,y⟩ ?_ ?_
  .rintro σ H ⟨ws,v4,rfl,W,O,w⟩;walk_at "t";rw[p_] at O;clear y;walk_at "";exact gJ w.cl w.kp w.hd f0 npd λH1 z h1=>M.out ws H1 I O W z h1
  rintro A i B σ H N e ⟨ws,v4,rfl,W,O,w⟩ hN;walk_at "t";have hA:A.length<8:=by have:=T_ aT e;simp only[a_,i_,p_] at this;omega
  have Y:=eY.mk hN;have g:=w.hd;clear hN e M y;walk_at "";refine⟨⟨adF,adF⟩,d,8,rfl,adD,w.cl,λU H6 p0 p1 n=>?_⟩;have t:=w.drw n;clear w g n;walk_at "";refine⟨⟨adD,adD,adD⟩,d,_,rfl,adD,t.cl,λn2 H7 q0 q1 j=>?_⟩;have G:=t.drw j;have g4:=G.hd;clear t j;try dsimp only
  refine⟨(1+U).toNat,n2,I,ws,by rw[aa2 adC],adC,adC,g4,adC,λx J hnx=>?_⟩;walk_at "";refine⟨adC,Y.out _ _ ⟨ws++[x],_,rfl,W.snoc J hnx,by rw[a_,a_,O];rfl,?_⟩⟩;have v:=G.set f0 (λ_ h=>nomatch h) (.lst (ws.map v1++[v1 x]));rw[v_];exact v
 rw[x_ hw,ace B_];walk_at "n";walk_at "s";refine⟨d,8,rfl,adD,y.cl,λU H6 p0 p1 n=>?_⟩;have t:=y.drw n;clear y n;walk_at "";refine⟨⟨adD,adD,adD⟩,d,_,rfl,adD,t.cl,λn2 H7 q0 q1 j=>?_⟩;have G:=t.drw j;clear t j;refine⟨adC,λpe C=>?_⟩;have v:=G.new (o:=.lst []) C;have ge:=v.hd;generalize aY H7 pe (.lst [])=H8 at v ge;clear G C;refine⟨(1+U).toNat,n2,pe,[],by rw[aa2 adC],adC,adC,ge,adD,λx J _=>?_⟩;have w6:=v.tl;clear v ge;obtain⟨l,rfl⟩:=S7 x;have e1:=J.lo;have e2:=J.hi;have X:=J.az;rw[d9] at e1 e2;rw[fB] at X;have ml:=d9 l;walk_at "n";walk_at "s";refine⟨by first | trivial | omega,d,_,rfl,adC,w6.cl,λn3 H9 r0 r1 D=>?_⟩;have w7:=w6.drw D;clear w6 D;obtain⟨b,rfl⟩:∃b:Nat,n3=(b:Int):=⟨n3.toNat,adC⟩;have u:b<l.length:=adC
 walk_at "n";refine au λR5 hR5=>?_;have ga:atI l (b:Int)=ab l[b]:=bM (g_ u);have gz:=X _ (Zt u);generalize l[b]=ch at ga gz;have L:=S8 ch gz.1 gz.2;walk_at "";refine⟨adF,adC,?_⟩;rw[fB,ga,iD,show (⟨#[ch]⟩:ai)=mkS [ch] from rfl,L];clear ga L;walk_at "";walk_at "n";walk_at "";refine⟨by first | trivial | omega,adC,adC,?_⟩;try rw[rg]
 walk_at "c";refine bZ (λ(i:Nat)=>v0 (i:Int)) (λi=>.str (nmK l b (ch - 97) i)) (af m) [ab (.str (mkS l)),ab (.str (mkS lV)),ab (.int (b:Int)),ab (.int ((ch - 97:Nat):Int))] trivial (by rw[p_];omega) (λi hi Q' hq=>?_) (λp V=>?_)
 .have hch:=Gx ((((ch - 97:Nat):Int)+(i:Int))%26) (Z9 _ adD) (Z8 _ adD);have st:=W6 l b adC;have sf:=K1 l (b+1) adC;rw[show ((b+1:Nat):Int)=(b:Int)+1 by omega] at sf;have hq':=eY.mk hq;clear M hq rg;walk_at "";refine⟨adC,adD,by rw[d9];decide,?_⟩;rw[fB,hch,iD,show (⟨#[97+((((ch - 97:Nat):Int)+(i:Int))%26).toNat]⟩:ai)=mkS [97+((((ch - 97:Nat):Int)+(i:Int))%26).toNat] from rfl];rw[sH,sH];simp only[d9,a_,Zm,Zr,M_];exact⟨adC,adC,adC,hq'.out⟩
 have el:(af m).map (λi=>v1 (nmK l b (ch - 97) i))=((af m).map (nmK l b (ch - 97))).map v1:=by rw[X_];rfl
 rw[el];have Z:=w7.new (o:=.lst (((af m).map (nmK l b (ch - 97))).map v1)) V;exact gJ Z.cl Z.kp Z.hd (w7.fresh V) (w7.cl.ne V) λH1 z h1=>M.out _ H1 p (by rw[b_,p_]) (La e2 u X m8) z h1
abbrev ji:List ai:=[ack,acA,"_law_way","_law_base"]
theorem acZ:eG ji [ack,acA] (aB (top 42)):=bx
theorem yp (g:G3 K mg "_law_lengths" (top 42) [ack,acA] f fd) (B:Bl mg) (a:mY P w K mg base 1 ac1 (top 37) [ack,acD] oA) (c:mY P w K mg base 2 "_law_great" (top 38) [ack,acD] Ti):mY P w K mg base 3 "_law_lengths" (top 42) [ack,acA] W8:=by
 refine c6 g acZ ?_;rintro _ A _ s H _ _ H3 _ r ⟨d,m,rfl,hm,hC,k⟩;have R:=mX.u30 r;refine⟨_,(ak (aF 2 acZ.nd (aK a r rfl (aa adG (aa aq aj))))
   (ak (bD (aP (cY R) adI aq) (ao (aH (bz rfl (b6 42 ji [acG,ack] 1 [0]) (aO rfl B.range_ (aa adH aj)) (λcl L s H C0 fp=>⟨(aC 0 (n7 [acG,ack])),bK,(aL bh aq (aK c r rfl (aa adH (aa (aL kI (aL gW aq aq) aq) aj))))⟩)))) aW)
   (ak (aF 3 acZ.nd (aL bh aq (aK c r rfl (aa adG (aa (aJ pA (bL (aa aq (aa aq (aa (aL gW aq aq) aj)))) (aL kI adI aq)) aj)))))
   (ao (aH (bz rfl (b6 42 ji [acG,"_law_base",ack] 1 [3,0]) (aO rfl B.range_ (aa adH aj)) (λcl L s H C0 fp=>⟨(aC 0 (n7 [acG,"_law_base",ack])),bK,(aL bh (aL iw adH (aL bh aq (aK a r rfl (aa adI (aa aq aj))))) (aL f9 (aK a r rfl (aa adI (aa aq aj))) aq))⟩))))))),?_⟩
 walk_at "q";walk_at "h";have V:=eY.mk k;clear k;have w0:Wt d H3 H3 []:=⟨hC,Kep.refl,(λ_ h=>nomatch h)⟩;clear hC;walk_at "s";refine⟨d,4,rfl,adD,w0.cl,λt H4 y0 y1 u=>?_⟩;have U:=w0.drw u;clear w0 u;walk_at "n";refine au λR1 Z=>?_;walk_at "";have rg:cX 0 m=(af m).map λ(i:Nat)=>v0 (i:Int):=eZ m;by_cases hw:t=0
 .rw[A_ hw,aca rfl];clear Z;refine⟨adF,adC,adC,?_⟩;try rw[rg]
  walk_at "c";refine dU (λ(i:Nat)=>v0 (i:Int)) (af m) (λA C D H=>∃(j:List Int) (v:Option T),D=[v,ab (.ref d)]/\C=j.map v0/\j.length=A.length/\(∀l∈j,1<=l/\l<10^60)/\Wt d H3 H []) ⟨[],_,rfl,rfl,rfl,(λ_ h=>nomatch h),U⟩ ?_ ?_
  .rintro C D H ⟨j,v,rfl,rfl,z,r,w⟩;rw[p_] at z;refine⟨adF,by rw[b_];omega,λp x=>?_⟩;have q:=w.new (o:=.lst (j.map v0)) x;exact gJ q.cl q.kp q.hd (w.fresh x) (w.cl.ne x) λH1 u W=>V.out j H1 p z r u W
  rintro A i B C D H N e ⟨j,v,rfl,rfl,z,r,w⟩ S;walk_at "t";have hA:A.length<8:=by have:=T_ aT e;simp only[a_,i_,p_] at this;omega
  have F:=eY.mk S;clear S e V U;walk_at "";refine⟨⟨adD,adD,adD⟩,d,_,rfl,by rw[t60];decide,w.cl,λn H5 n0 I u=>?_⟩;rw[t60] at I;walk_at "";refine⟨adC,F.out _ _ _ ⟨j++[1+n],_,rfl,by rw[v_];rfl,by rw[a_,a_,z];rfl,λl G=>?_,w.drw u⟩⟩;rcases t_.mp G with h | h
  .exact r l h
  rw[e_.mp h,W9];omega
 rw[x_ hw,ace B_];walk_at "n";walk_at "s";refine⟨⟨adD,adD,adD⟩,adD,λp x=>?_⟩;obtain⟨b,y,M⟩:=uM ([1,9,10^df 58]:List Int) (t - 1) adC (by show t - 1<3;omega);have O:atI [v0 1,v0 9,v0 (10^df 58)] (t - 1)=ab (v0 b):=by have:=nG v0 ([1,9,10^df 58]:List Int) (t - 1);rw[M] at this;exact this
 have hb0:1<=b/\b<=10000000000000000000000000000000000000000000000000000000000:=by rw[t58] at y;simp only[n_,ZR,aba] at y;rcases y with h | h | h <;> omega
 rw[O,iD];have q:=(U.new (o:=.lst [v0 1,v0 9,v0 (10^df 58)]) x).tl;generalize aY H4 p (.lst [v0 1,v0 9,v0 (10^df 58)])=H5 at q;clear U x O M y;refine⟨d,b,rfl,adC,q.cl,λn H6 n0 I u=>?_⟩;have w3:=q.drw u;clear q u;have u0:1<=1+n:=adC
 have u1:1+n<=10000000000000000000000000000000000000000000000000000000000:=adC
 try dsimp only
 walk_at "";generalize 1+n=J at u0 u1;walk_at "n";walk_at "";refine⟨by first | trivial | omega,adC,adC,?_⟩;try rw[rg]
 walk_at "c";refine dU (λ(i:Nat)=>v0 (i:Int)) (af m) (λA C D H=>∃(j:List Int) (v:Option T),D=[v,ab (.int J),ab (.ref d)]/\C=j.map v0/\j.length=A.length/\(∀l∈j,1<=l/\l<10^60)/\Wt d H3 H []) ⟨[],_,rfl,rfl,rfl,(λ_ h=>nomatch h),w3⟩ ?_ ?_
 .rintro C D H ⟨j,v,rfl,rfl,z,r,w⟩;rw[p_] at z;refine⟨adF,by rw[b_];omega,λp x=>?_⟩;have q:=w.new (o:=.lst (j.map v0)) x;exact gJ q.cl q.kp q.hd (w.fresh x) (w.cl.ne x) λH1 u W=>V.out j H1 p z r u W
 rintro A i B C D H N e ⟨j,v,rfl,rfl,z,r,w⟩ S;walk_at "t";have hA:A.length<8:=by have:=T_ aT e;simp only[a_,i_,p_] at this;omega
 have F:=eY.mk S;clear S e V w3;walk_at "";refine⟨d,9,rfl,adD,w.cl,λI H7 p0 p1 Y=>?_⟩;have q:=w.drw Y;walk_at "";refine⟨.inr ⟨adC,adC⟩,d,5,rfl,adD,q.cl,λn2 H8 q0 q1 X=>?_⟩;have w4:=q.drw X;walk_at "";refine⟨⟨adD,adx⟩,adC,F.out _ _ _ ⟨j++[J*(1+I)+n2 / 3],_,rfl,by rw[v_];rfl,by rw[a_,a_,z];rfl,λl G=>?_,w4⟩⟩;rcases t_.mp G with h | h
 .exact r l h
 rw[e_.mp h,W9];have m1:J*(1+I)<=J*9:=fo adC adC;have m2:J*1<=J*(1+I):=fo adC adC;omega
abbrev j5:List ai:=[ack,acD,"_law_stands",acw,acA,"_law_turn_here",ado,"_law_lots",acM,acY,"_law_pairs_here",ac_,acI,"_law_row","_law_some",ac0,adc]
theorem rz:eG j5 [ack,acD,"_law_stands"] (aB (top 47)):=bx
theorem Hy (g:G3 K mg "_law_works" (top 47) [ack,acD,"_law_stands"] f fd) (B:Bl mg) (G:mY P w K mg base 2 "_law_names" (top 40) [ack,acA] Xb) (b:mY P w K mg base 1 ac1 (top 37) [ack,acD] oA) (L:mY P w K mg base 2 "_law_turn" (top 41) [ack,adi] K7) (S:mY P w K mg base 3 "_law_pairs" (top 44) [ack,acw,ado,"_law_lots"] Xd) (Y:mY P w K mg base 4 "_law_kinds" (top 46) [ack,"_law_row",acw,ac_] Xg) (J:mY P w K mg base 3 "_law_lengths" (top 42) [ack,acA] W8):mY P w K mg base 5 "_law_works" (top 47) [ack,acD,"_law_stands"] Xj:=by
 refine c6 g rz ?_;rintro _ A _ s H _ _ H3 _ I ⟨d,t,st,rfl,m1,m8,s1,s8,hC,k⟩;have hu30:=mX.u30 I;refine⟨_,(ak (aF 3 rz.nd (aK G I rfl (aa adG (aa (aL bh aq (aK b I rfl (aa adG (aa adH aj)))) aj))))
   (ak (aF 4 rz.nd (aM bH rfl B.len_ bI (aa adJ aj)))
   (ak (aF 5 rz.nd (aK L I rfl (aa adG (aa (Fp rfl rfl B.list_ rfl B.range_ adK) aj))))
   (ak (aF 6 rz.nd (bL aj))
   (ak (aF 7 rz.nd (aL bh aq (aK b I rfl (aa adG (aa aq aj)))))
   (ak (aZ q_ rfl (aO rfl B.range_ (aa adK aj)) (aC 8 rz.nd) (ao (aZ q_ rfl (Bt rfl B.range_ (aa (aL bh adT aq) (aa adK aj))) (aC 9 rz.nd) (ao (bD (aP (cY hu30) (aK b I rfl (aa adG (aa adP aj))) aq) (ao (bQ (di N_ Q_ R_ bC adO (aa (bB (aa (aJ pA adM adT) (aa (aJ pA adM adV) aj))) aj)))) aW)))))
   (ak (aF 6 rz.nd (aK L I rfl (aa adG (aa adO aj))))
   (ak (Dv (aK S I rfl (aa adG (aa adJ (aa adO (aa (aL bh aq (aK b I rfl (aa adG (aa aq aj)))) aj))))) (cI (n:=2) rfl (aG (aC 10 rz.nd) (aG (aC 11 rz.nd) bW))))
   (ak (aF 12 rz.nd (aK G I rfl (aa adG (aa (aL bh aq (aK b I rfl (aa adG (aa aq aj)))) aj))))
   (ak (rE (i:=13) rfl rz.nd (b6 47 j5 [acG,acI,ack] 1 [12,0]) (aO rfl B.range_ (aa (aL bh aq (aK b I rfl (aa adG (aa adI aj)))) aj)) (λcl pins s H C0 fp=>⟨(aC 0 (n7 [acG,acI,ack])),bK,(aJ pA adH (aK b I rfl (aa adI (aa (aM bH rfl B.len_ bI (aa adH aj)) aj))))⟩))
   (ak (aF 14 rz.nd (aK Y I rfl (aa adG (aa (v3 13) (aa (v3 12) (aa (v3 11) aj))))))
   (ak (aF 15 rz.nd (aK J I rfl (aa adG (aa adK aj))))
   (ak (aF 16 rz.nd (bJ cN rfl B.tuple_ cz (aa (bz rfl (b6 47 j5 [acG,acw,ac0,"_law_some"] 1 [3,15,14]) (aO rfl B.range_ (aa adK aj)) (λcl pins s H C0 fp=>⟨(aC 0 (n7 [acG,acw,ac0,"_law_some"])),bK,(bB (aa (aJ pA adH adG) (aa (aJ pA adI adG) (aa (aJ pA adJ adG) aj))))⟩)) aj)))
   (ao (aH (bB (aa (v3 16) (aa (bJ cN rfl B.tuple_ cz (aa (bz rfl (b6 47 j5 [acM,acY,acw] 2 [3]) (bR adO) (λcl pins s H C0 fp=>⟨(cI (n:=2) rfl (aG (aC 0 (n7 [acM,acY,acw])) (aG (aC 1 (n7 [acM,acY,acw])) bW))),bK,(bB (aa (aJ pA adI adG) (aa (aJ pA adI adH) aj)))⟩)) aj)) (aa (v3 10) (aa (bJ cN rfl B.tuple_ cz (aa (v3 13) aj)) aj)))))))))))))))))))),?_⟩
 walk_at "q";walk_at "h";have k':=eY.mk k;clear k;have w0:Wt d H3 H3 []:=⟨hC,Kep.refl,(λ_ h=>nomatch h)⟩;clear hC;walk_at "s";refine⟨d,t,rfl,adC,w0.cl,λn0 H4 a0 a1 hD0=>?_⟩;have w1:=w0.drw hD0;clear w0 hD0;walk_at "";refine⟨d,(1+n0).toNat,by rw[aa2 adC],adC,adC,w1.cl,λws H5 M hwl hws hD1 hpn=>?_⟩;have w2:=(w1.drw hD1).new (o:=.lst (ws.map v1)) hpn;generalize aY H5 M (.lst (ws.map v1))=H6 at w2;clear w1 hD1 hpn;have ws1:1<=ws.length:=adC
 have ws8:ws.length<=8:=adC
 have wsm:(ws.length:Int)<=t:=adC
 clear hwl a0 a1;walk_at "n";refine au λR1 hR1=>?_;have gn:=w2.hd;walk_at "";walk_at "n";walk_at "s";refine⟨⟨adC,adC⟩,λq1 hq1=>?_⟩;have w3:=w2.new (o:=.lst ((af ws.length).map λ(k:Nat)=>v0 (k:Int))) hq1;have gq1:=w3.hd;generalize aY H6 q1 (.lst ((af ws.length).map λ(k:Nat)=>v0 (k:Int)))=H7 at w3 gq1;clear w2 hq1 gn;try dsimp only
 refine⟨d,q1,_,rfl,(w3.at' _ k_).2,gq1,Xl _,by rw[b_,p_];omega,w3.cl,λys H8 pt C hD2 hpt=>?_⟩;obtain⟨c,htv,rfl⟩:=jT C _ rfl;have tvl:c.length=ws.length:=by rw[htv.length_eq,p_]
 have tvn:c.Nodup:=htv.nodup_iff.mpr i6;have tvm:∀x∈c,x<ws.length:=λx hx=>F_.mp (htv.mem_iff.mp hx);have w4:=(w3.drw hD2).tl.new (o:=.lst (c.map λ(k:Nat)=>v0 (k:Int))) hpt;generalize aY H8 pt (.lst (c.map λ(k:Nat)=>v0 (k:Int)))=H9 at w4;clear w3 hD2 hpt gq1 C htv;walk_at "n";walk_at "s";refine⟨adC,λpo U=>?_⟩;have po0:=w4.fresh U;have nto:pt≠po:=bf w4.hd U;have nno:M≠po:=bf w4.tl.hd U;have w5:=w4.new (o:=.lst []) U;generalize aY H9 po (.lst [])=H10 at w5;clear w4 U;walk_at "n";walk_at "s";refine⟨d,6,rfl,adD,w5.cl,λn1 H11 b0 b1 hD3=>?_⟩;have w6:=w5.drw hD3;clear w5 hD3;have lo0:3<=3+n1:=adC
 have lo1:3+n1<=8:=adC
 walk_at "";generalize 3+n1=V at lo0 lo1;walk_at "n";refine au λR5 hR5=>?_;walk_at "";refine⟨by first | trivial | omega,adC,adC,?_⟩;rw[eZ];refine aN (λ(i:Nat)=>v0 (i:Int)) (af ws.length) (λA W H=>∃(F:List (Nat × Nat)) (v8 v9:Option T),W=[ab (.ref d),ab (.int t),ab (.int st),ab (.ref M),ab (.int (ws.length:Int)),ab (.ref pt),ab (.ref po),ab (.int V),v8,v9,ae,ae,ae,ae,ae,ae,ae]/\Wt d H3 H [(po,.lst (F.map (oT c))),(pt,.lst (c.map λ(k:Nat)=>v0 (k:Int))),(M,.lst (ws.map v1))]/\F.Sublist (tri ws.length A)) ⟨[],_,_,rfl,w6,abZ _⟩ ?_ ?_;rotate_left
 .rintro A i B W H N e ⟨F,v8,v9,rfl,w,a⟩ hN;walk_at "t";have hi:i<ws.length:=F_.mp (by rw[e];simp);have hM:=eY.mk hN;have hAl:(tri ws.length A).length<=64:=by
   have h1:=qL e;have h2:A.length<=8:=by have:=T_ aT e;simp only[a_,i_,p_] at this;omega
   have h3:∀(A:List Nat),(tri ws.length A).length<=8*A.length:=λA=>by
    induction A with
    |nil=>exact m_ _
    |cons x r ih =>
     have e3:tri ws.length (x::r)=(eW (x+1) (ws.length - (x+1))).map (λj=>(x,j))++tri ws.length r:=rfl
     rw[e3,a_,b_,m3,i_]
     omega
   have:=h3 A;omega
  clear hN e w6 k' hR5;walk_at "";refine⟨by first | trivial | omega,⟨adC,adC,adC,adC⟩,?_⟩;rw[Xk];refine aN (λ(j:Nat)=>v0 (j:Int)) (eW (i+1) (ws.length - (i+1))) (λA2 W H=>∃(F:List (Nat × Nat)) (v9:Option T),W=[ab (.ref d),ab (.int t),ab (.int st),ab (.ref M),ab (.int (ws.length:Int)),ab (.ref pt),ab (.ref po),ab (.int V),ab (.int (i:Int)),v9,ae,ae,ae,ae,ae,ae,ae]/\Wt d H3 H [(po,.lst (F.map (oT c))),(pt,.lst (c.map λ(k:Nat)=>v0 (k:Int))),(M,.lst (ws.map v1))]/\F.Sublist (tri ws.length A++A2.map λj=>(i,j))) ⟨F,_,rfl,w,by rw[Z5,P_];exact a⟩ ?_ ?_
  .rintro W H ⟨F,v9,rfl,w,a⟩;exact⟨adF,hM.out _ _ ⟨F,_,_,rfl,w,by rw[GP];exact a⟩⟩
  rintro A2 j B2 W H N2 e2 ⟨F,v9,rfl,w,a⟩ hN2;walk_at "t";have hj:=List.mem_range'_1.mp (show j∈eW (i+1) (ws.length - (i+1)) by rw[e2];simp);have hN':=eY.mk hN2;have hs1:=xY (y:=(i,j)) a;have hs2:=xZ (y:=(i,j)) a;rw[y_,show [(i,j)]=[j].map λj=>(i,j) from rfl,<- v_] at hs1 hs2;have hA2:A2.length<8:=by have:=T_ aT e2;simp only[a_,i_,m3] at this;omega
  have hol:F.length<=100:=by have h1:=a.length_le;have h2:=(Aa ⟨ws.length,adC⟩);have h3:(tri ws.length A).length<=64:=hAl;rw[a_,b_] at h1;omega
  clear hN2 e2 hM a;walk_at "";refine⟨d,V,rfl,adC,w.cl,λn H12 c0 c1 hD=>?_⟩;have w7:=w.drw hD;have go':=w7.hd;have gt':=w7.tl.hd;have x1:=Ot (show i<c.length by omega);have x2:=Ot (show j<c.length by omega);clear w hD;have tvl':=eY.mk tvl;clear tvl;walk_at "";split
  .have em:F.map (oT c)++[v2 [v0 ((c.getD i 0:Nat):Int),v0 ((c.getD j 0:Nat):Int)]]=(F++[(i,j)]).map (oT c):=by rw[v_];rfl
   rw[em];refine⟨⟨adF,adF⟩,adD,adC,hN'.out _ _ ⟨F++[(i,j)],_,rfl,w7.set po0 (λq hq=>?_) _,hs1⟩⟩;rcases n_.mp hq with rfl | hq
   .exact nto
   rw[e_.mp hq];exact nno
  exact hN'.out _ _ ⟨F,_,rfl,w7,hs2⟩
 rintro W H ⟨F,v8,v9,rfl,w,a⟩;walk_at "t";clear w6;walk_at "n";refine au λR6 hR6=>?_;have ol28:F.length<=28:=W_ a.length_le (Aa ⟨ws.length,adC⟩);have ond:F.Nodup:=(Tu ⟨ws.length,adC⟩).sublist a;have oin:∀x∈F,x.1<x.2/\x.2<ws.length:=λx hx=>Lg (λi hi=>F_.mp hi) (a.subset hx);have go':=w.hd;walk_at "";refine⟨d,po,_,rfl,(w.at' _ k_).2,go',Ou c F,by rw[b_];omega,w.cl,λys H12 q2 C hD4 hq2=>?_⟩;obtain⟨l,hos,rfl⟩:=jT C _ rfl;have ol':l.length<=28:=by rw[hos.length_eq];exact ol28
 have ond':l.Nodup:=hos.nodup_iff.mpr ond;have oin':∀x∈l,x.1<x.2/\x.2<ws.length:=λx hx=>oin x (hos.mem_iff.mp hx);have w7:=(w.drw hD4).tl.tl.new (o:=.lst (l.map (oT c))) hq2;generalize aY H12 q2 (.lst (l.map (oT c)))=H13 at w7;clear w hD4 hq2 go' C hos a ol28 ond oin;walk_at "n";walk_at "s";refine⟨d,24,rfl,adD,w7.cl,λn2 H14 c0 c1 hD5=>?_⟩;have w8:=w7.drw hD5;clear w7 hD5;try dsimp only
 walk_at "";refine⟨d,M,q2,ws,_,8+n2,rfl,adC,adC,(w8.at' (M,.lst (ws.map v1)) adE).2,(w8.at' _ k_).2,w8.tl.hd,hws,ws8,w8.hd,Ou c l,by rw[b_];exact ol',w8.cl,λprs pb as H15 p12 pnd pok hcl hkp tq=>?_⟩;have w9:=w8.kep hcl hkp;clear w8 hkp hcl;try dsimp only
 walk_at "";walk_at "t";walk_at "n";walk_at "s";refine⟨d,5,rfl,adD,w9.cl,λn3 H16 d0 d1 hD6=>?_⟩;have w10:=w9.drw hD6;have tq1:=tq.drw hD6;clear w9 tq hD6;walk_at "";refine⟨d,(1+n3).toNat,by rw[aa2 adC],adC,adC,w10.cl,λu H17 pk hkl hks hD7 hpk=>?_⟩;have w11:=(w10.drw hD7).new (o:=.lst (u.map v1)) hpk;have tq2:=(tq1.drw hD7).new (o:=.lst (u.map v1)) hpk;generalize aY H17 pk (.lst (u.map v1))=H18 at w11 tq2;have ks1:1<=u.length:=adC
 have ks8:u.length<=8:=adC
 clear w10 tq1 hD7 hpk hkl;walk_at "n";refine au λR9 hR9=>?_;walk_at "";refine⟨d,st,rfl,adC,w11.cl,λn4 H19 e0 e1 hD8=>?_⟩;have w12:=w11.drw hD8;have tq3:=tq2.drw hD8;clear w11 tq2 hD8;walk_at "";refine⟨by first | trivial | omega,adC,adC,?_⟩;have hrl:(cX 0 (1+n4).toNat).length=(1+n4).toNat:=by unfold cX;rw[b_,p_]
 generalize cX 0 (1+n4).toNat=ts0 at hrl;walk_at "c";refine iG (λr ys W H=>∃(m:List ai) (v:Option T),W=[v,ab (.ref pk),ab (.ref d)]/\ys=m.map v1/\m.length+r.length=(1+n4).toNat/\(∀x∈m,x∈u)/\Wt d H3 H [(pk,.lst (u.map v1)),(q2,.lst (l.map (oT c))),(M,.lst (ws.map v1))]/\Tq d H14 H pb ws.length as) ⟨[],_,rfl,rfl,by rw[hrl];exact aaG _,(λ_ h=>nomatch h),w12,tq3⟩ ?_ ?_;rotate_left
 .rintro x r ys W H N ⟨m,v,rfl,rfl,hrw,hin,w,tq⟩ hN;walk_at "t";rw[i_] at hrw;have hN':=eY.mk hN;have hin':=eY.mk hin;have g:=w.hd;have ks1':(0:Int)<(u.length:Int):=adC
  clear hN hin w12 tq3 k' hR9;walk_at "";refine⟨d,_,rfl,ks1',w.cl,λn5 H20 f0 f1 hD9=>?_⟩;have D:=w.drw hD9;have X:=tq.drw hD9;have g13:=D.hd;clear w tq g hD9;obtain⟨z,hz,ez⟩:=uM u n5 f0 f1;have ez':atI (u.map v1) n5=ab (v1 z):=by rw[nG,ez];rfl
  clear ez;walk_at "";refine⟨by first | omega | (rw[b_];omega),hN'.out _ _ _ ⟨m++[z],_,rfl,by rw[v_];rfl,by rw[a_,M_];omega,λy hy=>?_,D,X⟩⟩;rcases t_.mp hy with h | h
  .exact hin'.out y h
  rw[e_.mp h];exact hz
 rintro ys W H ⟨m,v,rfl,rfl,hrw,hin,w,tq⟩;rw[aaD,kc] at hrw;refine⟨adF,by rw[b_];omega,λpr hpr=>?_⟩;have D:=w.new (o:=.lst (m.map v1)) hpr;have X:=tq.new (o:=.lst (m.map v1)) hpr;generalize aY H pr (.lst (m.map v1))=H20 at D X;clear w tq hpr w12 tq3 hrl;have rw1:1<=m.length:=adC
 have rw8:m.length<=8:=adC
 have rws:(m.length:Int)<=st:=adC
 clear hrw;walk_at "n";walk_at "s";refine⟨d,pr,pk,pb,m,u,ws.length,H14,as,rfl,(D.at' _ k_).2,(D.at' (pk,.lst (u.map v1)) adE).2,D.hd,rw1,rw8,λx hx=>hks.nm x (hin x hx),D.tl.hd,hks,ks8,X,ws8,D.cl,λkk H21 pso hkk hkb hD10 hpso=>?_⟩;have w14:=(D.drw hD10).new (o:=.lst (kk.map sT)) hpso;generalize aY H21 pso (.lst (kk.map sT))=H22 at w14;clear D X hD10 hpso;walk_at "n";walk_at "s";refine⟨d,ws.length,rfl,ws8,w14.cl,λls H23 pl_ hll hlb hD11 hpl_=>?_⟩;have R:=(w14.drw hD11).new (o:=.lst (ls.map v0)) hpl_;generalize aY H23 pl_ (.lst (ls.map v0))=H24 at R;clear w14 hD11 hpl_;walk_at "n";refine au λR12 hR12=>?_;walk_at "";refine⟨by first | trivial | omega,adC,adC,?_⟩;rw[eZ];walk_at "c";refine bZ (λ(k:Nat)=>v0 (k:Int)) (λk=>tkT (tkD ws ls kk k)) (af ws.length) [ab (.ref M),ab (.ref pl_),ab (.ref pso)] trivial (by rw[p_];omega) (λi hi Q' hq=>?_) (λp hp=>?_)
 .have hi':=F_.mp hi;have g1:=(R.at' (M,.lst (ws.map v1)) adE).1;have g2:=R.hd;have g3:=R.tl.hd;have x1:=getD_at hi';have x2:=Oq (show i<ls.length by omega);have x3:=Xi (show i<kk.length by omega);have hq':=eY.mk hq;clear k' hq hR12;try dsimp only at g1
  walk_at "";exact⟨adD,hq'.out⟩
 rw[show (af ws.length).map (λk=>tkT (tkD ws ls kk k))=((af ws.length).map (tkD ws ls kk)).map tkT by rw[X_];rfl];have O:=(R.new (o:=.lst (((af ws.length).map (tkD ws ls kk)).map tkT)) hp).tl;generalize aY H24 p (.lst (((af ws.length).map (tkD ws ls kk)).map tkT))=Z at O;clear R hp;walk_at "n";have gq:Z q2=ab (.lst (l.map (oT c))):=(O.at' (q2,.lst (l.map (oT c))) adE).1;have gn:Z M=ab (.lst (ws.map v1)):=(O.at' (M,.lst (ws.map v1)) adE).1;have gr:Z pr=ab (.lst (m.map v1)):=O.tl.tl.hd;walk_at "";walk_at "c";refine uN (λx:Nat × Nat=>.int ((c.getD x.1 0:Nat):Int)) (λx=>.int ((c.getD x.2 0:Nat):Int)) (λx=>orT (oD ws c x)) l [ab (.ref M)] (.inl gq) adC (λx hx Q' hq=>?_) (λp hp=>?_)
 .have ox:=oin' x hx;have y1:=getD_at (tvm _ (getD_mem (d:=0) (show x.1<c.length by omega)));have y2:=getD_at (tvm _ (getD_mem (d:=0) (show x.2<c.length by omega)));have hq':=eY.mk hq;clear k' hq gr gq;walk_at "";exact⟨adD,hq'.out⟩
 rw[show l.map (λx=>orT (oD ws c x))=(l.map (oD ws c)).map orT by rw[X_];rfl];have w17:=O.new (o:=.lst ((l.map (oD ws c)).map orT)) hp;have gr2:aY Z p (.lst ((l.map (oD ws c)).map orT)) pr=_ := upa gr hp;generalize aY Z p (.lst ((l.map (oD ws c)).map orT))=H26 at w17 gr2;clear O hp gq gn gr;walk_at "";refine⟨adD,jf w17.cl w17.kp λH'' hD=>?_⟩;exact k'.out ⟨(af ws.length).map (tkD ws ls kk),l.map (oD ws c),prs,m⟩ H'' (Xh hws ws1 ws8 hll hlb hkk hkb tvl tvn tvm ol' ond' oin' p12 pnd pok rw1 rw8 λx hx=>hks.nm x (hin x hx)) (by show (((af ws.length).map (tkD ws ls kk)).length:Int)<=t;rw[b_,p_];exact wsm) rws hD
abbrev tM:List ai:=[ack,acy,ac0,"_law_bits","_law_some","_law_total"]
theorem ac8:eG tM [ack,acy] (aB (top 48)):=bx
theorem Mr (g:G3 K mg "_law_beat" (top 48) [ack,acy] f fd) (B:Bl mg) (j:mY P w K mg base 1 ac1 (top 37) [ack,acD] oA) (q:mY P w K mg base 2 "_law_great" (top 38) [ack,acD] Ti):mY P w K mg base 3 "_law_beat" (top 48) [ack,acy] Xu:=by
 refine c6 g ac8 ?_;rintro _ _ _ s H _ _ H3 _ U ⟨d,⟨tk,R,prs,J⟩,rfl,hW,hC,k⟩;have C:=mX.u30 U;refine⟨_,(ak (aF 2 ac8.nd (bz rfl (b6 48 tM [acF,acN,acI] 3 []) (bO (aJ pA adH aq)) (λcl z s H C0 fp=>⟨(cI (n:=3) rfl (aG (aC 0 (n7 [acF,acN,acI])) (aG (aC 1 (n7 [acF,acN,acI])) (aG (aC 2 (n7 [acF,acN,acI])) bW)))),bK,adH⟩)))
   (ak (aF 3 ac8.nd (aK j U rfl (aa adG (aa (aL Rh aq (aM bH rfl B.len_ bI (aa adI aj))) aj))))
   (ak (aF 4 ac8.nd (aM (kJ rfl) rfl B.sum_ kO (aa (bz rfl (b6 48 tM [acG,ac0,"_law_bits"] 1 [2,3]) (aO rfl B.range_ (aa (aM bH rfl B.len_ bI (aa adI aj)) aj)) (λcl z s H C0 fp=>⟨(aC 0 (n7 [acG,ac0,"_law_bits"])),(dZ (aP (cY C) (aL xG (aL Rz adI adG) aq) aq)),(aJ pA adH adG)⟩)) aj)))
   (ak (aF 5 ac8.nd (aM (kJ rfl) rfl B.sum_ kO (aa adI aj)))
   (ao (aH (aJ pA (bL (aa adK (aa (aM (JK rfl) rfl B.max_ Ew (aa aq (aa (aL kI adK aq) aj))) (aa (aL bh adK aq) (aa adM (aa (aM (JP rfl) rfl B.max_ Ew (aa adI aj)) (aa (aK q U rfl (aa adG (aa (aL gW aq aq) aj))) aj))))))) (aK j U rfl (aa adG (aa aq aj)))))))))),?_⟩
 walk_at "q";walk_at "h";have Z:=eY.mk k;clear k;have t8:tk.length<=8:=hW.t8;have t1:1<=tk.length:=hW.t1;have w0:Wt d H3 H3 []:=⟨hC,Kep.refl,(λ_ h=>nomatch h)⟩;have v:eY (∀l∈tk.map (·.2.1),0<=l):=⟨λl hl=>by obtain⟨t,ht,rfl⟩:=l_.mp hl;have:=(hW.tk t ht).lo;omega⟩;clear hC hW;refine au λR0 hR0=>?_;walk_at "";walk_at "c";refine iH (λt:ai × Int × List ai=>.str t.1) (λt=>.int t.2.1) (λt=>.tup (t.2.2.map v1)) (λt=>v0 t.2.1) (λ_=>ag) tk [] trivial adC (λt ht Q' u=>u) (λt ht _ Q' u=>?_) (λpl I=>?_)
 .clear Z hR0;walk_at "";try exact u
 rw[aa4.mpr (λ_ _=>rfl)];have en:tk.map (λt=>v0 t.2.1)=(tk.map (·.2.1)).map v0:=by rw[X_];rfl
 rw[en];have hll:(tk.map (·.2.1)).length=tk.length:=b_ _;generalize tk.map (·.2.1)=c at *;have l8:c.length<=8:=adC
 have l1:1<=c.length:=adC
 clear en hll;have G:=w0.new (o:=.lst (c.map v0)) I;generalize aY H3 pl (.lst (c.map v0))=H4 at G |-;clear w0 I;walk_at "n";have F:=G.hd;walk_at "s";refine⟨⟨adC,adC,adD⟩,d,_,rfl,by rw[Int.one_mul];exact Int.pow_pos adD,G.cl,λa H5 _ _ r=>?_⟩;have w2:=G.drw r;clear G r F;walk_at "n";have F:=w2.hd;refine au λR2 O=>?_;walk_at "";refine⟨by first | trivial | omega,adC,adC,?_⟩;rw[eZ];walk_at "c";refine cZ (λ(i:Nat)=>v0 (i:Int)) (λi=>v0 (c.getD i 0)) (λi=>decide (a9 (a / 2^i) 1=1)) (af c.length) [ab (.ref pl),ab (.int a)] (still:=cW) (H:=H5) trivial (by rw[p_];omega) (λi hi Q' u=>?_) (λi hi hpt Q' u=>?_) ?_
 .have y:=eY.mk u;clear u Z O;walk_at "";exact⟨adC,y.out⟩
 .have y:=eY.mk u;have x1:=Oq (F_.mp hi);clear u Z O;walk_at "";exact y.out
 intro pc D;have S:ints3 (((af c.length).filter (λi=>decide (a9 (a / 2^i) 1=1))).map λi=>v0 (c.getD i 0))=ab (((af c.length).filter (λi=>decide (a9 (a / 2^i) 1=1))).map λi=>c.getD i 0):=by rw[<- dC,X_];rfl
 rw[S,iD];have hsm:(0:Int)<=(((af c.length).filter (λi=>decide (a9 (a / 2^i) 1=1))).map λi=>c.getD i 0).sum:=yf λx hx=>by obtain⟨i,_,rfl⟩:=l_.mp hx;exact LQ v.out i
 generalize (((af c.length).filter (λi=>decide (a9 (a / 2^i) 1=1))).map λi=>c.getD i 0).sum=m at hsm |-;have M:=(w2.new (o:=.lst (((af c.length).filter (λi=>decide (a9 (a / 2^i) 1=1))).map λi=>v0 (c.getD i 0))) D).tl;generalize aY H5 pc _=H6 at M |-;clear w2 D S F;walk_at "n";have F:=M.hd;have S:=dC c;walk_at "s";walk_at "n";have ht0:(0:Int)<=c.sum:=yf v.out;generalize c.sum=tot at ht0 |-;walk_at "";refine⟨by intro e;rw[e] at l1;simp at l1,λL hm _=>?_⟩;have hz0:(0:Int)<=(if m - 1>0 then m - 1 else 0):=by split <;> omega
 generalize (if m - 1>0 then m - 1 else 0)=X at hz0 |-;have hm0:=v.out L hm;clear hm F S v;refine⟨⟨adD,adD,adD⟩,d,_,rfl,adD,M.cl,λY H7 g0 _ r=>?_⟩;have w4:=M.drw r;clear M r;refine⟨adD,λp hp=>?_⟩;have V:=w4.new (o:=.lst [v0 m,v0 X,v0 (m+1),v0 tot,v0 L,v0 Y]) hp;generalize aY H7 p _=H8 at V |-;clear w4 hp;refine⟨d,6,rfl,adD,V.cl,λn H9 n0 n1 r=>?_⟩;have w6:=V.drw r;have g2:=w6.hd;clear V r;obtain⟨b,hbm,hb'⟩:=uM ([m,X,m+1,tot,L,Y]:List Int) n adC (by show n<6;omega);have hb2:atI [v0 m,v0 X,v0 (m+1),v0 tot,v0 L,v0 Y] n=ab (v0 b):=by have:=nG v0 ([m,X,m+1,tot,L,Y]:List Int) n;rw[hb'] at this;exact this
 have b0:0<=b:=by simp only[n_,ZR,aba] at hbm;omega
 walk_at "";exact jf w6.cl w6.kp λH'' r=>Z.out _ H'' b0 r
theorem Wt.sub (w:Wt c a H d) (s:bc H H'):Wt c a H' d:=w.kep (by obtain⟨ns,e,r⟩:=w.cl.ex;exact⟨ns,s _ _ e,r⟩) λb o h _=>s b o h
def Aw:Sp3:=λts H Q=>∃(a:am) (ns:List Int),ts=[.ref a]/\H a=ab (.rol (ns.map v0))/\ns.length<=63/\∀H',Q (.bl ag) H'
abbrev O2:List ai:=[acW,ack,acy,acA,"_law_least","_law_beats",acC,acX]
theorem acQ:eG O2 [acW] (aB (top 59)):=bx
theorem Ud (g:G3 K mg "law" (top 59) [acW] f fd) (B:Bl mg) (x:mY P w K mg base 1 "_law_numbers" (top 36) [acW] Om) (G:mY P w K mg base 5 "_law_works" (top 47) [ack,acD,"_law_stands"] Xj) (y:mY P w K mg base 1 ac1 (top 37) [ack,acD] oA) (j:mY P w K mg base 8 "least_beat" (top 34) ["works","many"] XX) (I:mY P w K mg base 3 "_law_beat" (top 48) [ack,acy] Xu) (c:mY P w K mg base 7 "most_even" (top 28) ["works","beat","many"] XC) (r:mY P w K mg base 7 "dealing_to" (top 31) ["works","beat","many"] T9) (F:mY P w K mg base 5 "_law_right" (top 58) [acy,acC,acA,acX] XR):lG P w K mg base 9 f fd [acW] Aw:=by
 refine fn3 g.fn acQ (λts H Q h=>?_) (λcdv A outer s H E ts H3 Q C h=>?_)
 .obtain⟨a,ns,rfl,_⟩:=h;rfl
 have O:=mX.u30 C;obtain⟨a,ns,rfl,ha,h63,k⟩:=h;refine⟨_,(ak (aF 1 acQ.nd (aK x C rfl (aa adG aj)))
   (ak (aF 2 acQ.nd (aK G C rfl (aa adH (aa aq (aa aq aj)))))
   (ak (aF 3 acQ.nd (aK y C rfl (aa adH (aa (aL bh (aM bH rfl B.len_ bI (aa (aJ pA adI aq) aj)) aq) aj))))
   (ak (aF 4 acQ.nd (aK j C rfl (aa adI (aa adJ aj))))
   (ak (aF 5 acQ.nd (bL (aa (aK I C rfl (aa adH (aa adI aj))) aj)))
   (ak (bD (aP Gb adK dH) (ao (bQ (di N_ Q_ R_ bC adM (aa (aJ pA (bL (aa adK (aa (aL kI adK aq) (aa (aL bh adK aq) aj)))) (aK y C rfl (aa adH (aa aq aj)))) aj)))) aW)
   (ak (aZ q_ rfl (bR adM) (aC 6 acQ.nd) (ak (aF 7 acQ.nd (aK c C rfl (aa adI (aa adO (aa adJ aj)))))
    (ak (bD (aP (iy O) (gU qC adP dH) (gU qC (aK r C rfl (aa adI (aa adO (aa adJ aj)))) dH)) (ao (aH eN)) aW)
    (ak (bD (PW3.pt (cT (aP Gb adP dH) (cM (gD (cH (aK F C rfl (aa adI (aa adO (aa adJ (aa adP aj)))))))))) (ao (aH eN)) aW)
    (ao (bD (aP (iy O) (aK c C rfl (aa adI (aa adO (aa adJ aj)))) adP) (ao (aH eN)) aW))))))
   (ao (aH eN))))))))),?_⟩
 walk_at "q";walk_at "h";have k':=eY.mk k;clear k;walk_at "s";refine⟨a,ns,rfl,ha,h63,λd H4 Z hd hC=>?_⟩;have w0:Wt d H4 H4 []:=⟨hC,Kep.refl,(λ_ h=>nomatch h)⟩;clear hC Z hd ha;walk_at "n";walk_at "s";refine⟨d,6,4,rfl,adD,adD,adD,adD,w0.cl,λW H5 hW t6 r4 D=>?_⟩;have w1:=w0.drw D;clear w0 D;have u:=eY.mk hW;have t6':W.tasks.length<=8:=adC
 have r8:W.row.length<=8:=hW.r8;clear hW;walk_at "n";walk_at "s";refine⟨d,(W.row.length:Int)+1,rfl,adC,w1.cl,λn H6 n0 n1 D=>?_⟩;have w2:=w1.drw D;clear w1 D;obtain⟨m,rfl⟩:∃m:Nat,n=(m:Int):=⟨n.toNat,adC⟩;have L:m<=W.row.length:=adC
 clear n0 n1;walk_at "n";walk_at "s";refine⟨W,m,rfl,u.out,t6',L,λH7 t sb hb=>?_⟩;have w3:=w2.sub sb;clear w2 sb;walk_at "n";walk_at "s";refine⟨d,W,rfl,u.out,w3.cl,λaX H8 _ D=>?_⟩;have w4:=w3.drw D;clear w3 D;try dsimp only
 refine⟨adD,λp hp=>?_⟩;have U:=w4.new (o:=.lst [v0 aX]) hp;have hp4:=w4.fresh hp;generalize aY H8 p (.lst [v0 aX])=H9 at U |-;clear w4 hp;walk_at "n";refine au λR5 hR5=>?_;have key:∀(bs:List Int) (H:eH),Wt d H4 H [(p,.lst (bs.map v0))]->R5 { nx:=λ_ H'=>lu Q .non H',rt:=lu Q} [ab (.ref a),ab (.ref d),ab W.enc,ab (.int (m:Int)),ab t,ab (.ref p),ae,ae] H:=by
  intro bs H w;walk_at "n";clear U hb;try dsimp only
  refine au λR6 hR6=>?_;walk_at "";have gp:=w.hd;walk_at "";refine aN v0 bs (λA σ H=>∃(v6 Y:Option T),σ=[ab (.ref a),ab (.ref d),ab W.enc,ab (.int (m:Int)),ab t,ab (.ref p),v6,Y]/\Wt d H4 H [(p,.lst (bs.map v0))]) ⟨_,_,rfl,w⟩ ?_ ?_
  .rintro σ H ⟨v6,Y,rfl,w⟩;refine⟨.inl w.hd,?_⟩;walk_at "n";walk_at "";exact lu.of bc.refl (k'.out _)
  rintro A b B σ H N e ⟨v6,Y,rfl,w⟩ hN;refine⟨.inl w.hd,?_⟩;have X:=eY.mk λY=>hN _ H ⟨ab (.int b),Y,rfl,w⟩;clear hN e k' hR6 w gp;walk_at "s";refine⟨W,b,m,rfl,u.out,L,?_⟩;walk_at "n";have J:=XN (aX:=b) u.out L;refine au λR8 hR8=>?_;unfold meT;cases S:cC (top2 W - 1) (evs W b m) with
  |none =>
   have V:dtT W b m=.non:=by
    unfold dtT
    rw[S] at J
    cases e2:cC (top2 W - 1) (wys W b m) with
    |none=>rfl
    |some v=>rw[e2] at J;cases J
   have em:meT W b m=.non:=by unfold meT;rw[S]
   clear J S
   walk_at ""
   refine⟨W,b,m,rfl,u.out,L,?_⟩
   rw[V]
   walk_at ""
   walk_at "n"
   refine au λR9 hR9=>?_
   walk_at ""
   walk_at "n"
   walk_at ""
   refine⟨W,b,m,rfl,u.out,L,?_⟩
   rw[em]
   show _
   walk_at ""
   exact X.out _
  |some v =>
   have E:=Mh u.out L S
   have V:∃ts,dtT W b m=.tup ts:=by
    unfold dtT
    rw[S] at J
    cases e2:cC (top2 W - 1) (wys W b m) with
    |none=>rw[e2] at J;cases J
    |some v=>exact⟨_,rfl⟩
   obtain⟨ts,V⟩:=V
   have em:meT W b m=.tup [.int v.1,.tup ((v.2.map (pk W)).map sT)]:=by unfold meT;rw[S]
   have R:=eY.mk E
   clear J S E
   walk_at ""
   refine⟨W,b,m,rfl,u.out,L,?_⟩
   rw[V]
   walk_at ""
   walk_at "n"
   refine au λR9 hR9=>?_
   walk_at ""
   refine⟨W,b,m,v.2.map (pk W),by rw[R.out.e],u.out,R.out.l,R.out.s,R.out.ok,R.out.f,by rw[R.out.l,<- R.out.e];exact R.out.b,?_⟩
   walk_at "n"
   walk_at ""
   refine⟨W,b,m,rfl,u.out,L,?_⟩
   rw[em]
   try dsimp only
   rw[Ni]
   refine⟨OJ _ _ _,OJ _ _ _,?_⟩
   try rw[mG]
   walk_at ""
   exact X.out _
 have M:=eY.mk key;clear key hR5;rcases id hb with ⟨rfl,_⟩ | ⟨b,rfl,_⟩
 .clear hb;walk_at "";exact M.out [aX] _ U
 clear hb;have g5:=U.hd;walk_at "";refine⟨⟨adF,adF⟩,adD,λq hq=>?_⟩;have npq:p≠q:=bf g5 hq;have w6:=U.new (o:=.lst [v0 b,v0 (b - 1),v0 (b+1)]) hq;generalize aY H9 q (.lst [v0 b,v0 (b - 1),v0 (b+1)])=H10 at w6 |-;refine⟨d,3,rfl,adD,w6.cl,λi H11 i0 i1 D=>?_⟩;have w7:=w6.drw D;have gq:=w7.hd;have gp:=w7.tl.hd;obtain⟨z,ez⟩:∃z,atI [v0 b,v0 (b - 1),v0 (b+1)] i=ab (v0 z):=by
  have:i=0\/i=1\/i=2:=by omega
  rcases this with rfl | rfl | rfl <;> exact⟨_,rfl⟩
 have w8:=w7.tl.set hp4 (λ_ h=>nomatch h) (.lst ([aX,z].map v0));clear w7 w6 U D hq g5;generalize [v0 b,v0 (b - 1),v0 (b+1)]=L3 at gq ez;try dsimp only
 walk_at "";refine⟨adD,?_⟩;exact M.out [aX,z] _ w8
abbrev mQ:List ai:=[acy,acC,acA,acX,acw,"_law_stand"]
theorem adm:eG mQ [acy,acC,acA,acX] (aB (top 58)):=bx
theorem Hz (g:G3 K mg "_law_right" (top 58) [acy,acC,acA,acX] f fd) (B:Bl mg) (j:mY P w K mg base 3 "_law_fault" (top 53) [acy,acC,acs] Xr) (b:mY P w K mg base 2 "_law_squares" (top 55) [acy,acs] Ub) (a:mY P w K mg base 4 "_law_no_better" (top 57) [acy,acC,acs,"_law_due"] XQ):mY P w K mg base 5 "_law_right" (top 58) [acy,acC,acA,acX] XR:=by
 refine c6 g adm ?_;rintro _ A _ s H _ _ H3 _ G ⟨W,aX,m,D,rfl,O,hm,S,u,hF,hB,kk⟩;have c:=mX.u30 G;have I:=mX.u31 G;refine⟨_,(ak (bD (PW3.pt (iu (gD (cH (aM nF rfl B.isinstance_ dm (aa adJ (aa (uK rfl B.tuple_ cz) aj))))) (iu (aP (iy c) (aM bH rfl B.len_ bI (aa adJ aj)) aq) (iu (gD (cH (aM nF rfl B.isinstance_ dm (aa (aJ pA adJ aq) (aa (uK rfl B.tuple_ cz) aj))))) (ir (aP (iy c) (aM bH rfl B.len_ bI (aa (aJ pA adJ aq) aj)) adI)))))) (ao (aH eN)) aW)
   (ak (rE (i:=4) rfl adm.nd (b6 58 mQ [acF,acN,acI] 3 []) (bO (aJ pA adG aq)) (λcl v s H C0 fp=>⟨(cI (n:=3) rfl (aG (aC 0 (n7 [acF,acN,acI])) (aG (aC 1 (n7 [acF,acN,acI])) (aG (aC 2 (n7 [acF,acN,acI])) bW)))),bK,adG⟩))
   (ak (aZ q_ rfl (bO (aJ pA adJ aq)) (aC 5 adm.nd) (ao (bD (PW3.pt (iu (gD (cH (aM nF rfl B.isinstance_ dm (aa adM (aa (uK rfl B.tuple_ cz) aj))))) (ir (aP (iy c) adM (bJ cN rfl B.tuple_ cz (aa (bz rfl (b6 58 mQ [acF,"_law_stand"] 1 [5]) (bR adK) (λcl v s H C0 fp=>⟨(aC 0 (n7 [acF,"_law_stand"])),(dZ (aP (uG I) adG adH rfl)),adG⟩)) aj)))))) (ao (aH eN)) aW)))
   (ak (bD (PW3.pt (iu (gD (cH (aM nF rfl B.isinstance_ dm (aa (aJ pA adJ aq) (aa (uK rfl B.int_ Ed) aj))))) (iu (cH (aM nF rfl B.isinstance_ dm (aa (aJ pA adJ aq) (aa (uK rfl B.bool_ Ju) aj)))) (ir (aP BR (aK j G rfl (aa adG (aa adH (aa (aJ pA adJ aq) aj)))) dH))))) (ao (aH eN)) aW)
   (ao (aH (Ds (gU (cY c) (aJ pA adJ aq) (aK b G rfl (aa adG (aa (aJ pA adJ aq) aj)))) (rB (aK a G rfl (aa adG (aa adH (aa (aJ pA adJ aq) (aa (aJ pA adJ aq) aj))))))))))))),?_⟩
 walk_at "q";walk_at "h";have k':=eY.mk kk;clear kk;subst hm;have d8:D.length<=8:=W_ u.rw O.r8;have t8:=O.t8;have fl:D.flatten.length<=1000:=by have:=kY u.nd u.st;rw[b_] at this;omega
 have X:=eY.mk λs S=>(u.n8 O s S).1;have M:=eY.mk S;have y:=eY.mk hB;have F:=eY.mk hF;have p:=eY.mk u;have k:=eY.mk O;clear O u hB hF S;walk_at "s";rw[ace adD];walk_at "n";walk_at "s";walk_at "c";refine iH (λt:ai × Int × List ai=>.str t.1) (λt=>.int t.2.1) (λt=>.tup (t.2.2.map v1)) (λt=>v1 t.1) (λ_=>ag) W.tasks [] trivial adC (λt ht Q' l=>l) (λt ht _ Q' l=>?_) (λr C=>?_)
 .clear k';walk_at "";try exact l
 rw[aa4.mpr (λ_ _=>rfl)];have en:W.tasks.map (λt=>v1 t.1)=(W.tasks.map (·.1)).map v1:=by rw[X_];rfl
 rw[en];have L:bc H3 (aY H3 r (.lst ((nm W).map v1))):=bc.new C;have J:aY H3 r (.lst ((nm W).map v1)) r=ab (.lst ((nm W).map v1)):=aA;rw[show (W.tasks.map (·.1)).map v1=(nm W).map v1 from rfl];generalize aY H3 r (.lst ((nm W).map v1))=H4 at L J |-;clear C en;walk_at "n";refine au λR2 hR2=>?_;walk_at "";refine aN sT D (λA Z H=>∃(R:Option T),Z=[ab W.enc,ab (.int aX),ab (.int (D.length:Int)),ab (.tup [.int (sqD W D),.tup (D.map sT)]),ab (.ref r),R]/\bc H3 H/\H r=ab (.lst ((nm W).map v1))) ⟨_,rfl,L,J⟩ ?_ ?_
 .rintro Z H ⟨R,rfl,sb,V⟩;walk_at "t";walk_at "n";walk_at "s";refine⟨W,aX,D,rfl,k.out,fl,adC,?_⟩;rw[F.out];show _;unfold oE;try rw[i5]
  walk_at "n";walk_at "";refine⟨W,D,rfl,k.out,p.out,?_⟩;walk_at "";refine⟨W,aX,D,_,rfl,k.out,p.out,y.out,lu.of sb k'.out⟩
 rintro A s B Z H N e ⟨R,rfl,sb,V⟩ hN;walk_at "t";have z:s∈D:=by rw[e];simp
 have x:=M.out s z;have hsl:=X.out s z;have o:=eY.mk λR H' (s2:bc H H')=>hN _ H' ⟨R,rfl,sb.trans s2,s2 _ _ V⟩;have d:=eY.mk x;clear hN e k' hR2 M p k x F y;simp only[sT];have pls:=dJ s;have t8':(nm W).length<=8:=by rw[lr];exact t8
 walk_at "";walk_at "c";refine cZ v1 v1 (λn=>decide (n∈s)) (nm W) [ab (.tup (s.map v1))] (.inl V) adC (λn X Q' l=>?_) (λn X _ Q' l=>?_) (λpc Y=>?_)
 .have q:=eY.mk l;clear l o d;walk_at "";rw[G8];exact⟨rfl,adF,q.out⟩
 .have q:=eY.mk l;clear l o d;walk_at "";exact q.out
 rw[d.out];have sc:bc H (aY H pc (.lst (s.map v1))):=bc.new Y;have U:=eY.mk (o.out (ab (.tup (s.map v1))) _ sc);clear o d;walk_at "";refine⟨adF,adF,?_⟩;try rw[mG]
 exact U.out
abbrev gB:List ai:=[acy,acC,acs,"_law_due",acw,"_law_there",acG,adc,"_law_other"]
theorem ab_:eG gB [acy,acC,acs,"_law_due"] (aB (top 57)):=bx
theorem tO (g:G3 K mg "_law_no_better" (top 57) [acy,acC,acs,"_law_due"] f fd) (B:Bl mg) (q:mY P w K mg base 1 "_law_moved" (top 56) [acs,adc,"_law_there"] O1) (p:mY P w K mg base 2 "_law_squares" (top 55) [acy,acs] Ub) (b:mY P w K mg base 2 adu (top 52) [acy,acC,acs] TY):mY P w K mg base 4 "_law_no_better" (top 57) [acy,acC,acs,"_law_due"] XQ:=by
 refine c6 g ab_ ?_;rintro _ A _ s H _ _ H3 _ hr ⟨W,aX,D,d,rfl,hW,hD,hB,kk⟩;refine⟨_,(ak (aF 4 ab_.nd (bz rfl (b6 57 gB [acF,acN,acI] 3 []) (bO (aJ pA adG aq)) (λcl V s H C0 fp=>⟨(cI (n:=3) rfl (aG (aC 0 (n7 [acF,acN,acI])) (aG (aC 1 (n7 [acF,acN,acI])) (aG (aC 2 (n7 [acF,acN,acI])) bW)))),bK,adG⟩)))
   (ak (aZ q_ rfl (aO rfl B.range_ (aa (aM bH rfl B.len_ bI (aa adI aj)) aj)) (aC 5 ab_.nd) (ao (aZ q_ rfl (aO rfl B.range_ (aa (aM bH rfl B.len_ bI (aa adK aj)) aj)) (aC 6 ab_.nd) (ao (aZ q_ rfl (bR (aL bh (bL (aa (bB (aa (aJ pA adK adO) aj)) aj)) (bz rfl (b6 57 gB [acY,acw,acG] 1 [4,6]) (aO rfl B.range_ (aa adO aj)) (λcl V s H C0 fp=>⟨(aC 0 (n7 [acY,acw,acG])),bK,(bB (aa (aJ pA adH adI) (aa (aJ pA adH adG) aj)))⟩)))) (aC 7 ab_.nd) (ak (aF 8 ab_.nd (aK q hr rfl (aa adI (aa adP (aa adM aj)))))
      (ao (bD (PW3.pt (cT (aP qu (aK p hr rfl (aa adG (aa adT aj))) adJ) (cM (aP qC (aK b hr rfl (aa adG (aa adH (aa adT aj)))) dH)))) (ao (aH eN)) aW))))))))
   (ao (aH eN)))),?_⟩
 walk_at "q";walk_at "h";have k':=eY.mk kk;clear kk;have d8:D.length<=8:=W_ hD.rw hW.r8;have t8:=hW.t8;have hn:=eY.mk λs hs=>(hD.n8 hW s hs).1;have hB':=eY.mk hB;have hD':=eY.mk hD;have R:=eY.mk hW;clear hW hD hB;refine au λR0 hR0=>?_;walk_at "";walk_at "c";refine iH (λt:ai × Int × List ai=>.str t.1) (λt=>.int t.2.1) (λt=>.tup (t.2.2.map v1)) (λt=>v1 t.1) (λ_=>ag) W.tasks [] trivial adC (λt ht Q' U=>U) (λt ht _ Q' U=>?_) (λL hpn=>?_)
 .clear k' hR0;walk_at "";try exact U
 rw[aa4.mpr (λ_ _=>rfl)];have en:W.tasks.map (λt=>v1 t.1)=(W.tasks.map (·.1)).map v1:=by rw[X_];rfl
 rw[en];have sb4:bc H3 (aY H3 L (.lst ((W.tasks.map (·.1)).map v1))):=bc.new hpn;have gn:aY H3 L (.lst ((W.tasks.map (·.1)).map v1)) L=ab (.lst ((W.tasks.map (·.1)).map v1)):=aA;generalize aY H3 L (.lst ((W.tasks.map (·.1)).map v1))=H4 at sb4 gn |-;clear hpn en;walk_at "n";refine au λR1 hR1=>?_;walk_at "";refine⟨adF,adC,adC,?_⟩;rw[eZ];refine aN (λ(k:Nat)=>v0 (k:Int)) (af D.length) (λA v H=>∃(v5 G l m:Option T),v=[ab W.enc,ab (.int aX),ab (.tup (D.map sT)),ab (.int d),ab (.ref L),v5,G,l,m]/\bc H4 H) ⟨_,_,_,_,rfl,bc.refl⟩ ?_ ?_
 .rintro v H ⟨v5,G,l,m,rfl,sb⟩;walk_at "t";walk_at "n";walk_at "";exact lu.of (sb4.trans sb) k'.out
 rintro A t B v H N e ⟨v5,G,l,m,rfl,sb⟩ I;walk_at "t";have ht:t<D.length:=F_.mp (by rw[e];simp);have hN':=eY.mk λG l m H' (s2:bc H4 H')=>I _ H' ⟨ab (.int (t:Int)),G,l,m,rfl,s2⟩;clear I e hR1;have k2:=k';clear k';have F:=sb _ _ gn;walk_at "";refine⟨adF,adC,adC,?_⟩;rw[eZ];refine aN (λ(k:Nat)=>v0 (k:Int)) (af W.tasks.length) (λA v H=>∃(G l m:Option T),v=[ab W.enc,ab (.int aX),ab (.tup (D.map sT)),ab (.int d),ab (.ref L),ab (.int (t:Int)),G,l,m]/\bc H4 H) ⟨_,_,_,rfl,sb⟩ ?_ ?_
 .rintro v H ⟨G,l,m,rfl,sb⟩;exact⟨adF,hN'.out _ _ _ _ sb⟩
 clear F sb H;rintro A i B v H N e ⟨G,l,m,rfl,sb⟩ I;walk_at "t";have hi:i<W.tasks.length:=F_.mp (by rw[e];simp);have S:=eY.mk λl m H' (s2:bc H4 H')=>I _ H' ⟨ab (.int (i:Int)),l,m,rfl,s2⟩;clear I e hN';obtain⟨x,ex⟩:∃x,(W.tasks.map (·.1))[i]?=ab x:=⟨_,g_ (by rw[b_];exact hi)⟩;have x1:atI ((W.tasks.map (·.1)).map v1) (i:Int)=ab (.str x):=bM (by rw[J_,ex];rfl);have F:=sb _ _ gn;walk_at "";refine⟨adD,adD,λX hp0=>⟨adF,adC,adC,?_⟩⟩;have C:bc H (aY H X (.lst [v2 [v1 x]])):=bc.new hp0;have g0:aY H X (.lst [v2 [v1 x]]) X=ab (.lst [v2 [v1 x]]):=aA;generalize aY H X (.lst [v2 [v1 x]])=H5 at C g0 |-;have gn5:=C _ _ F;try dsimp only
 rw[eZ];walk_at "c";refine bZ (λ(j:Nat)=>v0 (j:Int)) (λj=>sT [x,(W.tasks.map (·.1)).getD j ""]) (af i) [ab (.ref L),ab (.int (i:Int))] trivial (by rw[p_];omega) (λj Z Q' U=>?_) (λpc M=>?_)
 .have Z:=F_.mp Z;have x2:atI ((W.tasks.map (·.1)).map v1) (j:Int)=ab (.str ((W.tasks.map (·.1)).getD j "")):=Hc (by rw[b_];omega);have hq':=eY.mk U;clear U S k2 ex;walk_at "";exact⟨adD,hq'.out⟩
 have n0c:X≠pc:=bf g0 M;rw[aD n0c,g0,jA];refine⟨by rw[b_,p_,M_];omega,λpq hpq=>?_⟩;have eL:[v2 [v1 x]]++(af i).map (λj=>sT [x,(W.tasks.map (·.1)).getD j ""])=([x]::(af i).map λj=>[x,(W.tasks.map (·.1)).getD j ""]).map sT:=by rw[D_,X_];rfl
 rw[eL];have O:∀tks∈[x]::(af i).map λj=>[x,(W.tasks.map (·.1)).getD j ""],tks.length<=2/\tks.Nodup/\∀y∈tks,y∈W.tasks.map (·.1):=λtks h=>by
  have hx:=ZC ex;rcases n_.mp h with rfl | h
  .exact⟨adE,adE,λy hy=>by rw[e_.mp hy];exact hx⟩
  obtain⟨j,Z,rfl⟩:=l_.mp h;have Z:=F_.mp Z;obtain⟨y,ey⟩:∃y,(W.tasks.map (·.1))[j]?=ab y:=⟨_,g_ (by rw[b_];omega)⟩;have hne:x≠y:=λz=>by subst z;have:=(List.getElem?_inj (by rw[b_];exact hi) R.out.nd).mp (ex.trans ey.symm);omega
  rw[U_,ey];refine⟨adE,by simpa using hne,λz hz=>?_⟩;simp only[aa_,n_,ZR,aba] at hz;rcases hz with rfl | rfl
  .exact hx
  exact ZC ey
 generalize ([x]::(af i).map λj=>[x,(W.tasks.map (·.1)).getD j ""])=TL at O |-;have sb6:=((sb.trans C).trans (bc.new (o:=.lst ((af i).map λj=>sT [x,(W.tasks.map (·.1)).getD j ""])) M)).trans (bc.new (o:=.lst (TL.map sT)) hpq);have gq:aY (aY H5 pc (.lst ((af i).map λj=>sT [x,(W.tasks.map (·.1)).getD j ""]))) pq (.lst (TL.map sT)) pq=ab (.lst (TL.map sT)):=aA;generalize aY (aY H5 pc (.lst ((af i).map λj=>sT [x,(W.tasks.map (·.1)).getD j ""]))) pq (.lst (TL.map sT))=H6 at sb6 gq |-;clear g0 gn5 F C hp0 M hpq x1 ex sb;have J:=eY.mk O;clear O;try dsimp only
 rw[zm,gq,qx];refine aN sT TL (λA v H=>∃(l m:Option T),v=[ab W.enc,ab (.int aX),ab (.tup (D.map sT)),ab (.int d),ab (.ref L),ab (.int (t:Int)),ab (.int (i:Int)),l,m]/\bc H6 H) ⟨_,_,rfl,bc.refl⟩ ?_ ?_
 .rintro v H ⟨l,m,rfl,sb⟩;exact⟨.inl (sb _ _ gq),S.out _ _ _ (sb6.trans sb)⟩
 rintro A tks B v H N e ⟨l,m,rfl,sb⟩ I;refine⟨.inl (sb _ _ gq),?_⟩;obtain⟨h2,h3,h4⟩:=J.out tks (by rw[e];simp);have ok:=XM hD'.out h3 h4 ht;have ml:(mvD D tks t).length=D.length:=by unfold mvD;rw[b_,p_]
 have hb:lg W aX (mvD D tks t)=ae->d<=sqD W (mvD D tks t):=hB'.out _ ok ml;have hN3:=eY.mk λl m=>I _ H ⟨l,m,rfl,sb⟩;clear I e S J k2;walk_at "s";refine⟨D,tks,t,rfl,d8,hn.out,h2,?_⟩;have fl:(mvD D tks t).flatten.length<=1000:=by have:=kY ok.nd ok.st;rw[b_] at this;omega
 generalize mvD D tks t=D2 at *;walk_at "n";have ok':=eY.mk ok;have Y:=eY.mk hb;clear ok hb;walk_at "";refine⟨W,D2,rfl,R.out,ok'.out,?_⟩;by_cases c:sqD W D2<d
 .have cd:=A_ c;walk_at "";refine⟨W,aX,D2,rfl,R.out,fl,ok'.out,?_⟩;have isf:=Ls W aX D2;cases el:lg W aX D2 with
  |none=>exact ach (Y.out el) adC
  |some u =>
  obtain⟨_,a,r,rfl⟩:=isf u el;show _;clear isf Y el;unfold oE;rw[aa_];walk_at "";exact hN3.out _ _
 have cd:=x_ c;walk_at "";exact hN3.out _ _
abbrev tQ:List ai:=[acs,adc,"_law_there",acX,acG,"_law_some"]
theorem acT:eG tQ [acs,adc,"_law_there"] (aB (top 56)):=bx
theorem HB (g:G3 K mg "_law_moved" (top 56) [acs,adc,"_law_there"] f fd) (B:Bl mg):mY P w K mg base 1 "_law_moved" (top 56) [acs,adc,"_law_there"] O1:=by
 refine c6 g acT ?_;rintro _ A _ s H _ _ H3 _ Y ⟨D,tks,t,rfl,d8,U,t2,X⟩;have r:=mX.u30 Y;have v:=mX.u31 Y;refine⟨_,(ak (aF 3 acT.nd (bL aj))
   (ak (aZ q_ rfl (aO rfl B.range_ (aa (aM bH rfl B.len_ bI (aa adG aj)) aj)) (aC 4 acT.nd) (ak (aF 5 acT.nd (bJ cN rfl B.tuple_ cz (aa (bz rfl (b6 56 tQ [adg,adc] 1 [1]) (bO (aJ pA adG adK)) (λcl S s H C0 fp=>⟨(aC 0 (n7 [adg,adc])),(dZ (aP (iz v) adG adH rfl)),adG⟩)) aj)))
    (ak (bD (aP (cY r) adK adI) (ao (aF 5 acT.nd (aL bh adM adH))) aW)
    (ao (bQ (di N_ Q_ R_ bC adJ (aa adM aj)))))))
   (ao (aH (bJ cN rfl B.tuple_ cz (aa adJ aj)))))),?_⟩
 walk_at "q";walk_at "h";have k':=eY.mk X;clear X;have x:=eY.mk U;clear U;simp only[sT];walk_at "s";refine⟨adD,λp V=>?_⟩;have q:bc H3 (aY H3 p (.lst [])):=bc.new V;have j:aY H3 p (.lst []) p=ab (.lst ((([]:List Nat).map (mvF D tks t)).map sT)):=aA;generalize aY H3 p (.lst [])=H4 at q j |-;walk_at "n";refine au λR1 L=>?_;walk_at "";refine⟨adF,adC,adC,?_⟩;rw[eZ];refine aN (λ(k:Nat)=>v0 (k:Int)) (af D.length) (λA J H=>∃(F O:Option T),J=[ab (.tup (D.map sT)),ab (.tup (tks.map v1)),ab (.int (t:Int)),ab (.ref p),F,O]/\bc H3 H/\H p=ab (.lst ((A.map (mvF D tks t)).map sT))) ⟨_,_,rfl,q,j⟩ ?_ ?_
 .rintro J H ⟨F,O,rfl,sb,M⟩;walk_at "t";walk_at "n";walk_at "";exact lu.of sb k'.out
 rintro A k B J H N e ⟨F,O,rfl,sb,M⟩ hN;walk_at "t";have hk:k<D.length:=F_.mp (by rw[e];simp);have hlA:A.length<D.length:=by have:=T_ aT e;simp only[a_,i_,p_] at this;omega
 obtain⟨s,z⟩:∃s,D[k]?=ab s:=⟨_,g_ hk⟩;have x1:atI (D.map sT) (k:Int)=ab (.tup (s.map v1)):=bM (by rw[J_,z];rfl);have hs8:=x.out s (ZC z);have W:mvF D tks t k=(s.filter λn=>!decide (n∈tks))++if k=t then tks else []:=by unfold mvF;rw[U_,z];rfl
 have hfl:=Zh (λn=>!decide (n∈tks)) s;have pn:=dJ tks;have l:eY (∀H',bc H H'->N [ab (.tup (D.map sT)),ab (.tup (tks.map v1)),ab (.int (t:Int)),ab (.ref p),ab (.int (k:Int)),ab (.tup ((mvF D tks t k).map v1))] (aY H' p (.lst ((A.map (mvF D tks t)).map sT++[.tup ((mvF D tks t k).map v1)])))):=⟨λH' s2=>hN _ _ ⟨_,_,rfl,λb o h=>by rw[aD (bf h V)];exact s2 _ _ (sb _ _ h),by rw[aA,v_,v_];rfl⟩⟩;rw[W] at l;have a:=eY.mk l.out;clear l hN e k' L W z j q x;have lL:((A.map (mvF D tks t)).map sT).length<=8:=by rw[b_,b_];omega
 generalize (A.map (mvF D tks t)).map sT=LL at *;refine au λR2 y=>?_;walk_at "";walk_at "c";refine cZ v1 v1 (λn=>!decide (n∈tks)) s [ab (.tup (tks.map v1))] trivial adC (λn hn Q' u=>?_) (λn hn _ Q' u=>?_) ?_
 .have m:=eY.mk u;clear u a y;walk_at "";rw[Lx];exact⟨rfl,adF,m.out⟩
 .have m:=eY.mk u;clear u a y;walk_at "";exact m.out
 intro Z G;have C:bc H (aY H Z (.lst ((s.filter λn=>!decide (n∈tks)).map v1))):=bc.new G;have I:=C _ _ M;generalize aY H Z (.lst ((s.filter λn=>!decide (n∈tks)).map v1))=H5 at C I |-;have d:=eY.mk (a.out H5 C);generalize (s.filter λn=>!decide (n∈tks))=s1 at *;clear a C M;walk_at "n";have ec:decide ((k:Int)=(t:Int))=decide (k=t):=by rw[abe];omega
 walk_at "";by_cases c:k=t
 .rw[aca (by rw[j_];omega)];refine⟨adC,?_⟩;have f:=d.out;rw[aca c,v_] at f;exact⟨⟨adF,adF⟩,adC,f⟩
 rw[ace (by rw[j_];omega)];have f:=d.out;rw[ace c,P_] at f;exact⟨⟨adF,adF⟩,adC,f⟩
abbrev tR:List ai:=[acy,acs,ac0,acF,acN,acI]
theorem acU:eG tR [acy,acs] (aB (top 54)):=bx
theorem HD (g:G3 K mg "_law_loads" (top 54) [acy,acs] f Y) (B:Bl mg):mY P w K mg base 1 "_law_loads" (top 54) [acy,acs] Xm:=by
 refine c6 g acU ?_;rintro _ A _ s H _ _ H3 _ hr ⟨⟨tk,l,prs,j⟩,D,rfl,I,d8,S,k⟩;have p:=mX.u1 hr;refine⟨_,(ak (aF 2 acU.nd mF)
   (ak (aZ q_ rfl (bO (aJ pA adG aq)) (cI (n:=3) rfl (aG (aC 3 acU.nd) (aG (aC 4 acU.nd) (aG (aC 5 acU.nd) bW)))) (ao (jM p adI adJ adK)))
   (ao (aH (bz rfl (b6 54 tR ["_law_stand",ac0] 1 [2]) (bO adH) (λZ m s H C0 fp=>⟨(aC 0 (n7 ["_law_stand",ac0])),bK,(aM (kJ rfl) rfl B.sum_ kO (aa (bz rfl (zj (n00:=(aB (top 54)).names) (N:=["_law_stand",ac0]) (N':=[adg,ac0]) (nt:=1) (cap:=[1]) rfl rfl rfl adx) (bO adG) (λZ m s H C0 fp=>⟨(aC 0 (n7 [adg,ac0])),bK,(d7 p adH adG)⟩)) aj))⟩)))))),?_⟩
 walk_at "q";walk_at "h";have J:=eY.mk k;clear k;have t8:tk.length<=8:=I.t8;have nd:eY ((tk.map (·.1)).Nodup):=⟨I.nd⟩;have M:eY (∀ns∈D,ns.length<=8/\∀n∈ns,n∈tk.map (·.1)):=⟨S⟩;clear I S;walk_at "s";intro q G;walk_at "n";refine au λR1 F=>?_;walk_at "";refine aN tkT tk (λA d H=>∃(v3 u O:Option T),d=[ab (v2 [v2 (tk.map tkT),v2 (l.map orT),v2 (prs.map prT),v2 (j.map v1)]),ab (.tup (D.map sT)),ab (.ref q),v3,u,O]/\H=aY H3 q (.dct (iN A))) ⟨_,_,_,rfl,rfl⟩ ?_ ?_;rotate_left
 .rintro A t B d H N e ⟨v3,u,O,rfl,rfl⟩ r;have hx:t.1∉A.map (·.1):=λh=>by have:=nd.out;rw[e,v_,aab] at this;exact this.2.2 _ h _ (by rw[D_];exact k_) rfl
  have p1:=GQ hx;have hl:A.length<8:=by have:=T_ aT e;simp only[a_,i_] at this;omega
  have hl2:=GR A;have c:=eY.mk r;clear r e J F;walk_at "t";simp only[tkT];walk_at "";exact⟨adF,adC,c.out _ _ ⟨_,_,_,rfl,rfl⟩⟩
 rintro d H ⟨v3,u,O,rfl,rfl⟩;walk_at "t";walk_at "n";walk_at "";walk_at "c";refine dU sT D (λA x d H=>∃(v:Option T),d=[v,ab (.ref q)]/\x=A.map (λns=>v0 (smL tk ns))/\H q=ab (.dct (iN tk))/\bc H3 H) ⟨_,rfl,rfl,aA,bc.new G⟩ ?_ ?_
 .rintro x d H ⟨v,rfl,rfl,g,sb⟩;refine⟨adF,by rw[b_];omega,λz a=>?_⟩;have X:=J.out z (cB sb a);rw[X_] at X;refine⟨_,λb o e=>?_,X⟩;by_cases V:b=z
  .subst V;rw[aA] at e |-;exact e
  rw[aD V] at e |-;exact sb b o e
 rintro A ns B x d H N e ⟨v,rfl,rfl,g,sb⟩ r;have C:=M.out ns (by rw[e];simp);have hA:A.length<8:=by have:=T_ aT e;simp only[a_,i_] at this;omega
 have c:=eY.mk r;have L:=eY.mk C.2;have hm1:=C.1;clear r e J C;walk_at "t";simp only[sT];walk_at "";walk_at "c";refine bZ v1 (λn=>.int (lnOf tk n)) ns [ab (.ref q)] trivial adC (λn hn Q' U=>?_) (λz a=>?_)
 .have l1:=sO (L.out n hn);have y:=eY.mk U;clear U c;walk_at "";exact y.out
 have e:ints3 (ns.map (λn=>v0 (lnOf tk n)))=ab (ns.map (lnOf tk)):=by rw[<- dC,X_];rfl
 rw[e,iD];refine⟨by first | omega | (rw[b_];omega),c.out _ _ _ ⟨_,rfl,by rw[v_];rfl,by rw[aD (bf g a)];exact g,sb.trans (bc.new a)⟩⟩
abbrev dX:List ai:=[acy,acs]
theorem yq:eG dX dX (aB (top 55)):=bx
theorem yr (g:G3 K mg "_law_squares" (top 55) dX f z) (B:Bl mg) (a:mY P w K mg base 1 "_law_loads" (top 54) dX Xm):mY P w K mg base 2 "_law_squares" (top 55) dX Ub:=by
 refine c6 g yq ?_;rintro _ _ _ s H _ _ H3 _ J ⟨W,D,rfl,c,e,y⟩;refine⟨_,(ao (aH (aM (kJ rfl) rfl B.sum_ kO (aa (bz rfl (b6 55 dX ["_law_load"] 1 []) (bR (aK a J rfl (aa adG (aa adH aj)))) (λR u s H X Y=>⟨(aC 0 (n7 ["_law_load"])),bK,(aL J1 adG adG)⟩)) aj)))),?_⟩;walk_at "q";walk_at "h";have q:=eY.mk y;clear y;have M:D.length<=8:=W_ e.rw c.r8;have I:=eY.mk (e.n8 c);have L:=eY.mk λs j=>e.smB c (s:=s) j;have k:=eY.mk c;clear c e;walk_at "";refine⟨W,D,rfl,k.out,M,I.out,λp F=>?_⟩;have sb:bc H3 (aY H3 p (.lst ((D.map (smL W.tasks)).map v0))):=bc.new F;have r:aY H3 p (.lst ((D.map (smL W.tasks)).map v0)) p=ab (.lst ((D.map (smL W.tasks)).map v0)):=aA;generalize aY H3 p (.lst ((D.map (smL W.tasks)).map v0))=v at sb r |-;try dsimp only
 rw[zm,r,qx];walk_at "c";refine bZ v0 (λl=>v0 (l*l)) (D.map (smL W.tasks)) [] (.inl r) (by rw[b_];omega) (λl O Z x=>?_) (λps m=>?_)
 .obtain⟨s,j,rfl⟩:=l_.mp O;have d:=L.out s j;have cm:ad_ (smL W.tasks s) (smL W.tasks s):=⟨oU d.1 d.2,oU d.1 d.2⟩;have n:=eY.mk x;clear x q d;walk_at "";exact⟨adF,n.out⟩
 rw[show ((D.map (smL W.tasks)).map λl=>v0 (l*l))=(D.map λs=>smL W.tasks s*smL W.tasks s).map v0 by rw[X_,X_];rfl];have S:=dC (D.map λs=>smL W.tasks s*smL W.tasks s);have G:aY v ps (.lst ((D.map λs=>smL W.tasks s*smL W.tasks s).map v0)) ps=ab (.lst ((D.map λs=>smL W.tasks s*smL W.tasks s).map v0)):=aA;have b:=sb.trans (bc.new (o:=.lst ((D.map λs=>smL W.tasks s*smL W.tasks s).map v0)) m);unfold sqD at q;generalize aY v ps (.lst ((D.map λs=>smL W.tasks s*smL W.tasks s).map v0))=V at G b |-;generalize (D.map λs=>smL W.tasks s*smL W.tasks s)=U at *;walk_at "";exact lu.of b q.out
abbrev HF:List ai:=[acs,acX,"_law_stand"]
theorem adh:eG HF [acs] (aB (top 49)):=bx
theorem Ms (g:G3 K mg "_law_flat" (top 49) [acs] f F) (B:Bl mg):mY P w K mg base 1 "_law_flat" (top 49) [acs] Xo:=by
 refine c6 g adh ?_;rintro _ A n s H _ _ H3 _ _ ⟨D,rfl,W,k⟩;refine⟨_,(ak (aF 1 adh.nd (bL aj))
   (ak (aZ q_ rfl (bO adG) (aC 2 adh.nd) (ao (aF 1 adh.nd (aL bh adH (bJ mC rfl B.list_ iZ (aa adI aj))))))
   (ao (aH adH)))),?_⟩
 walk_at "q";walk_at "h";have C:=eY.mk k;clear k;walk_at "s";refine⟨adD,λp r=>?_⟩;walk_at "n";refine au λU m=>?_;walk_at "";refine aN sT D (λA d H=>∃(v:Option T) (q:am),d=[ab (.tup (D.map sT)),ab (.ref q),v]/\H q=ab (.lst (A.flatten.map v1))/\H3 q=ae/\bc H3 H) ⟨_,p,rfl,aA,r,bc.new r⟩ ?_ ?_
 .rintro d H ⟨v,q,rfl,g,u,sb⟩;walk_at "t";walk_at "n";walk_at "";refine lu.of (λb o e=>?_) (C.out q u);by_cases z:b=q
  .subst z;rw[aA] at e;rw[g];exact e
  rw[aD z] at e;exact sb b o e
 rintro A s B d H N e ⟨v,q,rfl,g,u,sb⟩ y;have R:A.flatten.length+s.length<=1000:=by have:=T_ (λx=>x.flatten.length) e;simp only[oK,a_] at this;omega
 have t:(A++[s]).flatten.map v1=A.flatten.map v1++s.map v1:=adE
 have j:=eY.mk y;have l:=eY.mk t;clear y e C m t;walk_at "t";simp only[sT];walk_at "";intro M c;have O:q≠M:=bf g c;walk_at "";refine⟨adC,λI a=>?_⟩;have L:=cA a;refine j.out _ _ ⟨_,I,rfl,by rw[aA,l.out],cB sb L.2,(sb.trans (bc.new c)).trans (bc.new a)⟩
abbrev jo:List ai:=[acw,adv,adg,acG,acF]
theorem aci:eG jo [acw,adv] (aB (top 50)):=bx
theorem oW (g:G3 K mg adw (top 50) [acw,adv] f O) (B:Bl mg):mY P w K mg base 1 adw (top 50) [acw,adv] Xn:=by
 refine c6 g aci ?_;rintro _ A _ _ H _ _ H3 Q W ⟨a,b,ns,xs,rfl,F,G,ln,lx,k⟩;have j:=mX.u31 W;refine⟨_,(ak (aZ q_ rfl (bR adH) (aC 2 aci.nd) (ao (bD (aP (iz j) adI adG rfl) (ao (aH (bB (aa cR (aa adI aj))))) aW)))
   (ak (aZ q_ rfl (aO rfl B.range_ (aa (aM bH rfl B.len_ bI (aa adH aj)) aj)) (aC 3 aci.nd) (ao (bD (aP (uG j) (aJ pA adH adJ) (iC adH iB (fP adJ)) rfl) (ao (aH (bB (aa cR (aa (aJ pA adH adJ) aj))))) aW)))
   (ak (aZ q_ rfl (bR adG) (aC 4 aci.nd) (ao (bD (aP (iz j) adK adH rfl) (ao (aH (bB (aa cR (aa adK aj))))) aW)))
   (ao (aH dH))))),?_⟩
 walk_at "q";walk_at "h";have q:=eY.mk k;clear k;have pn:=dJ ns;have px:=dJ xs;replace q:eY (Q (oE ((lY ns xs).or ((twF xs).or (kZ ns xs)))) H3):=q;refine au λR0 o=>?_;have t:=eY.mk o;clear o;walk_at "";refine aN v1 xs (λA l H=>(∃v:Option T,l=[ab (.ref a),ab (.ref b),v,ae,ae])/\H=H3/\eY (∀z∈A,z∈ns)) ⟨⟨_,rfl⟩,rfl,⟨λ_ h=>(nomatch h)⟩⟩ ?_ ?_;rotate_left
 .rintro A x B l H N e ⟨⟨v,rfl⟩,rfl,d⟩ C;have m:=eY.mk C;have I:=eY.mk e;clear C e t;refine⟨.inl G,?_⟩;walk_at "";refine⟨rfl,adF,?_⟩;rw[Lx];by_cases c:x∈ns
  .rw[ace (by simp [c])];exact m.out _ _ ⟨⟨_,rfl⟩,rfl,⟨λa h=>(t_.mp h).elim (d.out a) λz=>by rw[e_.mp z];exact c⟩⟩
  rw[aca (by simp [c])];refine⟨adD,?_⟩;have e:lY ns xs=ab (.tup [.str "strange",.str x]):=by unfold lY;rw[I.out,iK (λa h=>by rw[A_ (d.out a h)];rfl) (by simp [c])];rfl
  have:=q.out;rw[e] at this;exact lu.of bc.refl this
 rintro l H ⟨⟨v,rfl⟩,rfl,d⟩;refine⟨.inl G,?_⟩;have e:lY ns xs=ae:=by unfold lY;rw[jg (λa h=>by rw[A_ (d.out a h)];rfl)];rfl
 rw[e] at q;clear d e;obtain⟨⟨o⟩⟩:=t;subst o;try dsimp only
 refine au λR1 n=>?_;have y:=eY.mk n;clear n;walk_at "";refine⟨by first | trivial | omega,adC,adC,?_⟩;refine jV xs (λA l H'=>(∃u:Option T,l=[ab (.ref a),ab (.ref b),v,u,ae])/\H' a=ab (.lst (ns.map v1))/\H' b=ab (.lst (xs.map v1))/\bc H H'/\eY A.Nodup) ⟨⟨_,rfl⟩,F,G,bc.refl,⟨aaA⟩⟩ ?_ ?_;rotate_left
 .rintro A x B l H' N e ⟨⟨M,rfl⟩,F,G,sb,d⟩ C;have x1:atI (xs.map v1) (A.length:Int)=ab (.str x):=by rw[e];exact sS v1
  have x2:fU (xs.map v1) ae (ab (A.length:Int))=A.map v1:=by rw[Ej,e,v_,abP (by rw[b_])]
  have Z:A.length<=1000:=by have:=T_ aT e;simp only[a_,i_] at this;omega
  have U:=dJ A;have m:=eY.mk C;have I:=eY.mk e;clear C e y;walk_at "t";walk_at "";intro p J;have S:a≠p:=bf F J;have V:b≠p:=bf G J;walk_at "";refine⟨rfl,by first | trivial | exact U,?_⟩;rw[G8];by_cases c:x∈A
  .rw[aca (by simp [c])];walk_at "";refine⟨adD,?_⟩;have e:twF xs=ab (.tup [.str "twice",.str x]):=by unfold twF;rw[I.out,Ah (sn:=[]) (by simpa using d.out) (by simpa using c)];rfl
   have:=q.out;rw[e] at this;exact lu.of (sb.trans (bc.new J)) this
  rw[ace (by simp [c])];exact m.out _ _ ⟨⟨_,rfl⟩,by rw[aD S];exact F,by rw[aD V];exact G,sb.trans (bc.new J),⟨iW d.out c⟩⟩
 rintro l H' ⟨⟨M,rfl⟩,F,G,sb,d⟩;walk_at "t";have e:twF xs=ae:=by unfold twF;rw[yc (by simpa using d.out)];rfl
 rw[e] at q;clear d e;obtain⟨⟨n⟩⟩:=y;subst n;try dsimp only
 refine au λR2 r=>?_;have D:=eY.mk r;clear r;walk_at "";refine aN v1 ns (λA l H=>(∃u:Option T,l=[ab (.ref a),ab (.ref b),v,M,u])/\H=H'/\eY (∀z∈A,z∈xs)) ⟨⟨_,rfl⟩,rfl,⟨λ_ h=>(nomatch h)⟩⟩ ?_ ?_
 .rintro l X ⟨⟨Y,rfl⟩,rfl,d⟩;refine⟨.inl F,?_⟩;obtain⟨⟨r⟩⟩:=D;subst r;walk_at "";have e:kZ ns xs=ae:=by unfold kZ;rw[jg (λa h=>by rw[A_ (d.out a h)];rfl)];rfl
  rw[e] at q;exact lu.of sb q.out
 rintro A x B l X N e ⟨⟨Y,rfl⟩,rfl,d⟩ C;have m:=eY.mk C;have I:=eY.mk e;clear C e D;refine⟨.inl F,?_⟩;walk_at "";refine⟨rfl,adF,?_⟩;rw[Lx];by_cases c:x∈xs
 .rw[ace (by simp [c])];exact m.out _ _ ⟨⟨_,rfl⟩,rfl,⟨λa h=>(t_.mp h).elim (d.out a) λz=>by rw[e_.mp z];exact c⟩⟩
 rw[aca (by simp [c])];refine⟨adD,?_⟩;have e:kZ ns xs=ab (.tup [.str "lost",.str x]):=by unfold kZ;rw[I.out,iK (λa h=>by rw[A_ (d.out a h)];rfl) (by simp [c])];rfl
 have:=q.out;rw[e] at this;exact lu.of sb this
abbrev X3:List ai:=[acs,acX,acG,adg]
theorem aee:eG X3 [acs] (aB (top 51)):=bx
theorem X4 (g:G3 K mg "_law_at" (top 51) [acs] f z) (B:Bl mg):mY P w K mg base 1 "_law_at" (top 51) [acs] Xp:=by
 refine c6 g aee ?_;rintro _ A t s H _ _ H3 _ I ⟨D,rfl,hl,V,k⟩;have m:=mX.u1 I;refine⟨_,(ak (aF 1 aee.nd mF)
   (ak (aZ q_ rfl (aO rfl B.range_ (aa (aM bH rfl B.len_ bI (aa adG aj)) aj)) (aC 2 aee.nd) (ao (aZ q_ rfl (bO (aJ pA adG adI)) (aC 3 aee.nd) (ao (jM m adH adJ adI)))))
   (ao (aH adH)))),?_⟩
 walk_at "q";walk_at "h";have y:=eY.mk k;clear k;walk_at "s";intro p G;walk_at "n";refine au λS r=>?_;walk_at "";refine⟨by first | trivial | omega,adC,adC,?_⟩;refine jV D (λA a H=>∃(q v3:Option T),a=[ab (.tup (D.map sT)),ab (.ref p),q,v3]/\H=aY H3 p (.dct (dN (kD A) (fD A)))) ⟨_,_,rfl,rfl⟩ ?_ ?_
 .rintro a H ⟨q,v3,rfl,rfl⟩;walk_at "t";walk_at "n";walk_at "";exact lu.of bc.refl (y.out p G)
 rintro A s B a H N e ⟨q,v3,rfl,rfl⟩ v;have O:A.flatten.length+s.length<=1000:=by have:=T_ (λx=>x.flatten.length) e;simp only[oK,a_] at this;omega
 have J:atI (D.map sT) (A.length:Int)=ab (.tup (s.map v1)):=by rw[e];exact sS sT
 have l:=eY.mk (Lh A s);have d:=eY.mk (Ac A s);have X:=TF A;have c:=eY.mk v;clear v e y r;walk_at "t";walk_at "";refine aN v1 s (λC a H=>∃(o:Option T),a=[ab (.tup (D.map sT)),ab (.ref p),ab (.int (A.length:Int)),o]/\H=aY H3 p (.dct (dN (kst (kD A) C) (lW A.length (fD A) C)))) ⟨_,rfl,rfl⟩ ?_ ?_
 .rintro a H ⟨o,rfl,rfl⟩;exact⟨adF,c.out _ _ ⟨_,_,rfl,by rw[l.out,d.out]⟩⟩
 rintro C n Z a H R u ⟨o,rfl,rfl⟩ j;have W:C.length<s.length:=by have:=T_ aT u;simp only[a_,i_] at this;omega
 have L:=Li (kst (kD A) C) (lW A.length (fD A) C) n A.length;rw[<- GZ,<- G4] at L;have l1:=Tz (kst (kD A) C) (lW A.length (fD A) C);have U:=kst_len C (kD A);have b:=eY.mk j;clear j c u l d J;walk_at "t";walk_at "";exact⟨adC,b.out _ _ ⟨_,rfl,rfl⟩⟩
abbrev ik:List ai:=[acy,acC,acs,"_law_at_here","_law_one","_law_other","_law_word",ac0,acI,acF,acN,"_law_some",acG,adg]
theorem g8:eG ik [acy,acC,acs] (aB (top 52)):=bx
theorem pO (g:G3 K mg adu (top 52) [acy,acC,acs] f fd) (B:Bl mg) (F_at:mY P w K mg base 1 "_law_at" (top 51) [acs] Xp):mY P w K mg base 2 adu (top 52) [acy,acC,acs] TY:=by
 refine c6 g g8 ?_;rintro _ A _ s H _ _ H3 Q hr ⟨⟨tk,l,prs,d⟩,aX,D,rfl,hW,hl,hd,k⟩;have R:=mX.u30 hr;have hu31:=mX.u31 hr;have r:=mX.u1 hr;refine⟨_,(ak (aF 3 g8.nd (aK F_at hr rfl (aa adI aj)))
   (ak (aZ q_ rfl (bO (aJ pA adG aq)) (cI (n:=2) rfl (aG (aC 4 g8.nd) (aG (aC 5 g8.nd) bW))) (ao (bD (aP uD (d7 r adJ adK) (d7 r adJ adM)) (ao (aH (bB (aa cR (aa adK (aa adM aj)))))) aW)))
   (ak (aZ q_ rfl (bO (aJ pA adG aq)) (cI (n:=3) rfl (aG (aC 6 g8.nd) (aG (aC 4 g8.nd) (aG (aC 5 g8.nd) bW)))) (ao (bD (PW3.pt (iu (PW3.pt (cT (aP (cY R) adO cR) (cM (aP (iy R) (d7 r adJ adK) (d7 r adJ adM))))) (ir (PW3.pt (cT (aP (cY R) adO cR) (cM (aP (cY R) (d7 r adJ adK) (d7 r adJ adM)))))))) (ao (aH (bB (aa adO (aa adK (aa adM aj)))))) aW)))
   (ak (aF 7 g8.nd mF)
   (ak (aF 8 g8.nd mF)
   (ak (aZ q_ rfl (bO (aJ pA adG aq)) (cI (n:=3) rfl (aG (aC 9 g8.nd) (aG (aC 10 g8.nd) (aG (aC 11 g8.nd) bW)))) (ak (jM r adP adV (v3 10))
    (ao (jM r adT adV (v3 11)))))
   (ak (aZ q_ rfl (aO rfl B.range_ (aa (aM bH rfl B.len_ bI (aa adI aj)) aj)) (aC 12 g8.nd) (ao (aZ q_ rfl (bO (aJ pA adI (v3 12))) (aC 13 g8.nd) (ao (bD (PW3.pt (cT (aP uD (aM bH rfl B.len_ bI (aa (d7 r adT (v3 13)) aj)) aq) (cM (aP (iz hu31) (aJ pA (aJ pA adG aq) (v3 12)) (d7 r adT (v3 13)) rfl)))) (ao (aH (bB (aa cR (aa (v3 13) (aa (v3 12) aj)))))) aW)))))
   (ak (aZ q_ rfl (aO rfl B.range_ (aa (aM bH rfl B.len_ bI (aa adI aj)) aj)) (aC 12 g8.nd) (ao (bD (aP uD (aM (kJ rfl) rfl B.sum_ kO (aa (bz rfl (b6 52 ik [adg,ac0] 1 [7]) (bO (aJ pA adI (v3 12))) (λcl pins s H C0 fp=>⟨(aC 0 (n7 [adg,ac0])),bK,(d7 r adH adG)⟩)) aj)) adH) (ao (aH (bB (aa cR (aa (v3 12) aj))))) aW)))
   (ao (aH dH)))))))))),?_⟩
 walk_at "q";walk_at "h";have F:=eY.mk k;clear k;have hoo:eY (∀o∈l,o.1∈tk.map (·.1)/\o.2∈tk.map (·.1)):=⟨λo ho=>(hW.oo o ho).2⟩;have hpp:eY (∀o∈prs,(o.1=("with":ai)\/o.1=("apart":ai))/\o.2.1∈tk.map (·.1)/\o.2.2∈tk.map (·.1)):=⟨λo ho=>⟨(hW.pp o ho).1,(hW.pp o ho).2.2⟩⟩;have t8:tk.length<=8:=hW.t8;have r8:d.length<=8:=hW.r8;have hdr:D.length<=d.length:=hd.rw;have hnd':eY ((tk.map (·.1)).Nodup):=⟨hW.nd⟩;have hin:eY (∀s∈D,s.Nodup/\∀n∈s,n∈tk.map (·.1)):=⟨λs hs=>hd.in hs⟩;have Y:eY (∀n∈tk.map (·.1),n∈kD D):=⟨λn h=>afX.mpr (hd.al n h)⟩;replace F:eY (Q (oE ((pM (fD D) l).or ((oH (fD D) prs).or ((iJ (kdOf tk) d 0 D).or (fX (ld tk) aX 0 D))))) H3):=F;clear hd hW;walk_at "s";refine⟨D,rfl,hl,adC,λp hp=>?_⟩;have g1:aY H3 p (.dct (dN (kD D) (fD D))) p=ab (.dct (dN (kD D) (fD D))):=aA;have sb:bc H3 (aY H3 p (.dct (dN (kD D) (fD D)))):=bc.new hp;generalize aY H3 p (.dct (dN (kD D) (fD D)))=H4 at *;clear hp;walk_at "n";refine au λR1 hR1=>?_;walk_at "";refine aN orT l (λA m H=>(∃V U:Option T,m=[ab (v2 [v2 (tk.map tkT),v2 (l.map orT),v2 (prs.map prT),v2 (d.map v1)]),ab (.int aX),ab (.tup (D.map sT)),ab (.ref p),V,U,ae,ae,ae,ae,ae,ae,ae,ae])/\H=H4/\eY (∀a∈A,(λo:ai × ai=>decide (fD D o.2<fD D o.1)) a=ah)) ⟨⟨_,_,rfl⟩,rfl,⟨λ_ h=>(nomatch h)⟩⟩ ?_ ?_;rotate_left
 .rintro A ⟨x,y⟩ B m H N e ⟨⟨V,U,rfl⟩,rfl,u⟩ O;have hm:=hoo.out (x,y) (by rw[e];simp);have l1:=jU (f:=fD D) (Y.out _ hm.1);have l2:=jU (f:=fD D) (Y.out _ hm.2);dsimp only at l1 l2;have v:=eY.mk O;have e':=eY.mk e;clear O e hR1 hm;walk_at "t";simp only[orT];walk_at "";walk_at "t";by_cases c:fD D y<fD D x
  .rw[aca (by rw[j_];omega)];refine⟨adD,?_⟩;have e:pM (fD D) l=ab (.tup [.str "order",.str x,.str y]):=by unfold pM;rw[e'.out,iK u.out (A_ c)];rfl
   have:=F.out;rw[e] at this;exact lu.of sb this
  rw[ace (by rw[j_];omega)];exact v.out _ _ ⟨⟨_,_,rfl⟩,rfl,⟨λa h=>(t_.mp h).elim (u.out a) λz=>by rw[e_.mp z];exact x_ c⟩⟩
 rintro m H ⟨⟨V,U,rfl⟩,rfl,u⟩;walk_at "t";have e:pM (fD D) l=ae:=by unfold pM;rw[jg u.out];rfl
 rw[e] at F;replace F:eY (Q (oE ((oH (fD D) prs).or ((iJ (kdOf tk) d 0 D).or (fX (ld tk) aX 0 D)))) H3):=F;clear e u hoo;walk_at "n";refine au λR2 hR2=>?_;walk_at "";refine aN prT prs (λA m H'=>(∃V U v6:Option T,m=[ab (v2 [v2 (tk.map tkT),v2 (l.map orT),v2 (prs.map prT),v2 (d.map v1)]),ab (.int aX),ab (.tup (D.map sT)),ab (.ref p),V,U,v6,ae,ae,ae,ae,ae,ae,ae])/\H'=H/\eY (∀a∈A,(λp:ai × ai × ai=>decide (fD D p.2.1=fD D p.2.2) != decide (p.1=("with":ai))) a=ah)) ⟨⟨_,_,_,rfl⟩,rfl,⟨λ_ h=>(nomatch h)⟩⟩ ?_ ?_;rotate_left
 .rintro A ⟨wd,x,y⟩ B m H' N e ⟨⟨V,U,v6,rfl⟩,rfl,u⟩ O;have hm:=hpp.out (wd,x,y) (by rw[e];simp);have l1:=jU (f:=fD D) (Y.out _ hm.2.1);have l2:=jU (f:=fD D) (Y.out _ hm.2.2);have hw:wd=("with":ai)\/wd=("apart":ai):=hm.1;dsimp only at l1 l2;have ed:decide (((fD D x:Nat):Int)=((fD D y:Nat):Int))=decide (fD D x=fD D y):=by rw[abe];omega
  have nx:eY ((decide (fD D x=fD D y) != decide (wd=("with":ai)))=ah->N [ab (v2 [v2 (tk.map tkT),v2 (l.map orT),v2 (prs.map prT),v2 (d.map v1)]),ab (.int aX),ab (.tup (D.map sT)),ab (.ref p),ab (.str x),ab (.str y),ab (.str wd),ae,ae,ae,ae,ae,ae,ae] H'):=⟨λc=>O _ _ ⟨⟨_,_,_,rfl⟩,rfl,⟨λa h=>(t_.mp h).elim (u.out a) λz=>by rw[e_.mp z];exact c⟩⟩⟩;have rt:eY ((decide (fD D x=fD D y) != decide (wd=("with":ai)))=ag->lu Q (.tup [.str wd,.str x,.str y]) H'):=⟨λc=>by
   have e:oH (fD D) prs=ab (.tup [.str wd,.str x,.str y]):=by unfold oH;rw[e,iK u.out c];rfl
   have:=F.out
   rw[e] at this
   exact lu.of sb this⟩
  clear O e hR2 hm u;walk_at "t";simp only[prT];have hw':=eY.mk hw;clear hw;walk_at "";walk_at "t";have w1:(("apart":ai)=("with":ai))=False:=by simp;decide
  have w2:(("with":ai)=("apart":ai))=False:=by simp;decide
  have nx2:=nx.out;have rt2:=rt.out;clear nx rt;generalize decide (fD D x=fD D y)=b1 at *;rcases hw'.out with rfl | rfl
  .clear hw';cases b1
   .walk_at "";exact⟨adD,rt2 (by rw[A_ rfl];rfl)⟩
   walk_at "";exact nx2 (by rw[A_ rfl];rfl)
  clear hw';cases b1
  .walk_at "";exact nx2 (by rw[x_ (by rw[w1];exact id)];rfl)
  walk_at "";exact⟨adD,rt2 (by rw[x_ (by rw[w1];exact id)];rfl)⟩
 rintro m H' ⟨⟨V,U,v6,rfl⟩,rfl,u⟩;walk_at "t";have e:oH (fD D) prs=ae:=by unfold oH;rw[jg u.out];rfl
 rw[e] at F;replace F:eY (Q (oE ((iJ (kdOf tk) d 0 D).or (fX (ld tk) aX 0 D))) H3):=F;clear e u hpp Y g1;walk_at "n";walk_at "s";intro G hpa;walk_at "n";walk_at "s";intro M hpb;have nab:G≠M:=bf aA hpb;have X:bc H3 (aY (aY H' G (.dct [])) M (.dct [])):=(sb.trans (bc.new hpa)).trans (bc.new hpb);have ga:aY (aY H' G (.dct [])) M (.dct []) G=ab (.dct (iN [])):=by rw[aD nab];exact aA
 have gb:aY (aY H' G (.dct [])) M (.dct []) M=ab (.dct (kN [])):=aA;have fa:H3 G=ae:=cB sb hpa;have fb:H3 M=ae:=cB (sb.trans (bc.new hpa)) hpb;generalize aY (aY H' G (.dct [])) M (.dct [])=H5 at *;clear hpa hpb sb;walk_at "n";refine au λR5 hR5=>?_;walk_at "";refine aN tkT tk (λA m H=>(∃v9 I J:Option T,m=[ab (v2 [v2 (tk.map tkT),v2 (l.map orT),v2 (prs.map prT),v2 (d.map v1)]),ab (.int aX),ab (.tup (D.map sT)),ab (.ref p),V,U,v6,ab (.ref G),ab (.ref M),v9,I,J,ae,ae])/\H G=ab (.dct (iN A))/\H M=ab (.dct (kN A))/\bc H3 H) ⟨⟨_,_,_,rfl⟩,ga,gb,X⟩ ?_ ?_;rotate_left
 .rintro A t B m H N e ⟨⟨v9,I,J,rfl⟩,ga,gb,sb⟩ O;have hx:t.1∉A.map (·.1):=λh=>by have:=hnd'.out;rw[e,v_,aab] at this;exact this.2.2 _ h _ (by rw[D_];exact k_) rfl
  have p1:=GQ hx;have p2:=TJ hx;have hlA:A.length<8:=by have:=T_ aT e;simp only[a_,i_] at this;omega
  have hl2:=GR A;have hl3:=TQ A;have v:=eY.mk O;have nba:M≠G:=a6 nab;unfold sT at p2;clear O e F hR5 hx;walk_at "t";simp only[tkT,sT];walk_at "";refine⟨adF,adC,?_⟩;walk_at "";refine⟨adC,?_⟩;refine v.out _ _ ⟨⟨_,_,_,rfl⟩,by rw[aD nab,aA],aA,λb o e=>?_⟩;rw[aD (bf e fb),aD (bf e fa)];exact sb b o e
 rintro m H ⟨⟨v9,I,J,rfl⟩,ga,gb,sb⟩;walk_at "t";clear X;have hnd2:=hnd';walk_at "n";refine au λR6 hR6=>?_;walk_at "";refine⟨by first | trivial | omega,adC,adC,?_⟩;refine jV D (λA m H'=>(∃L S:Option T,m=[ab (v2 [v2 (tk.map tkT),v2 (l.map orT),v2 (prs.map prT),v2 (d.map v1)]),ab (.int aX),ab (.tup (D.map sT)),ab (.ref p),V,U,v6,ab (.ref G),ab (.ref M),v9,I,J,L,S])/\H'=H/\eY (∀(j:Nat) (s':List ai),A[j]?=ab s'->∀n∈s',okK (kdOf tk n) (d.getD (0+j) "")=ag)) ⟨⟨_,_,rfl⟩,rfl,⟨λj s' h=>by simp at h⟩⟩ ?_ ?_;rotate_left
 .rintro A s B m H' N e ⟨⟨L,S,rfl⟩,rfl,u⟩ O;have hA:A.length<d.length:=by have:=T_ aT e;simp only[a_,i_] at this;omega
  have hs:eY (∀n∈s,n∈tk.map (·.1)):=⟨(hin.out s (by rw[e];simp)).2⟩;have x1:=getD_at hA;have x2:atI (D.map sT) (A.length:Int)=ab (.tup (s.map v1)):=by rw[e];exact sS sT
  have v:=eY.mk O;have e':=eY.mk e;clear O e hR6;walk_at "t";walk_at "";refine aN v1 s (λC m H2=>(∃S:Option T,m=[ab (v2 [v2 (tk.map tkT),v2 (l.map orT),v2 (prs.map prT),v2 (d.map v1)]),ab (.int aX),ab (.tup (D.map sT)),ab (.ref p),V,U,v6,ab (.ref G),ab (.ref M),v9,I,J,ab (.int (A.length:Int)),S])/\H2=H'/\eY (∀n∈C,okK (kdOf tk n) (d.getD A.length "")=ag)) ⟨⟨_,rfl⟩,rfl,⟨λ_ h=>(nomatch h)⟩⟩ ?_ ?_
  .rintro m H2 ⟨⟨v5',rfl⟩,rfl,Z⟩;refine⟨adF,v.out _ _ ⟨⟨_,_,rfl⟩,rfl,⟨λj s' hj n hn=>?_⟩⟩⟩;rw[aaG];rcases abl j A.length with h | h
   .rw[Y_ h] at hj;have:=u.out j s' hj n hn
    rwa [aaG] at this
   rw[H_ h] at hj;have ej:j - A.length=0:=by
    cases q:j - A.length with
    |zero=>rfl
    |succ z=>rw[q] at hj;simp at hj
   rw[ej] at hj;simp only[ZS,abA] at hj;subst hj;rw[show j=A.length by omega];exact Z.out n hn
  rintro C n E' m H2 N2 e2 ⟨⟨v5',rfl⟩,rfl,Z⟩ hN2;have l1:=Ae (hs.out n (by rw[e2];simp));unfold sT at l1;have i1:=dJ (kdOf tk n);have nx:eY (okK (kdOf tk n) (d.getD A.length "")=ag->N2 [ab (v2 [v2 (tk.map tkT),v2 (l.map orT),v2 (prs.map prT),v2 (d.map v1)]),ab (.int aX),ab (.tup (D.map sT)),ab (.ref p),V,U,v6,ab (.ref G),ab (.ref M),v9,I,J,ab (.int (A.length:Int)),ab (.str n)] H2):=⟨λc=>hN2 _ _ ⟨⟨_,rfl⟩,rfl,⟨λa h=>(t_.mp h).elim (Z.out a) λz=>by rw[e_.mp z];exact c⟩⟩⟩;have rt:eY (okK (kdOf tk n) (d.getD A.length "")=ah->lu Q (.tup [.str "kind",.str n,.int (A.length:Int)]) H2):=⟨λc=>by
   have:=F.out
   rw[e'.out,Ai (A:=A) (k:=0) u.out (n:=n) (by
    rw[aaG,e2]
    exact iK (λa h=>by rw[Z.out a h];rfl) (by rw[c];rfl)),aaG] at this
   exact lu.of sb this⟩
  clear hN2 e2 v F u Z e';walk_at "t";walk_at "";by_cases c:kdOf tk n=[]
  .rw[c];walk_at "";exact nx.out (by unfold okK;rw[c];rfl)
  rw[aca (by rw[j_];have:=List.length_pos_iff.mpr c;omega)];walk_at "";refine⟨by first | trivial | rfl,by first | trivial | exact i1,?_⟩;rw[Lx];by_cases c2:d.getD A.length ""∈kdOf tk n
  .rw[ace (by simpa using c2)];exact nx.out (by unfold okK;rw[A_ c2,Bool.or_true])
  rw[aca (by simpa using c2)];exact⟨adD,rt.out (by unfold okK;rw[x_ c2,x_ c];rfl)⟩
 rintro m H' ⟨⟨L,S,rfl⟩,rfl,u⟩;walk_at "t";rw[kin_no u.out,show ((ae:Option T).or (fX (ld tk) aX 0 D))=fX (smL tk) aX 0 D from qN λs hs=>(Ov hnd2.out (hin.out s hs).1 (hin.out s hs).2).symm] at F;clear u gb;walk_at "n";refine au λR7 hR7=>?_;walk_at "";refine⟨by first | trivial | omega,adC,adC,?_⟩;refine jV D (λA m H=>(∃L:Option T,m=[ab (v2 [v2 (tk.map tkT),v2 (l.map orT),v2 (prs.map prT),v2 (d.map v1)]),ab (.int aX),ab (.tup (D.map sT)),ab (.ref p),V,U,v6,ab (.ref G),ab (.ref M),v9,I,J,L,S])/\H G=ab (.dct (iN tk))/\bc H3 H/\eY (∀s'∈A,smL tk s'<=aX)) ⟨⟨_,rfl⟩,ga,sb,⟨λ_ h=>(nomatch h)⟩⟩ ?_ ?_
 .rintro m H ⟨⟨L,rfl⟩,ga,sb,Z⟩;walk_at "t";walk_at "n";walk_at "";have:=F.out;rw[yd Z.out] at this;exact lu.of sb this
 rintro A s B m H N e ⟨⟨L,rfl⟩,ga,sb,Z⟩ O;have hs:eY (∀n∈s,n∈tk.map (·.1)):=⟨(hin.out s (by rw[e];simp)).2⟩;have ls:s.length<=1000:=by have:=T_ (λx=>x.flatten.length) e;simp only[oK,a_] at this;omega
 have x2:atI (D.map sT) (A.length:Int)=ab (.tup (s.map v1)):=by rw[e];exact sS sT
 have v:=eY.mk O;have e':=eY.mk e;clear O e hR7;walk_at "t";walk_at "";walk_at "c";refine bZ v1 (λn=>.int (lnOf tk n)) s [ab (.ref G)] trivial adC (λn hn Q' hq=>?_) (λpc hpc=>?_)
 .have l1:=sO (hs.out n hn);have hq':=eY.mk hq;clear hq v F;walk_at "";exact hq'.out
 have ei:ints3 (s.map (λn=>v0 (lnOf tk n)))=ab (s.map (lnOf tk)):=by rw[<- dC,X_];rfl
 rw[ei,iD];have X:=sb.trans (bc.new (o:=.lst (s.map (λn=>v0 (lnOf tk n)))) hpc);have ga2:aY H pc (.lst (s.map (λn=>v0 (lnOf tk n)))) G=_ := upa ga hpc;generalize aY H pc (.lst (s.map (λn=>v0 (lnOf tk n))))=H6 at *;walk_at "";rw[show (s.map (lnOf tk)).sum=smL tk s from rfl];by_cases c:smL tk s>aX
 .rw[aca (by simpa using c)];refine⟨adD,?_⟩;have:=F.out;rw[e'.out,Aj Z.out c,aaG] at this;exact lu.of X this
 rw[ace (by simpa using c)];exact v.out _ _ ⟨⟨_,rfl⟩,ga2,X,⟨λa h=>(t_.mp h).elim (Z.out a) λz=>by rw[e_.mp z];omega⟩⟩
abbrev tU:List ai:=[acy,acC,acs,"_law_fault_here"]
theorem adl:eG tU [acy,acC,acs] (aB (top 53)):=bx
theorem HH (g:G3 K mg "_law_fault" (top 53) [acy,acC,acs] f Y) (B:Bl mg) (d:mY P w K mg base 1 adw (top 50) [acw,adv] Xn) (u:mY P w K mg base 1 "_law_flat" (top 49) [acs] Xo) (j:mY P w K mg base 2 adu (top 52) [acy,acC,acs] TY):mY P w K mg base 3 "_law_fault" (top 53) [acy,acC,acs] Xr:=by
 refine c6 g adl ?_;rintro _ _ _ s H _ _ H3 Q R ⟨⟨tk,l,prs,a⟩,aX,D,rfl,S,V,hD,k⟩;refine⟨_,(ak (bD (aP uD (aM bH rfl B.len_ bI (aa adI aj)) (aM bH rfl B.len_ bI (aa (aJ pA adG aq) aj))) (ao (aH (bB (aa cR (aa (aM bH rfl B.len_ bI (aa adI aj)) aj))))) aW)
   (ak (aF 3 adl.nd (aK d R rfl (aa (bz rfl (b6 53 tU [acF,acN,acI] 3 []) (bO (aJ pA adG aq)) (λcl X s H C0 fp=>⟨(cI (n:=3) rfl (aG (aC 0 (n7 [acF,acN,acI])) (aG (aC 1 (n7 [acF,acN,acI])) (aG (aC 2 (n7 [acF,acN,acI])) bW)))),bK,adG⟩)) (aa (aK u R rfl (aa adI aj)) aj))))
   (ak (bD (aP qC adJ dH) (ao (aF 3 adl.nd (aK j R rfl (aa adG (aa adH (aa adI aj)))))) aW)
   (ao (aH adJ))))),?_⟩
 walk_at "q";walk_at "h";have o:=eY.mk k;clear k;have O:=eY.mk S;have t8:tk.length<=8:=S.t8;clear S;replace o:eY (Q (oE (((lX a D).or (vJ (tk.map (·.1)) D.flatten)).or (lg ⟨tk,l,prs,a⟩ aX D))) H3):=o;have L:eY (lX a D=ae->vJ (tk.map (·.1)) D.flatten=ae->Dok ⟨tk,l,prs,a⟩ D):=⟨λh1 h2=>Dok.of (by show (lX a D).or (vJ (tk.map (·.1)) D.flatten)=ae;rw[h1,h2];rfl)⟩;refine au λR0 v=>?_;have G:=eY.mk v;clear v;walk_at "";by_cases c:D.length>a.length
 .rw[aca (by rw[j_];omega)];walk_at "";refine⟨adD,lu.of bc.refl ?_⟩;have e:lX a D=ab (.tup [.str "stands",.int (D.length:Int)]):=by unfold lX;rw[aca c]
  have:=o.out;rw[e] at this;exact this
 rw[ace (by rw[j_];omega)];have e:lX a D=ae:=by unfold lX;rw[ace c]
 rw[e] at o;replace o:eY (Q (oE ((vJ (tk.map (·.1)) D.flatten).or (lg ⟨tk,l,prs,a⟩ aX D))) H3):=o;have m:eY (vJ (tk.map (·.1)) D.flatten=ae->Dok ⟨tk,l,prs,a⟩ D):=⟨L.out e⟩;clear e L;obtain⟨⟨v⟩⟩:=G;subst v;try dsimp only
 generalize C:tk.map (·.1)=ns at *;have ln:ns.length<=8:=by rw[<- C,b_];exact t8
 have I:=eY.mk C;clear C;refine au λR1 p=>?_;have y:=eY.mk p;clear p;walk_at "";walk_at "c";refine iH (λt:ai × Int × List ai=>.str t.1) (λt=>.int t.2.1) (λt=>.tup (t.2.2.map v1)) (λt=>v1 t.1) (λ_=>ag) tk [] trivial adC (λt ht Q' z=>z) (λt ht _ Q' z=>?_) (λM F=>?_)
 .clear o m y;walk_at "";try exact z
 rw[aa4.mpr (λ_ _=>rfl)];have en:tk.map (λt=>v1 t.1)=ns.map v1:=by rw[<- I.out,X_];rfl
 rw[en];clear en;refine⟨D,rfl,V,λq z=>?_⟩;have J:M≠q:=bf aA z;refine⟨M,q,ns,D.flatten,rfl,by rw[aD J,aA],aA,adC,V,?_⟩;have sb:bc H3 (aY (aY H3 M (.lst (ns.map v1))) q (.lst (D.flatten.map v1))):=(bc.new F).trans (bc.new z);generalize aY (aY H3 M (.lst (ns.map v1))) q (.lst (D.flatten.map v1))=H4 at sb |-;clear F z J;obtain⟨⟨p⟩⟩:=y;subst p;try dsimp only
 cases e:vJ ns D.flatten with
 |none=>rw[e] at o;replace o:eY (Q (oE (lg ⟨tk,l,prs,a⟩ aX D)) H3):=o;have Z:=eY.mk (m.out e);clear m e;rw[show oE ae=T.non from rfl];walk_at "";exact⟨⟨tk,l,prs,a⟩,aX,D,rfl,O.out,V,Z.out,lu.of sb o.out⟩
 |some t =>
 rw[e] at o;obtain⟨_,x,r,et⟩:=Lr ns D.flatten t e;subst et;clear e m;rw[show oE (ab (v2 (x::r)))=v2 (x::r) from rfl];walk_at "";exact lu.of sb o.out
abbrev lO:List ai:=["works","beat","many","walk","evens","even"]
theorem acv:eG lO ["works","beat","many"] (aB (top 28)):=bx
theorem tV (g:G3 K mg "most_even" (top 28) ["works","beat","many"] f Y) (B:Bl mg) (j:adf K c ["works","beat","rules","whole"]) (k:MkC P w K mg base c 5 "Walk" ["self","works","beat"] (T6 c)) (d:mY P w K mg base 5 "evens_by_stands" (top 27) ["walk","many"] (Xz c)) (e:MtC P w K mg base c 2 "dealing_of" ["self","fillings"] (T8 c)):mY P w K mg base 7 "most_even" (top 28) ["works","beat","many"] XC:=by
 refine c6 g acv ?_;rintro _ _ _ s _ E _ H3 _ z ⟨W,aX,m,rfl,D,X,U⟩;have t:=mX.u1 z;refine⟨_,(ak (aF 3 acv.nd (zG k (z.mono adD) rfl (aa adG (aa adH aj))))
   (ak (aF 4 acv.nd (aJ pA (aK d z rfl (aa adJ (aa adI aj))) (rQ aq)))
   (ak (bD (jC t (fV j adJ) adK) (ao (aH dH)) aW)
   (ak (aF 5 acv.nd (nM t adK (fV j adJ)))
   (ao (aH (bB (aa (aJ pA adM aq) (aa (jd e (z.mono adD) adJ (aa (aJ pA adM aq) aj)) aj))))))))),?_⟩
 walk_at "q";walk_at "h";have N:=eY.mk U;clear U;have t1:=jW W;walk_at "s";intro a L;refine⟨a,W,aX,rfl,D,aA,λH4 S G=>⟨rfl,?_⟩⟩;have sb:bc H3 H4:=λb u M=>S b u (bf M L) (by rw[aD (bf M L)];exact M);clear S L;walk_at "n";walk_at "s";refine⟨a,W,aX,m,rfl,D,G,X,λH5 p as q l hl gp hs gq=>?_⟩;have y:=G.sub l;have C:=sb.trans l;clear l sb G hs;have x1:atI (as.map wa++[wa q]) (-1)=ab (wa q):=uf _ _;walk_at "";walk_at "n";obtain⟨V,gw,_⟩:=y.ex;have f4:=oN (W:=W) (aX:=aX) (p:=V);have lm:=qQ (W:=W) (aX:=aX) (p:=V) (m:="dealing_of") adx;have r:=jX evT (top2 W - 1) (evs W aX m);have ec:((top2 W - 1:Nat):Int)=(top2 W:Int) - 1:=adC
 rw[ec] at r;have o:=N.out;unfold meT at o;have n:=oR (W:=W) (aX:=aX) X;have z:=D.r8;refine au λR2 R=>?_;cases F:cC (top2 W - 1) (evs W aX m) with
 |none=>rw[F] at r o;rw[fE] at r;have J:=eY.mk o;clear N o R n;walk_at "";simp only[mS,aag,if_true];exact lu.of C J.out
 |some v =>
 obtain⟨_,x,I⟩:=(n.eok D).lt _ (dG F);have hb4:v.2.length<=m:=x;clear x;rw[F] at r o;rw[abo] at r;simp only[evT] at r;have J:=eY.mk o;clear N o n F;generalize evs W aX m=E at *;walk_at "";simp only[abQ,Z0,I_,Zj];walk_at "n";walk_at "s";walk_at "n";walk_at "";refine⟨by first | trivial | exact lm,a,W,aX,v.2,rfl,D,y,by show v.2.length<=8;omega,I,?_⟩;try walk_at ""
 exact⟨adD,lu.of C J.out⟩
theorem Za (e:o4 X k tk) (b:o4 X v a):o4 X (.List [.Dict [ab k] [v] c] d) (yR (rC (jN tk a) yQ)):=bL (aa (qD e b) aj)
theorem Zb (i:Nat) {x:ai}{b a g h:ka}{k v:Expr}{tk c:vy} (j:X.N.Nodup) (m:o4 X k tk) (f:o4 X v c) (e:X.N[i]?=ab x) (l:Loc X.env.scope x) (d:X.fn x=ag\/X.env.scope.names.lookup x=ab .local):PS3 X (.Assign [.Name x a] (.List [.Dict [ab k] [v] g] h) b) (uv (yR (rC (jN tk c) yQ)) (eU i)):=aF _ j (Za m f) e l rfl d
abbrev gC:List ai:=["walk","many","steps","stand"]
theorem acg:eG gC ["walk","many"] (aB (top 27)):=bx
theorem jH (g:G3 K mg "evens_by_stands" (top 27) ["walk","many"] f fd) (B:Bl mg) (c:mY P w K mg base 4 "evens_behind" (top 26) ["walk","stand","evens"] (Xx C_Walk)):mY P w K mg base 5 "evens_by_stands" (top 27) ["walk","many"] (Xz C_Walk):=by
 refine c6 g acg ?_;rintro _ A _ s H _ _ H3 _ hr ⟨a,W,aX,m,rfl,V,hw,hm,kk⟩;refine⟨_,(@ak _ _ _ _ _ (@Zb _ 2 _ _ _ _ _ _ _ _ _ acg.nd aq (bB (aa aq (aa (bB aj) aj))) rfl (by first | exact gs rfl | exact e6 rfl) (by first | exact .inl rfl | exact .inr rfl | assumption))
   (ak (aZ q_ rfl (aO rfl B.range_ (aa adH aj)) (aC 3 acg.nd) (ao (bQ (di N_ Q_ R_ bC adI (aa (aK c hr rfl (aa adG (aa adJ (aa (aJ pA adI adJ) aj)))) aj)))))
   (ao (aH adI)))),?_⟩
 walk_at "q";walk_at "h";have k':=eY.mk kk;clear kk;have r8:W.row.length<=8:=V.r8;walk_at "s";intro k D;refine⟨adD,adD,adF,adD,λp z=>?_⟩;have e0:([(0,v2 [v0 0,v2 []])]:List (Int × T))=dI evT (evs W aX 0):=rfl;rw[e0] at z |-;have n0:k≠p:=bf aA z;have Y:H3 p=ae:=by rw[aD (a6 n0)] at z;exact z
 have y:bc H3 (aY (aY H3 k (.dci (dI evT (evs W aX 0)))) p (.lst [wa k])):=(bc.new D).trans (bc.new z);have t:aY (aY H3 k (.dci (dI evT (evs W aX 0)))) p (.lst [wa k]) p=ab (.lst (([]:List am).map wa++[wa k])):=aA;have v:aY (aY H3 k (.dci (dI evT (evs W aX 0)))) p (.lst [wa k]) k=ab (.dci (dI evT (evs W aX 0))):=by rw[aD n0];exact aA
 generalize aY (aY H3 k (.dci (dI evT (evs W aX 0)))) p (.lst [wa k])=H4 at y t v |-;clear e0 z n0;walk_at "n";refine au λR1 U=>?_;walk_at "";refine⟨adF,adC,adC,?_⟩;rw[eZ];refine aN (λ(j:Nat)=>v0 (j:Int)) (af m) (λA O H=>∃(l:List am) (q:am) (v3:Option T),O=[ab (.ref a),ab (.int (m:Int)),ab (.ref p),v3]/\bc H3 H/\H3 q=ae/\l.length=A.length/\H p=ab (.lst (l.map wa++[wa q]))/\Xy W aX H l/\H q=ab (.dci (dI evT (evs W aX A.length)))) ⟨[],k,_,rfl,y,D,rfl,t,(λj a e=>by simp at e),v⟩ ?_ ?_
 .rintro O H ⟨l,q,v3,rfl,sb,hq,I,C,M,x⟩;walk_at "t";rw[p_] at I x;walk_at "n";walk_at "";exact lu.of bc.refl (k'.out H p l q sb I C M x)
 rintro A j B O H N e ⟨l,q,v3,rfl,sb,hq,I,C,M,x⟩ hN;walk_at "t";have hA:A.length<m:=by have:=T_ aT e;simp only[a_,i_,p_] at this;omega
 have hj:j=A.length:=by
  have Z:(af m)[A.length]?=ab j:=by rw[e,H_ (m_ _)];simp
  rw[aaC hA] at Z;exact (Zg Z).symm
 subst hj;have x1:atI (l.map wa++[wa q]) (A.length:Int)=ab (wa q):=bM (by rw[H_ (by rw[b_];omega),b_,I];simp);have R:=eY.mk hN;clear hN e k' U y t v;walk_at "";refine⟨⟨adF,adF⟩,a,q,W,aX,A.length,A.length,evs W aX A.length,rfl,V,hw.sub sb,adC,adC,(oR adC).eok V,x,λo L r=>?_⟩;have F:p≠q:=ne3 C x adE;have G:p≠L:=bf C r;have S:q≠L:=bf x r;have g1:aY (aY H q (.dif o (dI evT (evs W aX A.length)))) L (.dci (dI evT (ebh W aX A.length (evs W aX A.length)))) p=ab (.lst (l.map wa++[wa q])):=by rw[aD G,aD F];exact C
 try dsimp only
 rw[g1,Nq];refine⟨by rw[a_,b_];simp;omega,R.out _ _ ⟨l++[q],L,_,rfl,λb u d=>?_,cB sb r,by rw[a_,a_,I];rfl,?_,λi b d=>?_,?_⟩⟩
 .rw[aD (bf d Y),aD (bf (sb b u d) r),aD (bf d hq)];exact sb b u d
 .rw[aA,v_];rfl
 .by_cases hi:i<l.length
  .rw[Y_ hi] at d;obtain⟨ob,J⟩:=M i b d;refine⟨ob,?_⟩;rw[aD (ne3 J C adE),aD (bf J r),aD (ne3 J x adE)];exact J
  rw[H_ adC] at d;have h0:i - l.length=0:=by
   cases hz:i - l.length with
   |zero=>rfl
   |succ n=>rw[hz] at d;simp at d
  rw[h0] at d;simp only[ZS,abA] at d;subst d;refine⟨o,?_⟩;rw[aD (a6 F),aD S,aA,show i=A.length by omega]
 rw[aD (a6 G),aA,a_];rfl
abbrev iT:List ai:=["walk","stand","evens","behind","done","even","filling","least","onward"]
theorem p6:eG iT ["walk","stand","evens"] (aB (top 26)):=bx
theorem lZ (g:G3 K mg "evens_behind" (top 26) ["walk","stand","evens"] f fd) (B:Bl mg) (I_Walk:adf K d ["works","beat","rules","whole"]) (l:MtC P w K mg base d 3 "fillings_at" ["self","stand","done"] (T7 d)) (C:MtC P w K mg base d 2 "load_at" ["self","number"] (Oz d)):mY P w K mg base 4 "evens_behind" (top 26) ["walk","stand","evens"] (Xx d):=by
 refine c6 g p6 ?_;rintro _ A _ s H E _ H3 _ hr ⟨a,q,W,aX,k,n,E,rfl,hW,hw,hk,hn,hE,hq,kk⟩;have Y:=mX.u1 hr;refine⟨_,(ak (aF 3 p6.nd uZ)
   (ak (aZ q_ rfl (u5 adI) (cI (n:=2) rfl (aG (aC 4 p6.nd) (aG (aC 5 p6.nd) bW))) (ao (aZ q_ rfl (bR (jd l (hr.mono adD) adG (aa adH (aa adK aj)))) (aC 6 p6.nd) (ak (aF 7 p6.nd (aL bh (aJ pA adM aq) (aL J2 (jd C (hr.mono adD) adG (aa adO aj)) aq)))
     (ak (aF 8 p6.nd (aL bh adK adO))
     (ao (bD (PW3.pt (iu (jC Y adT adJ) (ir (aP qu adP (aJ pA (nM Y adJ adT) aq))))) (ao (Fz Y adJ adT (bB (aa adP (aa (aL bh (aJ pA adM aq) (bB (aa adO aj))) aj))))) aW)))))))
   (ao (aH adJ)))),?_⟩
 walk_at "q";walk_at "h";have k':=eY.mk kk;clear kk;have t2:=mO hW;have hE':=eY.mk hE;clear hE;walk_at "s";intro j hpb;have F:q≠j:=bf hq hpb;walk_at "n";refine au λR1 hR1=>?_;have gq:aY H3 j (.dci []) q=ab (.dci (dI evT E)):=by rw[aD F];exact hq
 walk_at "";intro o;rw[Xw];have hw0:Wlk d W aX (aY H3 q (.dif o (dI evT E))) a:=hw.frz hq;have g0:aY H3 q (.dif o (dI evT E)) q=ab (.dif o (dI evT E)):=aA;have n0:aY H3 q (.dif o (dI evT E)) j=ae:=by rw[aD (a6 F)];exact hpb
 have R:Kb1 j (aY H3 q (.dif o (dI evT E))) (aY (aY H3 j (.dci [])) q (.dif o (dI evT E))):=λb u hb h=>by
  by_cases e:b=q
  .subst e;rw[aA] at h |-;exact h
  rw[aD e] at h |-;rw[aD hb];exact h
 have gb0:aY (aY H3 j (.dci [])) q (.dif o (dI evT E)) j=ab (.dci (dI evT [])):=by rw[aD (a6 F),aA];rfl
 have k2:=eY.mk (k'.out o j hpb);generalize aY (aY H3 j (.dci [])) q (.dif o (dI evT E))=H4 at R gb0 |-;generalize aY H3 q (.dif o (dI evT E))=H0 at *;clear k' gq hq hw;refine aN evE E (λA V H=>∃(v4 v5 J I v:Option T),V=[ab (.ref a),ab (.int (k:Int)),ab (.ref q),ab (.ref j),v4,v5,J,I,v]/\Kb1 j H0 H/\H j=ab (.dci (dI evT (A.foldl (ebF W aX k) [])))/\EOk W (n+1) (A.foldl (ebF W aX k) [])) ⟨_,_,_,_,_,rfl,R,gb0,⟨aaA,λ_ z=>(nomatch z)⟩⟩ ?_ ?_
 .rintro V H ⟨v4,v5,J,I,v,rfl,D,M,_⟩;refine⟨D q _ F g0,?_⟩;walk_at "n";walk_at "";refine lu.of (λb u hb=>?_) k2.out;by_cases e:b=j
  .subst e;rw[aA] at hb;rw[M,<- hb];rfl
  rw[aD e] at hb;exact D b u e hb
 rintro A e B V H N eE ⟨v4,v5,J,I,v,rfl,D,M,hB⟩ hN;refine⟨D q _ F g0,?_⟩;obtain⟨ed,el,et⟩:=hE'.out.lt e (by rw[eE];simp);have r:(A++[e]).foldl (ebF W aX k) []=ebF W aX k (A.foldl (ebF W aX k) []) e:=by rw[aaq];rfl
 have S:=eY.mk hN;clear hN eE hR1 k2 R gb0;rw[r] at S;generalize A.foldl (ebF W aX k) []=B0 at *;clear r;simp only[evE];walk_at "";have y:=D.wlk n0 hw0;obtain⟨pw,gw,_⟩:=y.ex;have lm:=qQ (W:=W) (aX:=aX) (p:=pw) (m:="fillings_at") adx;walk_at "t";try rw[gw,FZ]
 refine⟨lm,a,W,aX,k,e.1,rfl,hW,y,hk,ed,λO X=>?_⟩;have npf:j≠O:=bf M X;have flen:(fls W aX k e.1).length<=256:=W_ (Zh _ _) (by rw[p_];exact t2);have kb1:Kb1 j H0 (aY H O (.lst ((fls W aX k e.1).map bF))):=D.new X;have gb1:aY H O (.lst ((fls W aX k e.1).map bF)) j=ab (.dci (dI evT B0)):=by rw[aD npf];exact M
 have gf1:aY H O (.lst ((fls W aX k e.1).map bF)) O=ab (.lst ((fls W aX k e.1).map bF)):=aA;generalize aY H O (.lst ((fls W aX k e.1).map bF))=H5 at kb1 gb1 gf1 |-;clear D M y gw lm X;try walk_at ""
 refine aN bF (fls W aX k e.1) (λA2 V H=>∃(J I v:Option T),V=[ab (.ref a),ab (.int (k:Int)),ab (.ref q),ab (.ref j),ab (.int (e.1:Int)),ab (evT e.2),J,I,v]/\Kb1 j H0 H/\H O=ab (.lst ((fls W aX k e.1).map bF))/\H j=ab (.dci (dI evT (A2.foldl (stp W e.1 e.2) B0)))/\EOk W (n+1) (A2.foldl (stp W e.1 e.2) B0)) ⟨_,_,_,rfl,kb1,gf1,gb1,hB⟩ ?_ ?_
 .rintro V H ⟨J,I,v,rfl,D,gf,M,L⟩;refine⟨.inl gf,?_⟩;exact S.out _ _ ⟨_,_,_,_,_,rfl,D,M,L⟩
 rintro A2 f B2 V H N eF ⟨J,I,v,rfl,D,gf,M,L⟩ hN2;refine⟨.inl gf,?_⟩;have hf:f∈fls W aX k e.1:=by rw[eF];simp
 have hft:=(acn.mp hf).1;have hon:=sZ hW ed hf;have r:(A2++[f]).foldl (stp W e.1 e.2) B0=stp W e.1 e.2 (A2.foldl (stp W e.1 e.2) B0) f:=by rw[aaq];rfl
 have hB3:=L.stp hW ed el et hf;have hlen:=L.len;have G:=eY.mk hN2;clear hN2 eF S kb1 gf1 gb1 hB;rw[r] at G;generalize A2.foldl (stp W e.1 e.2) B0=x at *;clear r;have y:=D.wlk n0 hw0;obtain⟨pw,gw,_⟩:=y.ex;have lm:=qQ (W:=W) (aX:=aX) (p:=pw) (m:="load_at") adx;have U:=Ao hW (pk W f);have cp:Oe (cL W.tasks (pk W f)) 2:=⟨rfl,oU U.1 U.2⟩;have hN3:eY (∀(J I v:Option T) (H':eH),Kb1 j H0 H'->H' O=ab (.lst ((fls W aX k e.1).map bF))->H' j=ab (.dci (dI evT (stp W e.1 e.2 x f)))->N [ab (.ref a),ab (.int (k:Int)),ab (.ref q),ab (.ref j),ab (.int (e.1:Int)),ab (evT e.2),J,I,v] H'):=⟨λJ I v H' h1 h2 h3=>G.out _ _ ⟨J,I,v,rfl,h1,h2,h3,hB3⟩⟩;clear G hB3;simp only[evT,bF];walk_at "s";refine⟨by first | trivial | exact lm,a,W,aX,f,rfl,hW,y,hft,?_⟩;refine⟨cp,?_⟩;show qw (v0 e.2.1) (v0 (ldN W f^2)) H _;rw[Eg];clear y gw lm cp U;walk_at "n";walk_at "s";rw[show (e.1:Int)+(f:Int)=((e.1+f:Nat):Int) by push_cast;rfl];walk_at "n";have lk:=jX evT (e.1+f) x;have pt:=Hg evT (e.1+f) (e.2.1+ldN W f^2,e.2.2++[f]) x;have dl:=Hf evT x;have hst:stp W e.1 e.2 x f=match cC (e.1+f) x with
   |none=>putN (e.1+f) (e.2.1+ldN W f^2,e.2.2++[f]) x
   |some u=>if e.2.1+ldN W f^2<u.1 then putN (e.1+f) (e.2.1+ldN W f^2,e.2.2++[f]) x else x:=rfl
 have et2:evT (e.2.1+ldN W f^2,e.2.2++[f])=.tup [.int (e.2.1+ldN W f^2),.tup (e.2.2.map bF++[.int (f:Int)])]:=by unfold evT;rw[v_];rfl
 rw[et2] at pt;have yes:eY (stp W e.1 e.2 x f=putN (e.1+f) (e.2.1+ldN W f^2,e.2.2++[f]) x->∀v,N [ab (.ref a),ab (.int (k:Int)),ab (.ref q),ab (.ref j),ab (.int (e.1:Int)),ab (evT e.2),ab (.int (f:Int)),ab (.int (e.2.1+ldN W f^2)),v] (aY H j (.dci (pK ((e.1+f:Nat):Int) (.tup [.int (e.2.1+ldN W f^2),.tup (e.2.2.map bF++[.int (f:Int)])]) (dI evT x))))):=⟨λz v=>hN3.out _ _ _ _ D.put (by rw[aD (a6 npf)];exact gf) (by rw[aA,z,<- pt])⟩;have no:eY (stp W e.1 e.2 x f=x->∀v,N [ab (.ref a),ab (.int (k:Int)),ab (.ref q),ab (.ref j),ab (.int (e.1:Int)),ab (evT e.2),ab (.int (f:Int)),ab (.int (e.2.1+ldN W f^2)),v] H):=⟨λz v=>hN3.out _ _ _ _ D gf (by rw[z];exact M)⟩;clear hN3 pt et2;generalize e.2.1+ldN W f^2=Z at *;have t:=eY.mk hst;clear hst;simp only[evT] at yes no;cases el2:cC (e.1+f) x with
 |none=>rw[el2] at lk t;rw[fE] at lk;walk_at "";exact⟨adC,adC,adC,adC,yes.out t.out _⟩
 |some u =>
 rw[el2] at lk t;rw[abo] at lk;simp only[evT] at lk;walk_at "";by_cases c:Z<u.1
 .have hz:=t.out;simp only[c,if_true] at hz;simp only[c,aaI,if_true];exact⟨adC,adC,adC,adC,yes.out hz _⟩
 have hz:=t.out;simp only[c,Zj] at hz;simp only[c,aas,I_,Zj];exact no.out hz _
abbrev j6:List ai:=["works","many","loads","low","high","middle"]
theorem ab5:eG j6 ["works","many"] (aB (top 34)):=bx
theorem pP (g:G3 K mg "least_beat" (top 34) ["works","many"] f fd) (B:Bl mg) (b:mY P w K mg base 1 "loads_rising" (top 33) ["works"] XS) (a:mY P w K mg base 7 "dealing_to" (top 31) ["works","beat","many"] T9):mY P w K mg base 8 "least_beat" (top 34) ["works","many"] XX:=by
 refine c6 g ab5 ?_;rintro _ A _ s H _ ts _ _ r ⟨W,m,rfl,y,h5,F,V⟩;refine⟨_,(ak (aF 2 ab5.nd (aK b r rfl (aa adG aj)))
   (ak (bD (aP qC (aK a r rfl (aa adG (aa (aJ pA adI (rQ aq)) (aa adH aj)))) dH) (ao (aH dH)) aW)
   (ak (aF 3 ab5.nd aq)
   (ak (aF 4 ab5.nd (aL kI (aM bH rfl B.len_ bI (aa adI aj)) aq))
   (ak (jL q_ (aP qu adJ adK) (ak (aF 5 ab5.nd (aL f9 (aL bh adJ adK) aq))
    (ao (bD (aP qC (aK a r rfl (aa adG (aa (aJ pA adI adM) (aa adH aj)))) dH) (ao (aF 3 ab5.nd (aL bh adM aq))) (ao (aF 4 ab5.nd adM))))))
   (ao (aH (aJ pA adI adJ)))))))),?_⟩
 walk_at "q";walk_at "h";have G:=eY.mk V;clear V;walk_at "s";refine⟨W,rfl,y,h5,λH4 p us sb r gp=>?_⟩;have hl:=tE W.tasks;have hne:0<us.length:=by
  obtain⟨i,e,_⟩:=ZG ((r.2 0).mpr ((show ∀ts,(0:Int)∈alD ts from λts=>by
   refine snoc_ind (C:=λts=>(0:Int)∈alD ts) (e_.mpr rfl) (λA t ih=>?_) ts
   rw[j4]
   exact Zq _ ih) W.tasks))
  omega
 walk_at "n";obtain⟨j,ej⟩:∃j,j+1=us.length:=⟨us.length - 1,adC⟩;have U:j<us.length:=adC
 have at1:atI (us.map v0) (-1)=ab (.int us[j]):=by have S:=Zi j us;rw[Z3 U,Z6 adC] at S;have X:=T_ (si v0) S;rw[v_] at X;rw[<- X];exact uf _ _
 have l:=eY.mk r;clear r;walk_at "s";refine⟨W,us[j],m,rfl,y,F,?_⟩;rcases Hq (aX:=us[j]) y F with ⟨q,u⟩ | ⟨⟨xs,q⟩,u⟩
 .rw[q,aca (show isN .non=ag from rfl)];exact lu.of bc.refl (G.out H4 .non sb (Mj l.out ej u))
 rw[q,ace (show ¬isN (.tup xs)=ag from B_)];clear q at1;walk_at "n";walk_at "s";walk_at "n";walk_at "s";walk_at "n";rw[show ((us.length:Int) - 1)=(j:Int) by omega];refine au λR4 x=>?_;refine⟨λn Y H=>∃(k e:Nat) (v5:Option T) (z:e<us.length),Y=[ab W.enc,ab (.int (m:Int)),ab (.ref p),ab (.int (k:Int)),ab (.int (e:Int)),v5]/\H=H4/\k<=e/\n=e - k/\Can W m us[e]/\∀i (e:i<us.length),i<k->¬Can W m us[i],⟨_,0,j,_,U,rfl,rfl,adC,rfl,u,λi _ h=>ach h (kq _)⟩,?_⟩;rintro n Y H ⟨k,e,v5,z,rfl,rfl,hlh,rfl,ch,D⟩;obtain⟨d,R⟩:∃d:Nat,d=(k+e) / 2:=⟨_,rfl⟩;have ed:((k:Int)+(e:Int)) / 2=(d:Int):=adC
 have at2:∀i (h:i<us.length),atI (us.map v0) (i:Int)=ab (.int us[i]):=λi h=>bM (by rw[J_,g_ h];rfl);have o:=x;clear x;by_cases c:k<e
 .have v:d<us.length:=adC
  have hd1:k<=d:=adC
  have hd2:d<e:=adC
  clear R;have at3:=at2 d v;have cd:DN ((k:Int)+(e:Int)) 2:=⟨adC,adx⟩;have I:=eY.mk ch;have M:=eY.mk D;have Z:=eY.mk at2;have c':decide ((k:Int)<(e:Int))=ag:=A_ adC;have N:=l;clear ch D at2 G l o;walk_at "";refine⟨by first | trivial | exact cd,W,us[d],m,rfl,y,F,?_⟩;rcases Hq (aX:=us[d]) y F with ⟨q,u⟩ | ⟨⟨xs,q⟩,u⟩
  .rw[q,aca (show isN .non=ag from rfl)];refine⟨e - (d+1),adC,d+1,e,_,z,by push_cast;rfl,rfl,adC,rfl,I.out,λi L hlt hx=>u (hx.mono (yj N.out.1 L v adC))⟩
  rw[q,ace (show ¬isN (.tup xs)=ag from B_)];exact⟨d - k,adC,k,d,_,v,rfl,rfl,adC,rfl,u,M.out⟩
 obtain rfl:k=e:=by omega
 have c':decide ((k:Int)<(k:Int))=ah:=x_ adC;have at3:=at2 k z;have J:=eY.mk (G.out H _ sb (Ml l.out z ch D));clear at2 ch D G l ed R;walk_at "";obtain⟨o⟩:=o;subst o;try dsimp only
 walk_at "";exact lu.of bc.refl J.out
abbrev fW:List ai:=["works","loads","name","length","kinds"]
theorem RB:eG fW ["works"] (aB (top 33)):=bx
theorem mj (g:G3 K mg "loads_rising" (top 33) ["works"] f R) (B:Bl mg):mY P w K mg base 1 "loads_rising" (top 33) ["works"] XS:=by
 refine c6 g RB ?_;rintro _ A _ s H _ _ H3 _ _ ⟨W,rfl,hW,Z,J⟩;refine⟨_,(ak (aF 1 RB.nd (bL (aa aq aj)))
   (ak (aZ q_ rfl (bO (aJ pA adG aq)) (cI (n:=3) rfl (aG (aC 2 RB.nd) (aG (aC 3 RB.nd) (aG (aC 4 RB.nd) bW)))) (ao (aF 1 RB.nd (aL bh adH (bz rfl (b6 33 fW ["load","length"] 1 [3]) (bR adH) (λcl I s H C0 fp=>⟨(aC 0 (n7 ["load","length"])),bK,(aL bh adG adH)⟩))))))
   (ao (aH (Cg rfl rfl B.sorted_ rfl B.set_ adH))))),?_⟩
 walk_at "q";walk_at "h";have O:=eY.mk J;clear J;walk_at "s";refine⟨adD,λd m=>?_⟩;have c:bc H3 (aY H3 d (.lst [v0 0])):=bc.new m;have C:aY H3 d (.lst [v0 0]) d=ab (.lst ((alD []).map v0)):=aA;generalize aY H3 d (.lst [v0 0])=H4 at c C |-;clear m;walk_at "n";refine au λR1 y=>?_;walk_at "";refine aN tkT W.tasks (λA t H=>∃(q:am) (b v3 a:Option T),t=[ab W.enc,ab (.ref q),b,v3,a]/\bc H3 H/\H q=ab (.lst ((alD A).map v0))) ⟨d,_,_,_,rfl,c,C⟩ ?_ ?_
 .rintro t H ⟨q,b,v3,a,rfl,sb,o⟩;walk_at "t";have hl:=tE W.tasks;have F:2^W.tasks.length<=2^8:=aaY adD Z;generalize alD W.tasks=M at *;walk_at "n";walk_at "";refine⟨adC,λus X p U=>?_⟩;exact lu.of bc.refl (O.out _ p us (sb.trans (bc.new U)) X aA)
 rintro A ⟨x,z,ks⟩ B t H N e ⟨q,b,v3,a,rfl,sb,o⟩ L;walk_at "t";have hA:A.length<8:=by have:=T_ aT e;simp only[a_,i_] at this;omega
 have hl:=tE A;have F:2^A.length<=2^8:=aaY adD adC;have j:eY (∀(r:am) (H':eH) b v3 a,bc H3 H'->H' r=ab (.lst ((alD A).map v0++((alD A).map (·+z)).map v0))->N [ab W.enc,ab (.ref r),b,v3,a] H'):=⟨λr H' b v3 a s1 V=>L _ _ ⟨r,b,v3,a,rfl,s1,by rw[V,j4];unfold alS;rw[v_]⟩⟩;clear L e O y c C;generalize alD A=M at *;simp only[tkT];walk_at "";walk_at "t";walk_at "c";refine bZ v0 (λi=>v0 (i+z)) M [ab (.int z)] (.inl o) adC (λi hi Q' k=>?_) (λY l=>?_)
 .have D:=eY.mk k;clear k j;walk_at "";exact D.out
 have u:q≠Y:=bf o l;rw[aD u,o,jA];refine⟨by rw[b_,b_];omega,λpq v=>?_⟩;exact j.out pq _ _ _ _ ((sb.trans (bc.new l)).trans (bc.new v)) (by rw[aA,X_];rfl)
theorem Zc (i:Nat) {x:ai}{b a g:ka}{k v:Expr}{tk c:vy} (h:X.N.Nodup) (l:o4 X k tk) (f:o4 X v c) (e:X.N[i]?=ab x) (j:Loc X.env.scope x) (d:X.fn x=ag\/X.env.scope.names.lookup x=ab .local):PS3 X (.Assign [.Name x a] (.Dict [ab k] [v] g) b) (uv (jN tk c) (eU i)):=aF _ h (qD l f) e j rfl d
abbrev j7:List ai:=["works","beat","many","walk","ways","stand"]
theorem acd:eG j7 ["works","beat","many"] (aB (top 31)):=bx
theorem pQ (g:G3 K mg "dealing_to" (top 31) ["works","beat","many"] f fd) (B:Bl mg) (l:adf K c ["works","beat","rules","whole"]) (z:MkC P w K mg base c 5 "Walk" ["self","works","beat"] (T6 c)) (d:mY P w K mg base 5 "ways_behind" (top 30) ["walk","stand","ways"] (XJ c)) (k:MtC P w K mg base c 2 "dealing_of" ["self","fillings"] (T8 c)):mY P w K mg base 7 "dealing_to" (top 31) ["works","beat","many"] T9:=by
 refine c6 g acd ?_;rintro _ A _ s H E _ H3 _ U ⟨W,aX,m,rfl,D,hm,kk⟩;have L:=mX.u1 U;refine⟨_,(ak (aF 3 acd.nd (zG z (U.mono adD) rfl (aa adG (aa adH aj))))
   (@ak _ _ _ _ _ (@Zc _ 4 _ _ _ _ _ _ _ _ acd.nd aq (bB aj) rfl (by first | exact gs rfl | exact e6 rfl) (by first | exact .inl rfl | exact .inr rfl | assumption))
   (ak (aZ q_ rfl (aO rfl B.range_ (aa adI aj)) (aC 5 acd.nd) (ao (aF 4 acd.nd (aK d U rfl (aa adJ (aa adM (aa adK aj)))))))
   (ak (bD (jC L (fV l adJ) adK) (ao (aH dH)) aW)
   (ao (aH (jd k (U.mono adD) adJ (aa (nM L adK (fV l adJ)) aj)))))))),?_⟩
 walk_at "q";walk_at "h";have V:=eY.mk kk;clear kk;have t1:=jW W;have r8:W.row.length<=8:=D.r8;walk_at "s";intro a ha;refine⟨a,W,aX,rfl,D,aA,λX kp C=>⟨rfl,?_⟩⟩;have sb:bc H3 X:=λb u I=>kp b u (bf I ha) (by rw[aD (bf I ha)];exact I);clear kp ha;walk_at "n";walk_at "s";intro O t;refine⟨adD,adF,?_⟩;have e0:([(0,v2 [])]:List (Int × T))=dI wyT (wys W aX 0):=rfl;rw[e0];have x:bc H3 (aY X O (.dci (dI wyT (wys W aX 0)))):=sb.trans (bc.new t);have n:=C.sub (bc.new (o:=.dci (dI wyT (wys W aX 0))) t);have r:aY X O (.dci (dI wyT (wys W aX 0))) O=ab (.dci (dI wyT (wys W aX 0))):=aA;have hq3:=cB sb t;generalize aY X O (.dci (dI wyT (wys W aX 0)))=H5 at x r n |-;clear e0 t sb C;walk_at "n";refine au λR2 hR2=>?_;walk_at "";refine⟨adF,adC,adC,?_⟩;rw[eZ];refine aN (λ(j:Nat)=>v0 (j:Int)) (af m) (λA σ H=>∃(q:am) (v5:Option T),σ=[ab W.enc,ab (.int aX),ab (.int (m:Int)),ab (.ref a),ab (.ref q),v5]/\bc H3 H/\H3 q=ae/\Wlk c W aX H a/\H q=ab (.dci (dI wyT (wys W aX A.length)))) ⟨O,_,rfl,x,hq3,n,r⟩ ?_ ?_
 .rintro σ H ⟨q,v5,rfl,sb,hq,C,R⟩;walk_at "t";rw[p_] at R;walk_at "n";obtain⟨pw,gw,_⟩:=C.ex;have f4:=oN (W:=W) (aX:=aX) (p:=pw);have lm:=qQ (W:=W) (aX:=aX) (p:=pw) (m:="dealing_of") adx;have J:=jX wyT (top2 W - 1) (wys W aX m);have ec:((top2 W - 1:Nat):Int)=(top2 W:Int) - 1:=adC
  rw[ec] at J;have G:=V.out;unfold dtT at G;have F:=wtb (W:=W) (aX:=aX) D hm;clear x n r;refine au λR3 hR3=>?_;cases S:cC (top2 W - 1) (wys W aX m) with
  |none=>rw[S] at J G;rw[fE] at J;have k3:=eY.mk G;clear V G hR3 F;walk_at "";simp only[mS,aag,if_true];exact lu.of sb k3.out
  |some v =>
  obtain⟨_,M,Z⟩:=(F.wok D).lt _ (dG S);have hb4:v.length<=m:=M;clear M;rw[S] at J G;rw[abo] at J;simp only[wyT] at J;have k3:=eY.mk G;clear V G F S;generalize wys W aX m=E at *;walk_at "";simp only[abQ,Z0,I_,Zj];walk_at "n";walk_at "";refine⟨by first | trivial | exact lm,a,W,aX,v,rfl,D,C,adC,Z,?_⟩;exact lu.of sb k3.out
 rintro A j B σ H N e ⟨q,v5,rfl,sb,hq,C,R⟩ hN;walk_at "t";have hA:A.length<m:=by have:=T_ aT e;simp only[a_,i_,p_] at this;omega
 have hj:j=A.length:=by
  have h1:(af m)[A.length]?=ab j:=by rw[e,H_ (m_ _)];simp
  rw[aaC hA] at h1;exact (Zg h1).symm
 subst hj;have hN':=eY.mk hN;clear hN e V hR2 x n r;walk_at "";refine⟨a,q,W,aX,A.length,A.length,wys W aX A.length,rfl,D,C,adC,adC,(wtb D adC).wok D,R,λo p2 y=>?_⟩;have nq2:q≠p2:=bf R y;have Y:=C.frz (o:=.dif o (dI wyT (wys W aX A.length))) R;refine hN'.out _ _ ⟨p2,_,rfl,λb u I=>?_,cB sb ?_,Y.sub (bc.new (by rw[aD (a6 nq2)];exact y)),?_⟩
 .rw[aD (bf (sb b u I) ?_),aD (bf I hq)]
  .exact sb b u I
  exact y
 .exact y
 rw[aA,a_];rfl
abbrev jq:List ai:=["walk","stand","ways","behind","done","fillings","filling"]
theorem ab6:eG jq ["walk","stand","ways"] (aB (top 30)):=bx
theorem oX (g:G3 K mg "ways_behind" (top 30) ["walk","stand","ways"] f fd) (B:Bl mg) (I_Walk:adf K c ["works","beat","rules","whole"]) (d:MtC P w K mg base c 4 "greatest_at" ["self","stand","done"] (XH c)):mY P w K mg base 5 "ways_behind" (top 30) ["walk","stand","ways"] (XJ c):=by
 refine c6 g ab6 ?_;rintro _ A _ s H E _ H3 _ hr ⟨a,q,W,aX,k,n,E,rfl,hW,hw,hk,hn,hE,hq,kk⟩;refine⟨_,(ak (aF 3 ab6.nd uZ)
   (ak (aZ q_ rfl (u5 adI) (cI (n:=2) rfl (aG (aC 4 ab6.nd) (aG (aC 5 ab6.nd) bW))) (ao (aZ q_ rfl (bR (jd d (hr.mono adD) adG (aa adH (aa adK aj)))) (aC 6 ab6.nd) (ao (bQ (J0 adJ (aL bh adK adO) (aL bh adM (bB (aa adO aj)))))))))
   (ao (aH adJ)))),?_⟩
 walk_at "q";walk_at "h";have k':=eY.mk kk;clear kk;have t2:=mO hW;have hE':=eY.mk hE;clear hE;walk_at "s";intro l U;have x:q≠l:=bf hq U;walk_at "n";refine au λR1 hR1=>?_;have gq:aY H3 l (.dci []) q=ab (.dci (dI wyT E)):=by rw[aD x];exact hq
 walk_at "";intro o;rw[XD];have hw0:Wlk c W aX (aY H3 q (.dif o (dI wyT E))) a:=hw.frz hq;have g0:aY H3 q (.dif o (dI wyT E)) q=ab (.dif o (dI wyT E)):=aA;have n0:aY H3 q (.dif o (dI wyT E)) l=ae:=by rw[aD (a6 x)];exact U
 have J:Kb1 l (aY H3 q (.dif o (dI wyT E))) (aY (aY H3 l (.dci [])) q (.dif o (dI wyT E))):=λb u hb h=>by
  by_cases e:b=q
  .subst e;rw[aA] at h |-;exact h
  rw[aD e] at h |-;rw[aD hb];exact h
 have X:aY (aY H3 l (.dci [])) q (.dif o (dI wyT E)) l=ab (.dci (dI wyT [])):=by rw[aD (a6 x),aA];rfl
 have k2:=eY.mk (k'.out o l U);generalize aY (aY H3 l (.dci [])) q (.dif o (dI wyT E))=H4 at J X |-;generalize aY H3 q (.dif o (dI wyT E))=H0 at *;clear k' gq hq hw;refine aN wyE E (λA R H=>∃(v4 v5 r:Option T),R=[ab (.ref a),ab (.int (k:Int)),ab (.ref q),ab (.ref l),v4,v5,r]/\Kb1 l H0 H/\H l=ab (.dci (dI wyT (A.foldl (wbF W aX k) [])))/\WOk W (n+1) (A.foldl (wbF W aX k) [])) ⟨_,_,_,rfl,J,X,⟨aaA,λ_ z=>(nomatch z)⟩⟩ ?_ ?_
 .rintro R H ⟨v4,v5,r,rfl,v,F,_⟩;refine⟨v q _ x g0,?_⟩;walk_at "n";walk_at "";refine lu.of (λb u hb=>?_) k2.out;by_cases e:b=l
  .subst e;rw[aA] at hb;rw[F,<- hb];rfl
  rw[aD e] at hb;exact v b u e hb
 rintro A e B R H N eE ⟨v4,v5,r,rfl,v,F,hB⟩ hN;refine⟨v q _ x g0,?_⟩;obtain⟨ed,el,et⟩:=hE'.out.lt e (by rw[eE];simp);have j:(A++[e]).foldl (wbF W aX k) []=wbF W aX k (A.foldl (wbF W aX k) []) e:=by rw[aaq];rfl
 have L:=eY.mk hN;clear hN eE hR1 k2 J X;rw[j] at L;generalize A.foldl (wbF W aX k) []=B0 at *;clear j;simp only[wyE];walk_at "";have M:=v.wlk n0 hw0;obtain⟨pw,gw,_⟩:=M.ex;have lm:=qQ (W:=W) (aX:=aX) (p:=pw) (m:="greatest_at") adx;walk_at "t";try rw[gw,FZ]
 refine⟨lm,a,W,aX,k,e.1,rfl,hW,M,hk,ed,λI S=>?_⟩;have npf:l≠I:=bf F S;have flen:(gfl W aX k e.1).length<=256:=by have:=tD bU (fls W aX k e.1);have h2:(fls W aX k e.1).length<=256:=W_ (Zh _ _) (by rw[p_];exact t2);unfold gfl;rw[aal];omega
 have Y:Kb1 l H0 (aY H I (.lst ((gfl W aX k e.1).map bF))):=v.new S;have V:aY H I (.lst ((gfl W aX k e.1).map bF)) l=ab (.dci (dI wyT B0)):=by rw[aD npf];exact F
 have Z:aY H I (.lst ((gfl W aX k e.1).map bF)) I=ab (.lst ((gfl W aX k e.1).map bF)):=aA;generalize aY H I (.lst ((gfl W aX k e.1).map bF))=H5 at Y V Z |-;clear v F M gw lm S;try walk_at ""
 refine aN bF (gfl W aX k e.1) (λA2 R H=>∃(r:Option T),R=[ab (.ref a),ab (.int (k:Int)),ab (.ref q),ab (.ref l),ab (.int (e.1:Int)),ab (wyT e.2),r]/\Kb1 l H0 H/\H I=ab (.lst ((gfl W aX k e.1).map bF))/\H l=ab (.dci (dI wyT (A2.foldl (jl e.1 e.2) B0)))/\WOk W (n+1) (A2.foldl (jl e.1 e.2) B0)) ⟨_,rfl,Y,Z,V,hB⟩ ?_ ?_
 .rintro R H ⟨r,rfl,v,gf,F,C⟩;refine⟨.inl gf,?_⟩;exact L.out _ _ ⟨_,_,_,rfl,v,F,C⟩
 rintro A2 f B2 R H N eF ⟨r,rfl,v,gf,F,C⟩ hN2;refine⟨.inl gf,?_⟩;have hf:f∈fls W aX k e.1:=tu (by rw[eF];simp);have j:(A2++[f]).foldl (jl e.1 e.2) B0=jl e.1 e.2 (A2.foldl (jl e.1 e.2) B0) f:=by rw[aaq];rfl
 have hB3:=C.stp hW ed el et hf;have hlen:=C.len;have y:=eY.mk hN2;clear hN2 eF L Y Z V hB;rw[j] at y;generalize A2.foldl (jl e.1 e.2) B0=D at *;clear j;have G:eY (∀(r:Option T) (H':eH),Kb1 l H0 H'->H' I=ab (.lst ((gfl W aX k e.1).map bF))->H' l=ab (.dci (dI wyT (jl e.1 e.2 D f)))->N [ab (.ref a),ab (.int (k:Int)),ab (.ref q),ab (.ref l),ab (.int (e.1:Int)),ab (wyT e.2),r] H'):=⟨λr H' h1 h2 h3=>y.out _ _ ⟨r,rfl,h1,h2,h3,hB3⟩⟩;clear y hB3;have lk:=jX wyT (e.1+f) D;have pt:=Hg wyT (e.1+f) (e.2++[f]) D;have dl:=Hf wyT D;have O:wyT (e.2++[f])=.tup (e.2.map bF++[.int (f:Int)]):=by unfold wyT;rw[v_];rfl
 have ec:((e.1+f:Nat):Int)=(e.1:Int)+(f:Int):=by push_cast;rfl
 rw[O,ec] at pt;rw[ec] at lk;have hst:jl e.1 e.2 D f=match cC (e.1+f) D with
   |none=>putN (e.1+f) (e.2++[f]) D
   |some _=>D:=rfl
 have t:=eY.mk hst;clear hst;try simp only[wyT,bF] at pt
 simp only[wyT,bF];cases el2:cC (e.1+f) D with
 |none =>
  rw[el2] at lk t;rw[fE] at lk;have yes:=eY.mk (λr=>G.out r _ v.put (by rw[aD (a6 npf)];exact gf) (by rw[aA,t.out,<- pt]));try simp only[wyT,bF] at yes
  clear G pt O;walk_at "";exact⟨adF,adC,adC,adC,yes.out _⟩
 |some u =>
 rw[el2] at lk t;rw[abo] at lk;have no:=eY.mk (λr=>G.out r H v gf (by rw[t.out];exact F));try simp only[wyT,bF] at no
 clear G pt O;walk_at "";exact⟨adF,adC,adC,adC,no.out _⟩
abbrev cP:List ai:=["self","stand","done"]
theorem oY:eG cP cP (aB (acl 24 2)):=bx
theorem oZ (g:GM K c "greatest_at" "Walk.greatest_at" (acl 24 2) cP f D) (B:Bl mg) (q:adf K c ["works","beat","rules","whole"]) (i:mY P w K mg base 2 "greatest_numbers" (top 19) ["numbers"] XF) (j:MtC P w K mg base c 3 "fillings_at" cP (T7 c)):MtC P w K mg base c 4 "greatest_at" cP (XH c):=by
 refine⟨g.cls,f,D,g.mt,g.b,?_⟩;refine fn3 g.fn oY (λts H Q h=>?_) (λF A u s H E ts H3 Q z h=>?_)
 .obtain⟨a,W,aX,k,d,rfl,_⟩:=h;rfl
 obtain⟨a,W,aX,k,d,rfl,C,x,M,G,y⟩:=h;refine⟨_,(ao (aH (aK i z rfl (aa (jd j (z.mono adD) adG (aa adH (aa adI aj))) aj)))),?_⟩;walk_at "q";walk_at "h";have N:=eY.mk y;clear y;have O:=mO C;obtain⟨J,R,_⟩:=x.ex;have L:=qQ (W:=W) (aX:=aX) (p:=J) (m:="fillings_at") adx;walk_at "";refine⟨by first | trivial | exact L,a,W,aX,k,d,rfl,C,x,M,G,λv t=>?_⟩;have n:(fls W aX k d).length<=256:=W_ (Zh _ _) (by rw[p_];exact O);refine⟨v,fls W aX k d,rfl,aA,n,λp I=>?_⟩;have l:bc H3 (aY H3 v (.lst ((fls W aX k d).map bF))):=bc.new t;refine lu.of ?_ (N.out p (cB l I));intro b o r;by_cases e:b=p
 .subst e;rw[aA] at r |-;exact r
 rw[aD e] at r |-;exact l b o r
def Ue:Sp3:=λts H Q=>∃W:Wk,ts=[W.enc]/\lz W/\∀p,H p=ae->Q (.ref p) (aY H p (.lst ((lkW ["with"] W).map orT)))
def Ug:Sp3:=λts H Q=>∃(x:T) (L:List (ai × ai)) (s:ai),ts=[x,.str s]/\((∃a,x=.ref a/\H a=ab (.lst (L.map orT)))\/x=.tup (L.map orT))/\L.length<=100 /\
 ∀(p:am) (kvs:List (ai × T)),H p=ae->(∀z,(aR z kvs).isSome=ag↔RT (λa b=>(a,b)∈L) s z)->Q (.ref p) (aY H p (.dct kvs))
def Uh:Sp3:=λts H Q=>∃(W:Wk) (t:ai),ts=[W.enc,.str t]/\lz W/\∀(p:am) (kvs:List (ai × T)),H p=ae->(∀z,(aR z kvs).isSome=ag↔RT (lkR ["with"] W) t z)->Q (.ref p) (aY H p (.dct kvs))
def Ui:Sp3:=λts H Q=>∃(W:Wk) (t:ai),ts=[W.enc,.str t]/\lz W/\∀(p:am) (kvs:List (ai × T)),H p=ae->(∀z,(aR z kvs).isSome=ag↔RT (lkR ["with"] W) z t)->Q (.ref p) (aY H p (.dct kvs))
def X5:Sp3:=λts H Q=>∃(W:Wk) (a b:am) (c d:List (ai × T)),ts=[W.enc,.ref a,.ref b]/\lz W/\H a=ab (.dct c)/\H b=ab (.dct d)/\Q (sT ((W.tasks.map (·.1)).filter λx=>(aR x c).isSome&&(aR x d).isSome)) H
def X6:Sp3:=λts H Q=>∃(W:Wk) (a b:am) (c d:List (ai × T)),ts=[W.enc,.ref a,.ref b]/\lz W/\H a=ab (.dct c)/\H b=ab (.dct d)/\Q (sT ((W.tasks.map (·.1)).filter λx=>(aR x c).isSome&&!(aR x d).isSome)) H
def X7:Sp3:=λts H Q=>∃(W:Wk) (t:ai),ts=[W.enc,.str t]/\lz W/\Q (sT (gH W t)) H
def X8:Sp3:=λts H Q=>∃(W:Wk) (t:ai),ts=[W.enc,.str t]/\lz W/\Q (sT (jE W t)) H
abbrev o5:List ai:=["works","links","word","one","other"]
theorem acq:eG o5 ["works"] (aB (top 4)):=bx
theorem vV (g:G3 K mg "links_of" (top 4) ["works"] f F) (B:Bl mg):mY P w K mg base 1 "links_of" (top 4) ["works"] Ue:=by
 refine c6 g acq ?_;rintro _ A _ _ H _ _ H3 _ L ⟨⟨tk,c,prs,j⟩,rfl,v,k⟩;have l:=mX.u30 L;refine⟨_,(ak (aF 1 acq.nd (bJ mC rfl B.list_ iZ (aa (aJ pA adG aq) aj)))
   (ak (aZ q_ rfl (bO (aJ pA adG aq)) (cI (n:=3) rfl (aG (aC 2 acq.nd) (aG (aC 3 acq.nd) (aG (aC 4 acq.nd) bW)))) (ao (bD (aP (cY l) adI cR) (ak (bQ (di N_ Q_ R_ bC adH (aa (bB (aa adJ (aa adK aj))) aj)))
     (ao (bQ (di N_ Q_ R_ bC adH (aa (bB (aa adK (aa adJ aj))) aj))))) aW)))
   (ao (aH adH)))),?_⟩
 walk_at "q";walk_at "h";have y:c.length<=28:=v.os;have D:prs.length<=12:=v.ps;walk_at "";intro p J;refine aN prT prs (λA u H=>∃(t v3 m:Option T),u=[ab (v2 [v2 (tk.map tkT),v2 (c.map orT),v2 (prs.map prT),v2 (j.map v1)]),ab (.ref p),t,v3,m]/\H=aY H3 p (.lst ((c++A.flatMap (lkP ["with"])).map orT))) ⟨ae,ae,ae,rfl,adE⟩ ?_ ?_
 .rintro u H ⟨t,v3,m,rfl,rfl⟩;walk_at "t";walk_at "";exact lu.of bc.refl (k p J)
 rintro A ⟨w,a,b⟩ B u H N e ⟨t,v3,m,rfl,rfl⟩ z;have M:=sI ["with"] A;have O:A.length<=12:=by have:=T_ aT e;simp only[a_,i_] at this;omega
 have o:(c++A.flatMap (lkP ["with"])).length<=52:=by rw[a_];omega
 have d:N [ab (v2 [v2 (tk.map tkT),v2 (c.map orT),v2 (prs.map prT),v2 (j.map v1)]),ab (.ref p),ab (.str w),ab (.str a),ab (.str b)] (aY H3 p (.lst ((c++A.flatMap (lkP ["with"])).map orT++(lkP ["with"] (w,a,b)).map orT))):=z _ _ ⟨_,_,_,rfl,by rw[List.flatMap_append,<- y_,v_];simp⟩;generalize c++A.flatMap (lkP ["with"])=I at d o;replace d:=eY.mk d;walk_at "t";clear z e k v M;simp only[prT];walk_at "";walk_at "t";by_cases q:w="with"
 .subst q;have r:lkP ["with"] ("with",a,b)=[(a,b),(b,a)]:=by unfold lkP;simp
  rw[r] at d;try simp only[aaI,if_true]
  refine⟨⟨adF,adF⟩,adC,adC,⟨adF,adF⟩,adC,by simp;omega,?_⟩;have C:=d.out;simp only[D_,Z5,orT] at C;rw[y_];exact C
 have r:lkP ["with"] (w,a,b)=[]:=by unfold lkP;simp [q]
 rw[r,Z5,P_] at d;simp only[q,aas,I_,Zj];exact d.out
abbrev qT:List ai:=["links","start","found","grown","one","other"]
theorem acf:eG qT ["links","start"] (aB (top 5)):=bx
theorem yt (g:G3 K mg "reached" (top 5) ["links","start"] f fd) (B:Bl mg):mY P w K mg base 1 "reached" (top 5) ["links","start"] Ug:=by
 refine c6 g acf ?_;rintro _ A _ _ H _ _ H3 _ hr ⟨x,L,t,rfl,hx,hL,k⟩;have J:=mX.u1 hr;refine⟨_,(ak (aF 2 acf.nd (Ep adH eN))
   (ak (aF 3 acf.nd eN)
   (ak (jL q_ (cH adJ) (ak (aF 3 acf.nd eN)
    (ao (aZ q_ rfl (JG 0) (cI (n:=2) rfl (aG (aC 4 acf.nd) (aG (aC 5 acf.nd) bW))) (ao (bD (PW3.pt (cT (rK J adK adI) (cM (qz J adM adI)))) (ak (jM J adI adM eN)
      (ao (aF 3 acf.nd eN))) aW))))))
   (ao (aH adI))))),?_⟩
 walk_at "q";walk_at "h";walk_at "";intro p hp;walk_at "t";rw[Te];refine⟨λm O H=>∃(F:List ai) (g:Bool) (C G:Option T),O=[ab x,ab (.str t),ab (.ref p),ab (.bl g),C,G]/\H=aY H3 p (.dct (dF F))/\t∈F/\F.Nodup/\(∀z∈F,RT (λa b=>(a,b)∈L) t z)/\(g=ah->∀a b,(a,b)∈L->a∈F->b∈F)/\m=2*(L.length+1 - F.length)+(if g then 1 else 0),
  ⟨_,[t],ag,ae,ae,rfl,rfl,k_,adE,(λz hz=>by rw[e_.mp hz];exact .refl),(λz=>nomatch z),rfl⟩,?_⟩
 have d:∀F:List ai,F.Nodup->(∀z∈F,RT (λa b=>(a,b)∈L) t z)->F.length<=L.length+1:=λF S hF=>by
  have:=kY (l:=F) (m:=t::L.map (·.2)) S λz hz=>by
   cases hF z hz with
   |refl=>exact k_
   |step _ r=>exact u_ _ (l_.mpr ⟨_,r,rfl⟩)
  simpa using this
 rintro m O H ⟨F,g,C,G,rfl,rfl,hs,S,hR,hg,rfl⟩;walk_at "";cases g with
 |false=>simp only[I_,Zj];refine lu.of bc.refl (k p _ hp λz=>?_);rw[mK,j_];exact⟨hR z,λh=>W5 hs (hg rfl) h⟩
 |true =>
  try simp only[if_true]
  have U:(∃a,x=.ref a/\aY H3 p (.dct (dF F)) a=ab (.lst (L.map orT)))\/x=.tup (L.map orT):=by
   rcases hx with ⟨a,rfl,e⟩ | e
   ·
    exact .inl ⟨a,rfl,by rw[aD (bf e hp)];exact e⟩
   ·
    exact .inr e
  refine Gy U λstill V=>?_
  have v:∀c,still (aY H3 p (.dct (dF c))):=by
   rcases V with rfl | ⟨a,rfl,e⟩
   ·
    exact λ_=>trivial
   ·
    have X:a≠p:=λz=>by subst z;rw[aA] at e;cases e
    rw[aD X] at e
    exact λc=>.inl (by rw[aD X];exact e)
  refine aN orT L (λA O H=>∃(c:List ai) (g':Bool) (C G:Option T),O=[ab x,ab (.str t),ab (.ref p),ab (.bl g'),C,G]/\H=aY H3 p (.dct (dF c))/\t∈c/\c.Nodup/\(∀z∈c,RT (λa b=>(a,b)∈L) t z)/\(g'=ah->c=F/\∀o∈A,o.1∈F->o.2∈F)/\(g'=ag->F.length<c.length)) ⟨F,ah,C,G,rfl,rfl,hs,S,hR,λ_=>⟨rfl,(λ_ h=>nomatch h)⟩,(λz=>nomatch z)⟩ ?_ ?_
  ·
   rintro O H ⟨c,g',C,G,rfl,rfl,u,q,j,R,Y⟩
   refine⟨v c,?_⟩
   have b1:=d F S hR
   have b2:=d c q j
   cases g' with
   |true =>
    have:=Y rfl
    exact⟨_,by simp only[if_true];omega,c,ag,C,G,rfl,rfl,u,q,j,(λz=>nomatch z),rfl⟩
   |false =>
    obtain⟨e,hc⟩:=R rfl
    subst e
    exact⟨_,adE,c,ah,C,G,rfl,rfl,u,q,j,λ_ a b D y=>hc (a,b) D y,rfl⟩
  ·
   rintro A ⟨a,b⟩ B O H N e ⟨c,g',C,G,rfl,rfl,u,q,j,R,Y⟩ hN
   refine⟨v c,?_⟩
   have D:(a,b)∈L:=by rw[e];simp
   have b2:=d c q j
   have l1:=mK a c
   have l2:=mK b c
   have l3:=Td c
   have Z:¬(a∈c/\b∉c)->N [ab x,ab (.str t),ab (.ref p),ab (.bl g'),ab (.str a),ab (.str b)] (aY H3 p (.dct (dF c))):=λhno=>hN _ _ ⟨c,g',_,_,rfl,rfl,u,q,j,λhg'=>by
    obtain⟨e1,hc⟩:=R hg'
    subst e1
    refine⟨rfl,λo W=>?_⟩
    rcases t_.mp W with W | W
    ·
     exact hc o W
    ·
     rw[e_.mp W]
     intro y
     exact hh λI=>hno ⟨y,I⟩,Y⟩
   have M:a∈c->b∉c->N [ab x,ab (.str t),ab (.ref p),ab (.bl ag),ab (.str a),ab (.str b)] (aY H3 p (.dct (put3 b (T.bl ag) (dF c)))):=λy I=>by
    rw[Tc I]
    refine hN _ _ ⟨c++[b],ag,_,_,rfl,rfl,Zq _ u,iW q I,λz hz=>?_,(λz=>nomatch z),λ_=>?_⟩
    ·
     rcases t_.mp hz with hz | hz
     ·
      exact j z hz
     ·
      rw[e_.mp hz]
      exact .step (j a y) D
    ·
     rw[a_,M_]
     cases g' with
     |true=>have:=Y rfl;omega
     |false=>obtain⟨e1,_⟩:=R rfl;subst e1;omega
   replace Z:=eY.mk Z
   replace M:=eY.mk M
   clear hN R Y v V d k hx U hg hR j S q hs u e D
   simp only[orT]
   walk_at ""
   walk_at "t"
   by_cases y:a∈c
   ·
    simp only[y,aaI,if_true]
    by_cases I:b∈c
    ·
     simp only[I,aaI,Z0,I_,Zj]
     exact Z.out λz=>z.2 I
    ·
     simp only[I,aas,aag,if_true]
     exact⟨adC,M.out y I⟩
   ·
    simp only[y,aas,I_,Zj]
    exact Z.out λz=>y z.1
abbrev iU:List ai:=["works","task"]
theorem Cw:eG iU iU (aB (top 6)):=bx
theorem Cy (g:G3 K mg "led_to" (top 6) iU f m) (B:Bl mg) (c:mY P w K mg base 1 "reached" (top 5) ["links","start"] Ug) (b:mY P w K mg base 1 "links_of" (top 4) ["works"] Ue):mY P w K mg base 2 "led_to" (top 6) iU Uh:=by
 refine c6 g Cw ?_;rintro _ _ _ _ _ _ _ _ _ l ⟨W,t,rfl,j,k⟩;refine⟨_,(ao (aH (aK c l rfl (aa (aK b l rfl (aa adG aj)) (aa adH aj))))),?_⟩;walk_at "q";walk_at "";refine⟨W,rfl,j,λq r=>?_⟩;try dsimp only
 refine⟨_,lkW ["with"] W,t,rfl,.inl ⟨q,rfl,aA⟩,W_ (z9 j) adD,λp kvs d u=>?_⟩;obtain⟨v,d⟩:=cA d;refine lu.of (λa o e=>?_) (k p kvs d u);by_cases h:a=p
 .subst h;rw[aA] at e |-;exact e
 rw[aD h] at e |-;rw[aD (bf e r)];exact e
abbrev dY:List ai:=["works","task"]
theorem vW:eG dY dY (aB (top 7)):=bx
theorem vX (g:G3 K mg "led_from" (top 7) dY f J) (B:Bl mg) (d:mY P w K mg base 1 "reached" (top 5) ["links","start"] Ug) (c:mY P w K mg base 1 "links_of" (top 4) ["works"] Ue):mY P w K mg base 2 "led_from" (top 7) dY Ui:=by
 refine c6 g vW ?_;rintro _ A _ s H _ _ H3 _ m ⟨W,t,rfl,I,k⟩;refine⟨_,(ao (aH (aK d m rfl (aa (bz rfl (b6 7 dY ["one","other"] 2 []) (bR (aK c m rfl (aa adG aj))) (λR F s H V X=>⟨(cI (n:=2) rfl (aG (aC 0 (n7 ["one","other"])) (aG (aC 1 (n7 ["one","other"])) bW))),bK,(bB (aa adH (aa adG aj)))⟩)) (aa adH aj))))),?_⟩;walk_at "q";walk_at "h";have Z:=z9 (ws:=["with"]) I;walk_at "";refine⟨W,rfl,I,λq M=>?_⟩;try dsimp only
 rw[zm,aA,qx];walk_at "c";refine dU orT (lkW ["with"] W) (λA x y H=>H=aY H3 q (.lst ((lkW ["with"] W).map orT))/\x=(A.map swp).map orT/\∃v u:Option T,y=[v,u]) ⟨rfl,rfl,ae,ae,rfl⟩ ?_ ?_
 .rintro x y H ⟨rfl,rfl,v,u,rfl⟩;refine⟨.inl aA,by rw[b_,b_];omega,λr m=>?_⟩;obtain⟨n0,D⟩:=cA m;refine⟨_,(lkW ["with"] W).map swp,t,rfl,.inl ⟨r,rfl,aA⟩,by rw[b_];omega,λp kvs l O=>?_⟩;obtain⟨S,l⟩:=cA l;obtain⟨U,l⟩:=cA l;refine lu.of (λa o e=>?_) (k p kvs l λz=>(O z).trans Tf);by_cases h:a=p
  .subst h;rw[aA] at e |-;exact e
  rw[aD h] at e |-;rw[aD (bf e D),aD (bf e M)];exact e
 rintro A ⟨a,b⟩ B x y H N e ⟨rfl,rfl,v,u,rfl⟩ G;have Y:A.length<=52:=by have:=T_ aT e;simp only[a_,i_] at this;omega
 refine⟨.inl aA,?_⟩;have j:=G (((A.map swp).map orT)++[orT (b,a)]) [ab (.str a),ab (.str b)] _ ⟨rfl,by rw[v_,v_];rfl,_,_,rfl⟩;replace j:=eY.mk j;clear G k e;simp only[orT] at j |-;walk_at "";exact⟨adF,adC,adC,j.out⟩
abbrev fG:List ai:=["works","found","other"]
theorem yu:eG fG fG (aB (top 8)):=bx
theorem yw (g:G3 K mg "in_both" (top 8) fG f r) (B:Bl mg):mY P w K mg base 1 "in_both" (top 8) fG X5:=by
 refine c6 g yu ?_;rintro _ _ _ s H _ _ _ _ F ⟨⟨tk,m,prs,l⟩,a,b,j,d,rfl,I,R,V,k⟩;have c:=mX.u1 F;refine⟨_,(ao (aH (bJ cN rfl B.tuple_ cz (aa (bz rfl (b6 8 fG ["task","found","other"] 1 [1,2]) (bO (aJ pA adG aq)) (λL q s H O S=>⟨(aC 0 (n7 ["task","found","other"])),(dZ (PW3.pt (cT (rK c (aJ pA adG aq) adH) (cM (rK c (aJ pA adG aq) adI))))),(aJ pA adG aq)⟩)) aj)))),?_⟩;walk_at "q";walk_at "h";have U:tk.length<=8:=I.t8;walk_at "";walk_at "c";refine cZ tkT (λt=>v1 t.1) (λt=>(aR t.1 j).isSome&&(aR t.1 d).isSome) tk [ab (.ref a),ab (.ref b)] trivial adC (λt D J n=>?_) (λt D G J n=>?_) (λp v=>?_)
 .obtain⟨nm,z,M⟩:=t;simp only[tkT];dsimp only at n;cases C:(aR nm j).isSome <;> cases y:(aR nm d).isSome <;> simp only[C,y,abN,lc,Z0,aag,ab2,gT] at n <;> walk_at ""
 .simp only[tkT];walk_at "";try exact n
 walk_at "";refine lu.of (bc.new v) ?_;have e:(tk.filter λt=>(aR t.1 j).isSome&&(aR t.1 d).isSome).map (λt=>v1 t.1)=((tk.map (·.1)).filter λx=>(aR x j).isSome&&(aR x d).isSome).map v1:=by rw[ku,X_];rfl
 rw[e];exact k
abbrev dw:List ai:=["works","task"]
theorem vY:eG dw dw (aB (top 10)):=bx
theorem vZ (g:G3 K mg "group_of" (top 10) dw f v) (B:Bl mg) (c:mY P w K mg base 1 "in_both" (top 8) ["works","found","other"] X5) (d:mY P w K mg base 2 "led_to" (top 6) dw Uh) (b:mY P w K mg base 2 "led_from" (top 7) dw Ui):mY P w K mg base 3 "group_of" (top 10) dw X7:=by
 refine c6 g vY ?_;rintro _ _ _ _ _ _ _ _ _ m ⟨W,t,rfl,i,k⟩;refine⟨_,(ao (aH (aK c m rfl (aa adG (aa (aK d m rfl (aa adG (aa adH aj))) (aa (aK b m rfl (aa adG (aa adH aj))) aj)))))),?_⟩;walk_at "q";walk_at "";refine⟨W,t,rfl,i,λp y F r=>?_⟩;try dsimp only
 refine⟨W,t,rfl,i,λq u C n=>?_⟩;obtain⟨D,j⟩:=cA C;try dsimp only
 refine⟨W,p,q,y,u,rfl,i,by rw[aD (a6 D)];exact aA,aA,?_⟩;refine lu.of (λa o e=>by rw[aD (bf e j),aD (bf e F)];exact e) ?_;rw[show (W.tasks.map (·.1)).filter (λx=>(aR x y).isSome&&(aR x u).isSome)=gH W t from ?_]
 .exact k
 unfold gH;refine aar λx G=>?_;rw[Zv,Zx,@j_ _ (aw _),r x,n x]
abbrev cj:List ai:=["works","found","other"]
theorem j8:eG cj cj (aB (top 9)):=bx
theorem j9 (g:G3 K mg "in_first_alone" (top 9) cj f r) (B:Bl mg):mY P w K mg base 1 "in_first_alone" (top 9) cj X6:=by
 refine c6 g j8 ?_;rintro _ _ _ s H _ _ _ _ F ⟨⟨tk,m,prs,l⟩,a,b,j,d,rfl,I,R,V,k⟩;have c:=mX.u1 F;refine⟨_,(ao (aH (bJ cN rfl B.tuple_ cz (aa (bz rfl (b6 9 cj ["task","found","other"] 1 [1,2]) (bO (aJ pA adG aq)) (λL q s H O S=>⟨(aC 0 (n7 ["task","found","other"])),(dZ (PW3.pt (cT (rK c (aJ pA adG aq) adH) (cM (qz c (aJ pA adG aq) adI))))),(aJ pA adG aq)⟩)) aj)))),?_⟩;walk_at "q";walk_at "h";have U:tk.length<=8:=I.t8;walk_at "";walk_at "c";refine cZ tkT (λt=>v1 t.1) (λt=>(aR t.1 j).isSome&&!(aR t.1 d).isSome) tk [ab (.ref a),ab (.ref b)] trivial adC (λt D J n=>?_) (λt D G J n=>?_) (λp v=>?_)
 .obtain⟨nm,z,M⟩:=t;simp only[tkT];dsimp only at n;cases C:(aR nm j).isSome <;> cases y:(aR nm d).isSome <;> simp only[C,y,abN,lc,Z0,aag,ab2,gT] at n <;> walk_at ""
 .simp only[tkT];walk_at "";try exact n
 walk_at "";refine lu.of (bc.new v) ?_;have e:(tk.filter λt=>(aR t.1 j).isSome&&!(aR t.1 d).isSome).map (λt=>v1 t.1)=((tk.map (·.1)).filter λx=>(aR x j).isSome&&!(aR x d).isSome).map v1:=by rw[ku,X_];rfl
 rw[e];exact k
abbrev dz:List ai:=["works","task"]
theorem wg:eG dz dz (aB (top 11)):=bx
theorem wj (g:G3 K mg "ahead_of" (top 11) dz f v) (B:Bl mg) (b:mY P w K mg base 1 "in_first_alone" (top 9) ["works","found","other"] X6) (c:mY P w K mg base 2 "led_from" (top 7) dz Ui) (d:mY P w K mg base 2 "led_to" (top 6) dz Uh):mY P w K mg base 3 "ahead_of" (top 11) dz X8:=by
 refine c6 g wg ?_;rintro _ _ _ _ _ _ _ _ _ m ⟨W,t,rfl,i,k⟩;refine⟨_,(ao (aH (aK b m rfl (aa adG (aa (aK c m rfl (aa adG (aa adH aj))) (aa (aK d m rfl (aa adG (aa adH aj))) aj)))))),?_⟩;walk_at "q";walk_at "";refine⟨W,t,rfl,i,λp y F r=>?_⟩;try dsimp only
 refine⟨W,t,rfl,i,λq u C n=>?_⟩;obtain⟨D,j⟩:=cA C;try dsimp only
 refine⟨W,p,q,y,u,rfl,i,by rw[aD (a6 D)];exact aA,aA,?_⟩;refine lu.of (λa o e=>by rw[aD (bf e j),aD (bf e F)];exact e) ?_;rw[show (W.tasks.map (·.1)).filter (λx=>(aR x y).isSome&&!(aR x u).isSome)=jE W t from ?_]
 .exact k
 unfold jE;refine aar λx G=>?_;rw[Zv,Zx,@j_ _ (aw _),r x,abz,<- Bool.not_eq_true,n x]
def HJ:Sp3:=λts H Q=>∃(W:Wk) (x:T) (a:List ai),ts=[W.enc,x]/\lz W/\W7 H x a/\Q (.int (numOf (W.tasks.map (·.1)) a)) H
def O4:Sp3:=λts H Q=>∃(W:Wk) (n:Int),ts=[W.enc,.int n]/\lz W/\0<=n/\n<2^W.tasks.length/\Q (sT (pick (W.tasks.map (·.1)) n)) H
def O5:Sp3:=λts H Q=>∃(a:List ai) (k:ai),ts=[sT a,.str k]/\Q (.bl (vG a k)) H
def wu:Sp3:=λts H Q=>∃a b:Int,ts=[.int a,.int b]/\Q (.bl (decide (a9 a b=b))) H
def O6:Sp3:=λts H Q=>∃(W:Wk) (t:ai),ts=[W.enc,.str t]/\lz W/\∀p,H p=ae->Q (.ref p) (aY H p (.lst ((jR W t).map v1)))
def O7:Sp3:=λts H Q=>∃W:Wk,ts=[W.enc]/\lz W/\∀p,H p=ae->Q (.ref p) (aY H p (.lst (W.tasks.map (ruT W (W.tasks.map (·.1))))))
def O8:Sp3:=λts H Q=>∃(W:Wk) (a:am) (aX:Int) (b:ai) (D S:List ai),ts=[.ref a,.int aX,.str b,.int (numOf (W.tasks.map (·.1)) D),.int (numOf (W.tasks.map (·.1)) S)]/\lz W/\H a=ab (.lst (W.tasks.map (ruT W (W.tasks.map (·.1)))))/\Q (.bl (xV W aX b D S)) H
abbrev lQ:List ai:=["works","tasks","number","worth","task"]
theorem ab9:eG lQ ["works","tasks"] (aB (top 1)):=bx
theorem tW (g:G3 K mg "number_of" (top 1) ["works","tasks"] f p) (B:Bl mg):mY P w K mg base 1 "number_of" (top 1) ["works","tasks"] HJ:=by
 refine c6 g ab9 ?_;rintro _ A _ _ H _ _ H3 _ y ⟨⟨tk,c,prs,b⟩,x,d,rfl,C,D,k⟩;have j:=mX.u31 y;refine⟨_,(ak (aF 2 ab9.nd aq)
   (ak (aF 3 ab9.nd aq)
   (ak (aZ q_ rfl (bO (aJ pA adG aq)) (aC 4 ab9.nd) (ak (bD (aP (uG j) (aJ pA adK aq) adH rfl) (ao (aF 2 ab9.nd (aL bh adI adJ))) aW)
    (ao (aF 3 ab9.nd (aL iw adJ aq)))))
   (ao (aH adI))))),?_⟩
 walk_at "q";walk_at "h";have I:tk.length<=8:=C.t8;walk_at "";refine aN tkT tk (λA l H=>∃v:Option T,H=H3/\l=[ab (v2 [v2 (tk.map tkT),v2 (c.map orT),v2 (prs.map prT),v2 (b.map v1)]),ab x,ab (.int (numOf (A.map (·.1)) d)),ab (.int (2^A.length)),v]) ⟨ae,rfl,rfl⟩ ?_ ?_
 .rintro l H ⟨v,rfl,rfl⟩;walk_at "t";walk_at "";exact lu.of bc.refl k
 rintro A t B l H N e ⟨v,rfl,rfl⟩ o;have z:A.length+1<=8:=by have:=T_ aT e;simp only[a_,i_] at this;omega
 have F:0<(2:Int)^A.length/\(2:Int)^A.length<=256:=by
  have:A.length=0\/A.length=1\/A.length=2\/A.length=3\/A.length=4\/A.length=5\/A.length=6\/A.length=7:=by omega
  rcases this with e | e | e | e | e | e | e | e <;> rw[e] <;> decide
 have q:aeg (2^A.length) 2:=.inl ⟨adC,adC⟩;have a:∀v,N [ab (v2 [v2 (tk.map tkT),v2 (c.map orT),v2 (prs.map prT),v2 (b.map v1)]),ab x,ab (.int (numOf (A.map (·.1)) d+2^A.length*(if t.1∈d then 1 else 0))),ab (.int (2^A.length*2)),v] H:=λv=>by have:=o [ab (v2 [v2 (tk.map tkT),v2 (c.map orT),v2 (prs.map prT),v2 (b.map v1)]),ab x,ab (.int (numOf ((A++[t]).map (·.1)) d)),ab (.int (2^(A++[t]).length)),v] H ⟨v,rfl,rfl⟩;rw[show (2:Int)^(A++[t]).length=2^A.length*2 by rw[a_,M_,abm],v_,D_,Z5,oh,b_] at this;exact this
 replace a:=eY.mk a;obtain⟨nm,u,G⟩:=t;walk_at "t";clear o e k;simp only[tkT,sT];walk_at "";refine K6 D ?_;by_cases n:nm∈d
 .simp only[n,aaI,if_true,I_,Zj,jz,Int.mul_one] at a |-;exact⟨by first | trivial | exact q,a.out _⟩
 simp only[n,aas,if_true,I_,Zj,jz,Int.mul_zero,oi] at a |-;exact⟨by first | trivial | exact q,a.out _⟩
abbrev du:List ai:=["kinds","kind"]
theorem o6:eG du du (aB (top 13)):=bx
theorem o7 (g:G3 K mg "may_be_done" (top 13) du f j) (B:Bl mg):mY P w K mg base 1 "may_be_done" (top 13) du O5:=by
 refine c6 g o6 ?_;rintro _ _ _ _ _ _ _ _ _ i ⟨a,b,rfl,k⟩;have c:=mX.u30 i;have d:=mX.u31 i;refine⟨_,(ao (aH (MK (gU (cY c) (aM bH rfl B.len_ bI (aa adG aj)) aq) (rB (gU (uG d) adH adG rfl))))),?_⟩;rw[show aQ du [sT a,v1 b]=[ab (v2 (a.map v1)),ab (v1 b)] from rfl];have n:pl 20 (v1 b)=ag:=rfl;have m:=dJ a;have o:dM ah (v1 b) (a.map v1)=decide (b∈a):=by unfold dM;have:(v1 b∈a.map v1)↔b∈a:=gh gZ;simp only[this];simp
 walk_at "";unfold vG at k;cases a with
 |nil=>simp only[aaI,Bool.true_or,aaD,if_true] at k |-;exact lu.of bc.refl k
 |cons y r =>
  have:¬(((r.length+1:Nat)):Int)=0:=by omega
  simp only[i_,this,aas,I_,Zj] at k |-
  exact⟨adF,adF,lu.of bc.refl (by simpa using k)⟩
abbrev gO:List ai:=["number","part"]
theorem yz:eG gO gO (aB (top 17)):=bx
theorem yC (g:G3 K mg "has_all" (top 17) gO f e) (B:Bl mg):mY P w K mg base 1 "has_all" (top 17) gO wu:=by
 refine c6 g yz ?_;rintro _ _ _ _ _ _ _ _ _ j ⟨a,b,rfl,k⟩;have c:=mX.u30 j;refine⟨_,(ao (aH (gU (cY c) (aL xG adG adH) adH))),?_⟩;walk_at "q";walk_at "";exact lu.of bc.refl k
abbrev c7:List ai:=["works","task"]
theorem pR:eG c7 c7 (aB (top 15)):=bx
theorem pU (g:G3 K mg "apart_from" (top 15) c7 f F) (B:Bl mg):mY P w K mg base 1 "apart_from" (top 15) c7 O6:=by
 refine c6 g pR ?_;rintro _ A _ s H _ _ H3 _ L ⟨⟨tk,l,prs,j⟩,t,rfl,R,k⟩;have c:=mX.u30 L;refine⟨_,(ao (aH (bz rfl (b6 15 c7 ["word","one","other","task"] 3 [1]) (bO (aJ pA adG aq)) (λU C s H V X=>⟨(cI (n:=3) rfl (aG (aC 0 (n7 ["word","one","other","task"])) (aG (aC 1 (n7 ["word","one","other","task"])) (aG (aC 2 (n7 ["word","one","other","task"])) bW)))),(dZ (PW3.pt (cT (aP (cY c) adG cR) (cM (aP (cY c) adH adJ))))),adI⟩)))),?_⟩;walk_at "q";walk_at "h";have O:prs.length<=12:=R.ps;walk_at "";walk_at "c";refine dU prT prs (λA r v H=>H=H3/\r=((A.filter λp=>decide (p.1=("apart":ai))&&decide (p.2.1=t)).map (·.2.2)).map v1/\∃q o u:Option T,v=[q,o,u,ab (.str t)]) ⟨rfl,rfl,ae,ae,ae,rfl⟩ ?_ ?_
 .rintro r v H ⟨rfl,rfl,q,o,u,rfl⟩;refine⟨adF,?_,λp I=>lu.of bc.refl (k p I)⟩;rw[b_,b_];exact W_ (Zh _ _) adC
 rintro A ⟨w,a,b⟩ B r v H N e ⟨rfl,rfl,q,o,u,rfl⟩ x;have S:A.length<=12:=by have:=T_ aT e;simp only[a_,i_] at this;omega
 have Y:((A.filter λp=>decide (p.1=("apart":ai))&&decide (p.2.1=t)).map (·.2.2)).length<=12:=by rw[b_];exact W_ (Zh _ _) S
 walk_at "t";have M:eY (w="apart"/\a=t->N (((A.filter λp=>decide (p.1=("apart":ai))&&decide (p.2.1=t)).map (·.2.2)).map v1++[v1 b]) [ab (.str w),ab (.str a),ab (.str b),ab (.str t)] H):=⟨λh=>x _ _ _ ⟨rfl,by rw[aaP];simp [h],_,_,_,rfl⟩⟩;have D:eY (¬(w="apart"/\a=t)->N (((A.filter λp=>decide (p.1=("apart":ai))&&decide (p.2.1=t)).map (·.2.2)).map v1) [ab (.str w),ab (.str a),ab (.str b),ab (.str t)] H):=⟨λh=>x _ _ _ ⟨rfl,by rw[aaP];simp [h],_,_,_,rfl⟩⟩;generalize ((A.filter λp=>decide (p.1=("apart":ai))&&decide (p.2.1=t)).map (·.2.2))=J at *;clear x k e;simp only[prT];walk_at "";walk_at "t";by_cases d:w="apart"
 .simp only[d,aaI,if_true];by_cases m:a=t
  .simp only[m,aaI,if_true];have:=M.out ⟨d,m⟩;rw[d,m] at this;exact⟨adC,this⟩
  simp only[m,aas,I_,Zj];have:=D.out λz=>m z.2;rw[d] at this;exact this
 simp only[d,aas,I_,Zj];exact D.out λz=>d z.1
abbrev dB:List ai:=["numbers","greatest","number"]
theorem acb:eG dB ["numbers"] (aB (top 19)):=bx
theorem jm (g:G3 K mg "greatest_numbers" (top 19) ["numbers"] f fd) (B:Bl mg) (c:mY P w K mg base 1 "has_all" (top 17) ["number","part"] wu):mY P w K mg base 2 "greatest_numbers" (top 19) ["numbers"] XF:=by
 refine c6 g acb ?_;rintro _ A _ s H _ _ H3 _ hr ⟨a,fs,rfl,M,hl,k⟩;refine⟨_,(ak (aF 1 acb.nd (bL aj))
   (ak (aZ q_ rfl (Rp rfl B.reversed_ adG) (aC 2 acb.nd) (ao (bD (gD (cH (aM (Ri rfl) rfl B.any_ QK (aa (bz rfl (b6 19 dB ["other","number"] 1 [2]) (bR adH) (λcl V s H C0 fp=>⟨(aC 0 (n7 ["other","number"])),bK,(aK c hr rfl (aa adG (aa adH aj)))⟩)) aj)))) (ao (bQ (di N_ Q_ R_ bC adH (aa adI aj)))) aW)))
   (ao (aH (Ff rfl rfl B.list_ rfl B.reversed_ adH))))),?_⟩
 walk_at "q";walk_at "h";walk_at "s";refine⟨adC,λz F=>?_⟩;walk_at "n";have u:bc H3 (aY H3 z (.lst [])):=bc.new F;have J:aY H3 z (.lst []) z=ab (.lst ((gre bU []).map bF)):=aA;generalize aY H3 z (.lst [])=H1 at u J;try dsimp only
 refine au λR1 R=>?_;have X:=u _ _ M;walk_at "";rw[<- ff];refine aN bF fs.reverse (λA O H=>∃(q:am) (v:Option T),O=[ab (.ref a),ab (.ref q),v]/\bc H3 H/\H3 q=ae/\H q=ab (.lst ((gre bU A.reverse).map bF))) ⟨z,ae,rfl,u,F,J⟩ ?_ ?_
 .rintro O H ⟨q,v,rfl,x,d,C⟩;refine⟨.inl (x _ _ M),?_⟩;walk_at "n";rw[fi] at C;clear J X;walk_at "";intro p W;have S:H3 p=ae:=by
   cases e:H3 p with
   |none=>rfl
   |some o=>rw[x _ _ e] at W;cases W
  rw[<- ff];refine lu.of ?_ (k p S);intro b o m;by_cases e:b=p
  .subst e;rw[aA] at m |-;exact m
  rw[aD e] at m |-;exact x b o m
 rintro A n B O H N e ⟨q,v,rfl,x,d,C⟩ hN;refine⟨.inl (x _ _ M),?_⟩;have hA:A.length+1<=256:=by have:=T_ aT e;simp only[a_,i_,aal] at this;omega
 have r:=eY.mk hN;have y:gre bU (A++[n]).reverse=if (gre bU A.reverse).any (λg=>bU g n) then gre bU A.reverse else gre bU A.reverse++[n]:=by rw[aa3];rfl
 have gl:=tD bU A.reverse;rw[aal] at gl;clear hN e k R J X;generalize gre bU A.reverse=G at *;walk_at "";walk_at "c";refine bZ bF (λg=>T.bl (bU g n)) G [ab (bF n)] (.inl C) adC (λg hg Q' L=>?_) (λI l=>?_)
 .clear r;walk_at "";exact⟨(g:Int),(n:Int),rfl,L⟩
 have D:q≠I:=bf C l;have Z:(G.map λg=>T.bl (bU g n))=(G.map λg=>bU g n).map T.bl:=by rw[X_];rfl
 have Y:aY H I (.lst ((G.map λg=>bU g n).map T.bl)) q=ab (.lst (G.map bF)):=by rw[aD D];exact C
 have t:bc H3 (aY H I (.lst ((G.map λg=>bU g n).map T.bl))):=x.trans (bc.new l);rw[Z,nH,iD];generalize aY H I (.lst ((G.map λg=>bU g n).map T.bl))=H5 at Y t;have ea:(G.map λg=>bU g n).any id=G.any λg=>bU g n:=by rw[oe];rfl
 rw[ea];cases m:G.any λg=>bU g n
 .rw[m] at y;simp only[I_,Zj] at y;clear ea Z l D;simp only[aag,if_true];walk_at "";refine⟨⟨adF,adF⟩,adC,r.out _ _ ⟨q,_,rfl,?_,d,?_⟩⟩
  .intro b o j;by_cases e:b=q
   .subst e;rw[d] at j;cases j
   rw[aD e];exact t b o j
  rw[aA,y,v_];rfl
 rw[m] at y;simp only[if_true] at y;simp only[Z0,I_,Zj];exact r.out _ _ ⟨q,_,rfl,t,d,by rw[y];exact Y⟩
abbrev o8:List ai:=["self","works","beat"]
theorem Mu:eG o8 o8 (aB (acl 24 0)):=bx
theorem Mv (g:GI K mg c "Walk" "Walk.__init__" (acl 24 0) o8 f fd) (B:Bl mg) (d:adf K c ["works","beat","rules","whole"]) (j:mY P w K mg base 4 "rules_of" (top 16) ["works"] O7) (i:mY P w K mg base 1 "number_of" (top 1) ["works","tasks"] HJ) (l:mY P w K mg base 1 "names_of" (top 21) ["tasks"] Xq):MkC P w K mg base c 5 "Walk" o8 (T6 c):=by
 refine⟨g.at_,f,fd,g.mk_,g.b,?_⟩;refine fn3 g.fn Mu (λts H Q h=>?_) (λcdv A V s H E ts H3 Q O h=>?_)
 .obtain⟨a,W,aX,rfl,_⟩:=h;rfl
 obtain⟨a,W,aX,rfl,U,ha,k⟩:=h;refine⟨_,(ak (rR d adG adH)
   (ak (rR d adG adI)
   (ak (rR d adG (aK j O rfl (aa adH aj)))
   (ao (rR d adG (aK i O rfl (aa adH (aa (aK l O rfl (aa (aJ pA adH aq) aj)) aj)))))))),?_⟩
 walk_at "q";walk_at "h";have k':=eY.mk k;clear k;walk_at "s";have Z:aY H3 a (.ins c (dO "works" W.enc [])) a=ab (.ins c [("works",W.enc)]):=aA;refine⟨adD,?_⟩;have y:∀b o,b≠a->H3 b=ab o->aY H3 a (.ins c (dO "works" W.enc [])) b=ab o:=λb o m e=>by rw[aD m];exact e
 generalize aY H3 a (.ins c (dO "works" W.enc []))=X at Z y |-;walk_at "n";walk_at "s";refine⟨adD,?_⟩;have u:dO "beat" (v0 aX) [("works",W.enc)]=[(("works":ai),W.enc),(("beat":ai),.int aX)]:=by unfold dO;rw[ace adx];rfl
 rw[u];have G:aY X a (.ins c [("works",W.enc),("beat",.int aX)]) a=ab (.ins c [("works",W.enc),("beat",.int aX)]):=aA;have r:∀b o,b≠a->H3 b=ab o->aY X a (.ins c [("works",W.enc),("beat",.int aX)]) b=ab o:=λb o m e=>by rw[aD m];exact y b o m e
 generalize aY X a (.ins c [("works",W.enc),("beat",.int aX)])=C at G r |-;clear Z y u;walk_at "n";walk_at "s";refine⟨W,rfl,U,λp M=>?_⟩;have t:a≠p:=bf G M;have N:aY C p (.lst (W.tasks.map (ruT W (W.tasks.map (·.1))))) p=ab (.lst (W.tasks.map (ruT W (W.tasks.map (·.1))))):=aA;have g4:aY C p (.lst (W.tasks.map (ruT W (W.tasks.map (·.1))))) a=ab (.ins c [("works",W.enc),("beat",.int aX)]):=by rw[aD t];exact G
 have v:∀b o,b≠a->H3 b=ab o->aY C p (.lst (W.tasks.map (ruT W (W.tasks.map (·.1))))) b=ab o:=λb o m e=>by rw[aD (bf (r b o m e) M)];exact r b o m e
 generalize aY C p (.lst (W.tasks.map (ruT W (W.tasks.map (·.1)))))=D at N g4 v |-;clear G r M;walk_at "";refine⟨adD,?_⟩;have u:dO "rules" (wa p) [("works",W.enc),("beat",.int aX)]=[(("works":ai),W.enc),(("beat":ai),.int aX),(("rules":ai),.ref p)]:=by unfold dO;rw[ace adx];unfold dO;rw[ace adx];rfl
 rw[u];have L:aY D a (.ins c [("works",W.enc),("beat",.int aX),("rules",.ref p)]) a=ab (.ins c [("works",W.enc),("beat",.int aX),("rules",.ref p)]):=aA;have J:aY D a (.ins c [("works",W.enc),("beat",.int aX),("rules",.ref p)]) p=ab (.lst (W.tasks.map (ruT W (W.tasks.map (·.1))))):=by rw[aD (a6 t)];exact N
 have n:∀b o,b≠a->H3 b=ab o->aY D a (.ins c [("works",W.enc),("beat",.int aX),("rules",.ref p)]) b=ab o:=λb o m e=>by rw[aD m];exact v b o m e
 generalize aY D a (.ins c [("works",W.enc),("beat",.int aX),("rules",.ref p)])=I at L J n |-;clear N g4 v u;walk_at "n";walk_at "";refine⟨W.tasks,rfl,U.t8,λq F=>?_⟩;have S:a≠q:=bf L F;have R:p≠q:=bf J F;try dsimp only
 refine⟨W,_,W.tasks.map (·.1),rfl,U,.inr ⟨q,rfl,aA⟩,?_⟩;have ew:numOf (W.tasks.map (·.1)) (W.tasks.map (·.1))=(top2 W:Int) - 1:=by have h1:=lw (W:=W) (A:=nm W) λx hx=>hx;have h2:=jW W;rw[cG];show ((bT (nm W) (nm W):Nat):Int)=_;rw[h1];omega
 rw[ew];have g7:aY I q (.lst ((W.tasks.map (·.1)).map v1)) a=ab (.ins c [("works",W.enc),("beat",.int aX),("rules",.ref p)]):=by rw[aD S];exact L
 have Y:aY I q (.lst ((W.tasks.map (·.1)).map v1)) p=ab (.lst (W.tasks.map (ruT W (W.tasks.map (·.1))))):=by rw[aD R];exact J
 have z:∀b o,b≠a->H3 b=ab o->aY I q (.lst ((W.tasks.map (·.1)).map v1)) b=ab o:=λb o m e=>by rw[aD (bf (n b o m e) F)];exact n b o m e
 generalize aY I q (.lst ((W.tasks.map (·.1)).map v1))=H8 at g7 Y z |-;clear L J n F;walk_at "";refine⟨adD,?_⟩;have u:dO "whole" (v0 ((top2 W:Int) - 1)) [("works",W.enc),("beat",.int aX),("rules",.ref p)]=wkF W aX p:=by unfold dO;rw[ace adx];unfold dO;rw[ace adx];unfold dO;rw[ace adx];rfl
 rw[u];exact lu.of bc.refl (k'.out _ (λb o m e=>by rw[aD m];exact z b o m e) ⟨p,aA,by rw[aD (a6 t)];exact Y⟩)
abbrev gG:List ai:=["self","stand","done","kind","left"]
theorem acx:eG gG ["self","stand","done"] (aB (acl 24 1)):=bx
theorem o9 (g:GM K l "fillings_at" "Walk.fillings_at" (acl 24 1) ["self","stand","done"] f fd) (B:Bl mg) (j:adf K l ["works","beat","rules","whole"]) (m:mY P w K mg base 2 "parts_of" (top 23) ["number"] Ox) (c:mY P w K mg base 2 "is_filling_number" (top 18) ["rules","beat","kind","done","number"] O8):MtC P w K mg base l 3 "fillings_at" ["self","stand","done"] (T7 l):=by
 refine⟨g.cls,f,fd,g.mt,g.b,?_⟩;refine fn3 g.fn acx (λts H Q h=>?_) (λcdv A O s H E ts H3 Q X h=>?_)
 .obtain⟨a,W,aX,k,d,rfl,_⟩:=h;rfl
 obtain⟨a,W,aX,k,d,rfl,z,hw,hk,S,V⟩:=h;refine⟨_,(ak (bD (aP Vp adH (aM bH rfl B.len_ bI (aa (aJ pA (fV j adG) aq) aj))) (ao (aH (bL aj))) aW)
   (ak (aF 3 acx.nd (aJ pA (aJ pA (fV j adG) aq) adH))
   (ak (aF 4 acx.nd (aK m X rfl (aa (aL kI (fV j adG) adI) aj)))
   (ao (aH (bz rfl (bG (n0:=(aB (acl 24 1)).names) (N:=gG) (N':=["number","kind","done","self"]) (nt:=1) (cap:=[3,2,0]) rfl rfl adx) (bR adK) (λcl R s H C0 fp=>⟨(aC 0 (n7 ["number","kind","done","self"])),(dZ (cH (aK c X rfl (aa (fV j adJ) (aa (fV j adJ) (aa adH (aa adI (aa adG aj)))))))),adG⟩))))))),?_⟩
 walk_at "q";walk_at "h";have Z:=eY.mk V;clear V;have t2:=mO z;have t1:=jW W;obtain⟨p,J,L⟩:=hw.ex;have f1:=vQ (W:=W) (aX:=aX) (p:=p);have f2:=Mf (W:=W) (aX:=aX) (p:=p);have f3:=vR (W:=W) (aX:=aX) (p:=p);have f4:=oN (W:=W) (aX:=aX) (p:=p);have x1:=Hc hk;have M:=eY.mk J;have F:=eY.mk L;generalize wkF W aX p=fs at *;walk_at "s";rw[x_ adC,ace B_];walk_at "n";walk_at "s";walk_at "n";walk_at "s";refine⟨top2 W - 1 - d,by rw[show ((top2 W - 1 - d:Nat):Int)=(top2 W:Int) - 1 - (d:Int) by omega],adC,λpl r=>?_⟩;have n1:a≠pl:=bf J r;have n2:p≠pl:=bf L r;have y:=Cq (W:=W) (aX:=aX) (k:=k) z S;have Y:(vO (top2 W - 1 - d)).length<=256:=by unfold vO;exact W_ (Zh _ _) (by rw[p_];omega)
 have x:∀i∈vO (top2 W - 1 - d),i<top2 W:=λi C=>by have:=F_.mp (E_.mp C).1;omega
 generalize vO (top2 W - 1 - d)=ps at *;have n:bc H3 (aY H3 pl (.lst (ps.map bF))):=bc.new r;have h1:=n _ _ M.out;have h2:=n _ _ F.out;have U:aY H3 pl (.lst (ps.map bF)) pl=ab (.lst (ps.map bF)):=aA;generalize aY H3 pl (.lst (ps.map bF))=H4 at n h1 h2 U |-;clear J L x1 f1 f4 n1 n2 r;walk_at "n";have u:=eY.mk x;have v:=eY.mk y;clear x y;walk_at "";walk_at "c";refine cZ (still:=cJ pl (ps.map bF)) (H:=H4) bF bF (fil W aX k d) ps [ab (.str (W.row.getD k "")),ab (.int (d:Int)),ab (.ref a)] (.inl U) adC ?c1 ?c2 ?c3
 case c2=>exact λi C _ Q' t=>t
 case c1 =>
  intro i C Q' t
  have I:=u.out i C
  have G:=eY.mk t
  clear Z t
  simp only[bF]
  walk_at ""
  refine⟨W,p,aX,W.row.getD k "",pk W d,pk W i,?_,z,h2,?_⟩
  ·
   rw[T5 z S,T5 z I]
  ·
   exact G.out
 case c3 =>
  intro q t
  rw[v.out]
  refine lu.of ?_ (Z.out q (cB n t))
  intro b o D
  by_cases e:b=q
  ·
   subst e;rw[aA] at D |-;exact D
  ·
   rw[aD e] at D |-;exact n b o D
abbrev fH:List ai:=["self","number"]
theorem yD:eG fH fH (aB (acl 24 3)):=bx
theorem yE (g:GM K c "load_at" "Walk.load_at" (acl 24 3) fH f x) (B:Bl mg) (j:adf K c ["works","beat","rules","whole"]) (d:mY P w K mg base 1 "has_all" (top 17) ["number","part"] wu):MtC P w K mg base c 2 "load_at" fH (Oz c):=by
 refine⟨g.cls,f,x,g.mt,g.b,?_⟩;refine fn3 g.fn yD (λts H Q h=>?_) (λy A n s H E ts H3 Q F h=>?_)
 .obtain⟨a,W,aX,i,rfl,_⟩:=h;rfl
 obtain⟨a,W,aX,i,rfl,v,C,z,u⟩:=h;refine⟨_,(ao (aH (aM (kJ rfl) rfl B.sum_ kO (aa (bz rfl (bG (n0:=(aB (acl 24 3)).names) (N:=fH) (N':=["rule","number"]) (nt:=1) (cap:=[1]) rfl rfl adx) (bR (fV j adG)) (λL o s H O S=>⟨(aC 0 (n7 ["rule","number"])),(dZ (cH (aK d F rfl (aa adH (aa (aJ pA adG aq) aj))))),(aJ pA adG aq)⟩)) aj)))),?_⟩;walk_at "q";walk_at "h";have m:=eY.mk u;clear u;have U:W.tasks.length<=8:=v.t8;obtain⟨p,R,I⟩:=C.ex;have M:=vR (W:=W) (aX:=aX) (p:=p);generalize wkF W aX p=V at *;walk_at "";walk_at "c";refine cZ (still:=cJ p (W.tasks.map (ruT W (W.tasks.map (·.1))))) (H:=H3) (ruT W (W.tasks.map (·.1))) (λt=>v0 t.2.1) (λt=>decide (t.1∈pk W i)) W.tasks [ab (.int (i:Int))] (.inl I) adC ?c1 ?c2 ?c3
 case c1 =>
  intro t r J k
  have D:t.1∈W.tasks.map (·.1):=l_.mpr ⟨t,r,rfl⟩
  have G:decide (a9 (i:Int) (numOf (W.tasks.map (·.1)) [t.1])=numOf (W.tasks.map (·.1)) [t.1])=decide (t.1∈pk W i):=by
   rw[<- T5 v z,Zv,j_,j_]
   exact sJ D
  have l:=eY.mk k
  clear m k
  simp only[ruT]
  walk_at ""
  refine⟨_,_,rfl,?_⟩
  rw[G]
  exact l.out
 case c2 =>
  intro t r _ J k
  clear m
  simp only[ruT]
  walk_at ""
  try exact k
 case c3 =>
  intro q k
  have e:ints3 ((W.tasks.filter λt=>decide (t.1∈pk W i)).map λt=>v0 t.2.1)=ab ((W.tasks.filter λt=>decide (t.1∈pk W i)).map (·.2.1)):=by
   rw[<- dC,X_];rfl
  rw[e,iD]
  exact lu.of (bc.new k) m.out
abbrev dh:List ai:=["self","fillings"]
theorem pW:eG dh dh (aB (acl 24 4)):=bx
theorem pX (g:GM K c "dealing_of" "Walk.dealing_of" (acl 24 4) dh f v) (B:Bl mg) (e:adf K c ["works","beat","rules","whole"]) (d:mY P w K mg base 1 "tasks_of" (top 2) ["works","number"] O4):MtC P w K mg base c 2 "dealing_of" dh (T8 c):=by
 refine⟨g.cls,f,v,g.mt,g.b,?_⟩;refine fn3 g.fn pW (λts H Q h=>?_) (λx A r s H E ts H3 Q C h=>?_)
 .obtain⟨a,W,aX,m,rfl,_⟩:=h;rfl
 obtain⟨a,W,aX,m,rfl,D,z,U,F,k⟩:=h;refine⟨_,(ao (aH (bJ cN rfl B.tuple_ cz (aa (bz rfl (bG (n0:=(aB (acl 24 4)).names) (N:=dh) (N':=["filling","self"]) (nt:=1) (cap:=[0]) rfl rfl adx) (bO adH) (λG t s H L R=>⟨(aC 0 (n7 ["filling","self"])),bK,(aK d C rfl (aa (fV e adH) (aa adG aj)))⟩)) aj)))),?_⟩;walk_at "q";walk_at "h";have u:=eY.mk k;clear k;obtain⟨p,M,O⟩:=z.ex;have J:=vQ (W:=W) (aX:=aX) (p:=p);generalize wkF W aX p=I at *;walk_at "";walk_at "c";refine bZ (still:=cW) (H:=H3) bF (λi=>sT (pk W i)) m [ab (.ref a)] trivial adC ?c1 ?c2
 case c1 =>
  intro i y S l
  have o:=F i y
  have j:((2^W.tasks.length:Nat):Int)=(2:Int)^W.tasks.length:=by push_cast;rfl
  have n:=eY.mk l
  clear u l
  simp only[bF]
  walk_at ""
  exact⟨W,(i:Int),rfl,D,aaF _,by rw[<- j];exact Int.ofNat_lt.mpr o,n.out⟩
 case c2 =>
  intro q l
  have k:=u.out
  rw[X_] at k
  walk_at ""
  exact lu.of (bc.new l) k
abbrev jJ:List ai:=["number","parts","worth"]
theorem aco:eG jJ ["number"] (aB (top 23)):=bx
theorem ww (g:G3 K mg "parts_of" (top 23) ["number"] f fd) (B:Bl mg) (c:mY P w K mg base 1 "has_all" (top 17) ["number","part"] wu):mY P w K mg base 2 "parts_of" (top 23) ["number"] Ox:=by
 refine c6 g aco ?_;rintro _ _ _ s H _ _ H3 _ hr ⟨N,rfl,hN,k⟩;refine⟨_,(ak (aF 1 aco.nd (bL (aa aq aj)))
   (ak (aF 2 aco.nd aq)
   (ak (jL q_ (aP M7 adI adG) (ak (bD (cH (aK c hr rfl (aa adG (aa adI aj)))) (ao (aF 1 aco.nd (aL bh adH (bz rfl (b6 23 jJ ["part","worth"] 1 [2]) (bR adH) (λcl pins s H C0 fp=>⟨(aC 0 (n7 ["part","worth"])),bK,(aL bh adG adH)⟩))))) aW)
    (ao (aF 2 aco.nd (aL iw adI aq)))))
   (ao (aH adH))))),?_⟩
 walk_at "q";walk_at "h";have k':=eY.mk k;clear k;walk_at "s";refine⟨adD,λD L=>?_⟩;have y:bc H3 (aY H3 D (.lst [v0 0])):=bc.new L;have U:aY H3 D (.lst [v0 0]) D=ab (.lst (((af (2^0)).filter (bU N)).map bF)):=by
  have h0:bU N 0=ag:=by rw[gM];exact Nat.and_zero N
  rw[aA,show (af (2^0))=[0] from rfl,abJ,h0];rfl
 generalize aY H3 D (.lst [v0 0])=H4 at y U |-;walk_at "n";walk_at "s";walk_at "n";refine au λR2 hR2=>?_;refine⟨λm σ H=>∃(j:Nat) (q:am),σ=[ab (.int (N:Int)),ab (.ref q),ab (.int ((2^j:Nat):Int))]/\bc H3 H/\H3 q=ae/\H q=ab (.lst (((af (2^j)).filter (bU N)).map bF))/\m=512 - 2^j/\(∀i,i+1=j->2^i<=N),⟨_,0,D,rfl,y,L,U,rfl,(λi h=>by omega)⟩,?_⟩;rintro m σ H ⟨j,q,rfl,R,G,t,rfl,hj⟩;have W:2^j<=256:=by
  cases j with
  |zero=>decide
  |succ i =>
   have h1:=hj i rfl
   have h2:i<8:=by
    rcases abl i 8 with z | z
    ·
     exact z
    ·
     have:=aaY (n:=2) adD z
     omega
   exact W_ (aaY adD (show i+1<=8 by omega)) adD
 have hp:=p9 (n:=j) (show 0<2 by decide);walk_at "";by_cases v:2^j<=N
 .have d:decide (((2^j:Nat):Int)<=(N:Int))=ag:=A_ (Int.ofNat_le.mpr v);rw[d,aca rfl];have hlen:(((af (2^j)).filter (bU N))).length<=256:=W_ (Zh _ _) (by rw[p_];exact W);have l:=Hd (N:=N) (k:=j);have e2:((2^j:Nat):Int)*2=((2^(j+1):Nat):Int):=by rw[fT];push_cast;rfl
  have cm:aeg ((2^j:Nat):Int) 2:=.inl ⟨adC,adC⟩;have F:2^(j+1)=2^j*2:=by rw[fT]
  have u:eY (∀(M:am) (H':eH),bc H3 H'->H3 M=ae->H' M=ab (.lst (((af (2^(j+1))).filter (bU N)).map bF))->∃m',m'<512 - 2^j/\∃(O:Nat) (q:am),([ab (.int (N:Int)),ab (.ref M),ab (.int (((2^j:Nat):Int)*2))]:St3)=[ab (.int (N:Int)),ab (.ref q),ab (.int ((2^O:Nat):Int))]/\bc H3 H'/\H3 q=ae/\H' q=ab (.lst (((af (2^O)).filter (bU N)).map bF))/\m'=512 - 2^O/\(∀i,i+1=O->2^i<=N)):=⟨λM H' s1 s2 s3=>⟨_,adC,j+1,M,by rw[e2],s1,s2,s3,rfl,λi hi=>by rw[show i=j by omega];exact v⟩⟩;clear hj hR2 k' U y e2 d F;generalize (af (2^(j+1))).filter (bU N)=nx at *;generalize hcur:(af (2^j)).filter (bU N)=a at *;refine⟨(N:Int),((2^j:Nat):Int),rfl,?_⟩;rw[show decide (a9 (N:Int) ((2^j:Nat):Int)=((2^j:Nat):Int))=bU N (2^j) from rfl];generalize 2^j=p at *;cases C:bU N p with
  |false=>rw[C] at l;simp only[I_,Zj,P_] at l;simp only[jz,I_,Zj];rw[<- l] at t;exact⟨by first | trivial | exact cm,u.out q _ R G t⟩
  |true =>
  rw[C] at l;simp only[if_true] at l;try simp only[jz,if_true]
  walk_at "c";rw[t,qx];refine bZ bF (λi=>bF (i+p)) a [ab (.int (p:Int))] (.inl t) adC (λi hi Q' r=>?_) (λS x=>?_)
  .simp only[bF] at r |-;rw[show ((i+p:Nat):Int)=(i:Int)+(p:Int) by push_cast;rfl] at r;have Y:=eY.mk r;clear r u;walk_at "";exact Y.out
  have V:q≠S:=bf t x;rw[aD V,t,jA];refine⟨by rw[b_,b_];omega,λpq I=>?_⟩;have J:bc H3 (aY (aY H S (.lst (a.map λi=>bF (i+p)))) pq (.lst (a.map bF++a.map λi=>bF (i+p)))):=(R.trans (bc.new x)).trans (bc.new I);have X:H3 pq=ae:=cB (R.trans (bc.new x)) I;have gq:aY (aY H S (.lst (a.map λi=>bF (i+p)))) pq (.lst (a.map bF++a.map λi=>bF (i+p))) pq=ab (.lst (nx.map bF)):=by rw[aA,l,v_,X_];rfl
  generalize aY (aY H S (.lst (a.map λi=>bF (i+p)))) pq (.lst (a.map bF++a.map λi=>bF (i+p)))=H5 at J gq |-;exact⟨by first | trivial | exact cm,u.out pq _ J X gq⟩
 have d:decide (((2^j:Nat):Int)<=(N:Int))=ah:=x_ (λz=>v (Int.ofNat_le.mp z));rw[d,ace B_];rw[An adC] at t;walk_at "n";walk_at "";refine lu.of ?_ (k'.out q G);intro b o C;by_cases e:b=q
 .subst e;rw[aA] at C;rw[t,C]
 rw[aD e] at C;exact R b o C
theorem wy:eG ["tasks"] ["tasks"] (aB (top 21)):=bx
theorem wz (g:G3 K mg "names_of" (top 21) ["tasks"] f e) (B:Bl mg):mY P w K mg base 1 "names_of" (top 21) ["tasks"] Xq:=by
 refine c6 g wy ?_;rintro _ _ _ s H _ _ _ _ _ ⟨tk,rfl,v,k⟩;refine⟨_,(ao (aH (bz rfl (b6 21 ["tasks"] ["task"] 1 []) (bO adG) (λo d s H p u=>⟨(aC 0 (n7 ["task"])),bK,(aJ pA adG aq)⟩)))),?_⟩;walk_at "q";walk_at "h";have c:=eY.mk k;clear k;walk_at "";walk_at "c";refine bZ tkT (λt=>v1 t.1) tk [] trivial adC (λt n q l=>?_) (λm b=>?_)
 .clear c;simp only[tkT];walk_at "";try exact l
 have:=c.out m b;rw[X_] at this;exact lu.of bc.refl this
abbrev ph:List ai:=["works","rules","name","length","kinds","own","group","ahead","apart"]
theorem ab3:eG ph ["works"] (aB (top 16)):=bx
theorem wA (g:G3 K mg "rules_of" (top 16) ["works"] f Z) (B:Bl mg) (d:mY P w K mg base 1 "number_of" (top 1) ["works","tasks"] HJ) (j:mY P w K mg base 1 "apart_from" (top 15) ["works","task"] O6) (m:mY P w K mg base 3 "ahead_of" (top 11) ["works","task"] X8) (l:mY P w K mg base 3 "group_of" (top 10) ["works","task"] X7):mY P w K mg base 4 "rules_of" (top 16) ["works"] O7:=by
 refine c6 g ab3 ?_;rintro _ A _ _ H _ _ H3 _ u ⟨⟨tk,c,prs,b⟩,rfl,r,k⟩;refine⟨_,(ak (aF 1 ab3.nd (bL aj))
   (ak (aZ q_ rfl (bO (aJ pA adG aq)) (cI (n:=3) rfl (aG (aC 2 ab3.nd) (aG (aC 3 ab3.nd) (aG (aC 4 ab3.nd) bW)))) (ak (aF 5 ab3.nd (aK d u rfl (aa adG (aa (bB (aa adI aj)) aj))))
    (ak (aF 6 ab3.nd (aK d u rfl (aa adG (aa (aK l u rfl (aa adG (aa adI aj))) aj))))
    (ak (aF 7 ab3.nd (aK d u rfl (aa adG (aa (aK m u rfl (aa adG (aa adI aj))) aj))))
    (ak (aF 8 ab3.nd (aK d u rfl (aa adG (aa (aK j u rfl (aa adG (aa adI aj))) aj))))
    (ao (bQ (di N_ Q_ R_ bC adH (aa (bB (aa adM (aa adJ (aa adK (aa adO (aa adP (aa adT aj))))))) aj)))))))))
   (ao (aH adH)))),?_⟩
 walk_at "q";walk_at "h";have t8:tk.length<=8:=r.t8;walk_at "";refine⟨adC,λp D=>?_⟩;refine aN tkT tk (λA M H=>∃(L v3 F S O G I:Option T) (t:eH),M=[ab (v2 [v2 (tk.map tkT),v2 (c.map orT),v2 (prs.map prT),v2 (b.map v1)]),ab (.ref p),L,v3,F,S,O,G,I]/\H=aY t p (.lst (A.map (ruT ⟨tk,c,prs,b⟩ (tk.map (·.1)))))/\bc H3 t/\H3 p=ae) ⟨ae,ae,ae,ae,ae,ae,ae,H3,rfl,rfl,bc.refl,D⟩ ?_ ?_
 .rintro M H ⟨L,v3,F,S,O,G,I,t,rfl,rfl,J,_⟩;walk_at "t";walk_at "";refine lu.of (λa o e=>?_) (k p D);by_cases h:a=p
  .subst h;rw[aA] at e |-;exact e
  rw[aD h] at e |-;exact J _ _ e
 rintro A ⟨nm,v,V⟩ B M H N e ⟨L,v3,F,S,O,G,I,t,rfl,rfl,J,_⟩ X;have Y:A.length<=8:=by have:=T_ aT e;simp only[a_,i_] at this;omega
 walk_at "t";have x:eY (∀q,aY t p (.lst (A.map (ruT ⟨tk,c,prs,b⟩ (tk.map (·.1))))) q=ae->N [ab (v2 [v2 (tk.map tkT),v2 (c.map orT),v2 (prs.map prT),v2 (b.map v1)]),ab (.ref p),ab (.str nm),ab (.int v),ab (sT V),ab (.int (numOf (tk.map (·.1)) [nm])),ab (.int (numOf (tk.map (·.1)) (gH ⟨tk,c,prs,b⟩ nm))),ab (.int (numOf (tk.map (·.1)) (jE ⟨tk,c,prs,b⟩ nm))),ab (.int (numOf (tk.map (·.1)) (jR ⟨tk,c,prs,b⟩ nm)))] (aY (aY (aY t p (.lst (A.map (ruT ⟨tk,c,prs,b⟩ (tk.map (·.1)))))) q (.lst ((jR ⟨tk,c,prs,b⟩ nm).map v1))) p (.lst (A.map (ruT ⟨tk,c,prs,b⟩ (tk.map (·.1)))++[ruT ⟨tk,c,prs,b⟩ (tk.map (·.1)) (nm,v,V)])))):=⟨λq z=>by
  obtain⟨C,y⟩:=cA z
  refine X _ _ ⟨_,_,_,_,_,_,_,aY t q (.lst ((jR ⟨tk,c,prs,b⟩ nm).map v1)),rfl,?_,J.trans (bc.new y),D⟩
  rw[v_,El (a6 C),yP]
  rfl⟩
 have R:(A.map (ruT ⟨tk,c,prs,b⟩ (tk.map (·.1)))).length<=8:=by rw[b_];exact Y
 generalize A.map (ruT ⟨tk,c,prs,b⟩ (tk.map (·.1)))=cur at x R;clear X e k Y;simp only[tkT];walk_at "";refine⟨adF,adC,⟨tk,c,prs,b⟩,_,[nm],rfl,r,.inl rfl,?_⟩;walk_at "";refine⟨⟨tk,c,prs,b⟩,nm,rfl,r,?_⟩;try dsimp only
 refine⟨⟨tk,c,prs,b⟩,_,gH ⟨tk,c,prs,b⟩ nm,rfl,r,.inl rfl,?_⟩;walk_at "";refine⟨⟨tk,c,prs,b⟩,nm,rfl,r,?_⟩;try dsimp only
 refine⟨⟨tk,c,prs,b⟩,_,jE ⟨tk,c,prs,b⟩ nm,rfl,r,.inl rfl,?_⟩;walk_at "";refine⟨⟨tk,c,prs,b⟩,nm,rfl,r,λq z=>?_⟩;obtain⟨C,y⟩:=cA z;have n1':=a6 C;try dsimp only
 refine⟨⟨tk,c,prs,b⟩,_,jR ⟨tk,c,prs,b⟩ nm,rfl,r,.inr ⟨q,rfl,aA⟩,?_⟩;walk_at "";exact⟨⟨adF,adF⟩,adC,adC,x.out q z⟩
abbrev fj:List ai:=["rules","beat","kind","done","number","load","own","length","kinds","group","ahead","apart"]
theorem gV:eG fj ["rules","beat","kind","done","number"] (aB (top 18)):=bx
theorem iV (g:G3 K mg "is_filling_number" (top 18) ["rules","beat","kind","done","number"] f fd) (B:Bl mg) (b:mY P w K mg base 1 "has_all" (top 17) ["number","part"] wu) (d:mY P w K mg base 1 "may_be_done" (top 13) ["kinds","kind"] O5):mY P w K mg base 2 "is_filling_number" (top 18) ["rules","beat","kind","done","number"] O8:=by
 refine c6 g gV ?_;rintro _ A _ _ H _ _ H3 Q L ⟨W,a,aX,c,D,S,rfl,hW,ha,k⟩;have O:=mX.u30 L;refine⟨_,(ak (aF 5 gV.nd aq)
   (ak (aZ q_ rfl (bR adG) (cI (n:=6) rfl (aG (aC 6 gV.nd) (aG (aC 7 gV.nd) (aG (aC 8 gV.nd) (aG (aC 9 gV.nd) (aG (aC 10 gV.nd) (aG (aC 11 gV.nd) bW))))))) (ao (bD (cH (aK b L rfl (aa adK (aa adO aj)))) (ak (bD (PW3.pt (iu (cH (aK b L rfl (aa adJ (aa adO aj)))) (ir (gD (cH (aK d L rfl (aa adT (aa adI aj)))))))) (ao (aH eN)) aW)
     (ak (bD (PW3.pt (iu (gD (cH (aK b L rfl (aa adK (aa adV aj))))) (ir (gD (cH (aK b L rfl (aa (aL Wo adK adJ) (aa (v3 10) aj)))))))) (ao (aH eN)) aW)
     (ak (bD (aP (iy O) (aL xG adK (v3 11)) aq) (ao (aH eN)) aW)
     (ao (aF 5 gV.nd (aL bh adM adP)))))) aW)))
   (ao (aH (gU M7 adM adH))))),?_⟩
 walk_at "q";walk_at "h";walk_at "";refine aN (ruT W (W.tasks.map (·.1))) W.tasks (λA Y H=>∃(I y C J l m:Option T),Y=[ab (.ref a),ab (.int aX),ab (.str c),ab (.int (numOf (W.tasks.map (·.1)) D)),ab (.int (numOf (W.tasks.map (·.1)) S)),ab (.int (cL A S)),I,y,C,J,l,m]/\H=H3/\(A.all λt=>!decide (t.1∈S)||okT W c D S t)=ag) ⟨ae,ae,ae,ae,ae,ae,rfl,rfl,rfl⟩ ?_ ?_
 .rintro Y H ⟨I,y,C,J,l,m,rfl,rfl,o⟩;refine⟨.inl ha,?_⟩;walk_at "";refine lu.of bc.refl ?_;unfold xV at k;rw[o,ab2] at k;exact k
 rintro A t B Y H N e ⟨I,y,C,J,l,m,rfl,rfl,o⟩ hN;refine⟨.inl ha,?_⟩;have G:t∈W.tasks:=by rw[e];simp
 have F:t.1∈W.tasks.map (·.1):=l_.mpr ⟨t,G,rfl⟩;have v:∀x∈gH W t.1,x∈W.tasks.map (·.1):=λx j=>(E_.mp j).1;have r:∀x∈jE W t.1,x∈W.tasks.map (·.1):=λx j=>(E_.mp j).1;have u:∀x∈jR W t.1,x∈W.tasks.map (·.1):=λx j=>by obtain⟨p,hp,rfl⟩:=l_.mp j;exact (hW.pp p (E_.mp hp).1).2.2.2
 have b1:decide (a9 (numOf (W.tasks.map (·.1)) S) (numOf (W.tasks.map (·.1)) [t.1])=numOf (W.tasks.map (·.1)) [t.1])=decide (t.1∈S):=by rw[Zv,j_,j_];exact sJ F
 have b2:decide (a9 (numOf (W.tasks.map (·.1)) D) (numOf (W.tasks.map (·.1)) [t.1])=numOf (W.tasks.map (·.1)) [t.1])=decide (t.1∈D):=by rw[Zv,j_,j_];exact sJ F
 have b3:decide (a9 (numOf (W.tasks.map (·.1)) S) (numOf (W.tasks.map (·.1)) (gH W t.1))=numOf (W.tasks.map (·.1)) (gH W t.1))=@decide (∀x∈gH W t.1,x∈S) (aw _):=by rw[Zv,j_,@j_ _ (aw _),gm];exact⟨λh x j=>h x (v x j) j,λh x _ j=>h x j⟩
 have b4:decide (a9 (dE (numOf (W.tasks.map (·.1)) S) (numOf (W.tasks.map (·.1)) D)) (numOf (W.tasks.map (·.1)) (jE W t.1))=numOf (W.tasks.map (·.1)) (jE W t.1))=@decide (∀x∈jE W t.1,x∈S++D) (aw _):=by rw[Zv,j_,@j_ _ (aw _),S6,gm];exact⟨λh x j=>h x (r x j) j,λh x _ j=>h x j⟩
 have b5:decide (a9 (numOf (W.tasks.map (·.1)) S) (numOf (W.tasks.map (·.1)) (jR W t.1))=0)=@decide (∀x∈jR W t.1,x∉S) (aw _):=by rw[Zv,j_,@j_ _ (aw _),sG];exact⟨λh x j hs=>h x (u x j) ⟨hs,j⟩,λh x _ z=>h x z.2 z.1⟩
 have q:eY (t.1∈S->okT W c D S t=ah->lu Q (.bl ah) H):=⟨λh1 h2=>by
  refine lu.of bc.refl ?_
  have e0:xV W aX c D S=ah:=by
   unfold xV
   rw[Bool.and_eq_false_iff]
   refine .inl ?_
   rw[List.all_eq_false]
   exact⟨t,G,by simp [h1,h2]⟩
  rw[e0] at k
  exact k⟩
 have M:eY (∀(I y C J l m:Option T),(t.1∈S->okT W c D S t=ag)->N [ab (.ref a),ab (.int aX),ab (.str c),ab (.int (numOf (W.tasks.map (·.1)) D)),ab (.int (numOf (W.tasks.map (·.1)) S)),ab (.int (cL A S+if t.1∈S then t.2.1 else 0)),I,y,C,J,l,m] H):=⟨λI y C J l m h=>hN _ _ ⟨I,y,C,J,l,m,by rw[xW],rfl,by
  rw[qr,o]
  by_cases z:t.1∈S
  ·
   simp [h z]
  ·
   simp [z]⟩⟩
 clear hN o k e v r u F G;obtain⟨nm,len,ks⟩:=t;dsimp only at *;generalize numOf (W.tasks.map (·.1)) D=nD at *;generalize numOf (W.tasks.map (·.1)) S=nS at *;simp only[ruT];generalize numOf (W.tasks.map (·.1)) [nm]=n1 at *;generalize numOf (W.tasks.map (·.1)) (gH W nm)=n2 at *;generalize numOf (W.tasks.map (·.1)) (jE W nm)=n3 at *;generalize numOf (W.tasks.map (·.1)) (jR W nm)=n4 at *;unfold okT at q M;dsimp only at q M;generalize R:decide (nm∈D)=c1 at *;generalize X:@decide (∀x∈gH W nm,x∈S) (aw _)=c3 at *;generalize U:@decide (∀x∈jE W nm,x∈S++D) (aw _)=c4 at *;generalize V:@decide (∀x∈jR W nm,x∉S) (aw _)=c5 at *;clear R X U V;walk_at "";refine⟨adF,nS,n1,rfl,?_⟩;rw[b1];by_cases hS:nm∈S
 .simp only[hS,aaI,if_true,jz,true_implies] at q M |-;refine⟨nD,n1,rfl,?_⟩;rw[b2];cases c1 with
  |true =>
   try simp only[jz,if_true]
   exact q.out adE
  |false =>
  simp only[jz,I_,Zj];refine⟨ks,c,rfl,?_⟩;generalize vG ks c=c2 at *;cases c2 with
  |false=>simp only[jz,aag,if_true];exact q.out adE
  |true =>
  simp only[jz,Z0,I_,Zj];refine⟨nS,n2,rfl,?_⟩;rw[b3];cases c3 with
  |false=>simp only[jz,aag,if_true];exact q.out adE
  |true =>
  simp only[jz,Z0,I_,Zj];refine⟨dE nS nD,n3,rfl,?_⟩;rw[b4];cases c4 with
  |false=>simp only[jz,aag,if_true];exact q.out adE
  |true =>
  simp only[jz,Z0,I_,Zj];try rw[b5]
  cases c5 with
  |false=>simp only[aag,if_true];exact q.out adE
  |true =>
  simp only[Z0,I_,Zj];exact M.out _ _ _ _ _ _ adE
 simp only[hS,aas,I_,Zj,jz,oi,false_implies] at q M |-;exact M.out _ _ _ _ _ _ (by first | trivial | simp)
abbrev pB:List ai:=["works","number","tasks","left","task"]
theorem acp:eG pB ["works","number"] (aB (top 2)):=bx
theorem wB (g:G3 K mg "tasks_of" (top 2) ["works","number"] f D) (B:Bl mg):mY P w K mg base 1 "tasks_of" (top 2) ["works","number"] O4:=by
 refine c6 g acp ?_;rintro _ A _ _ H _ _ H3 _ M ⟨⟨tk,c,prs,b⟩,n,rfl,R,n0,S,k⟩;have l:=mX.u30 M;refine⟨_,(ak (aF 2 acp.nd (bL aj))
   (ak (aF 3 acp.nd adH)
   (ak (aZ q_ rfl (bO (aJ pA adG aq)) (aC 4 acp.nd) (ak (bD (aP (cY l) (aL eV adJ aq) aq) (ao (bQ (di N_ Q_ R_ bC adI (aa (aJ pA adK aq) aj)))) aW)
    (ao (aF 3 acp.nd (aL f9 adJ aq)))))
   (ao (aH (bJ cN rfl B.tuple_ cz (aa adI aj))))))),?_⟩
 walk_at "q";walk_at "h";have U:tk.length<=8:=R.t8;walk_at "";refine⟨adC,λp L=>?_⟩;refine mD (λr q H=>∃(A B:List (ai × Int × List ai)) (v:Option T),tk=A++B/\r=B.map tkT/\H=aY H3 p (.lst ((pick (A.map (·.1)) n).map v1))/\q=[ab (v2 [v2 (tk.map tkT),v2 (c.map orT),v2 (prs.map prT),v2 (b.map v1)]),ab (.int n),ab (.ref p),ab (.int (n / 2^A.length)),v]) ⟨[],tk,ae,rfl,rfl,rfl,adE⟩ ?_ ?_
 .rintro q H ⟨A,B,v,j,e,rfl,rfl⟩;have J:B=[]:=aaK.mp e.symm;subst J;rw[P_] at j;subst j;clear e;walk_at "t";walk_at "";exact lu.of (bc.new L) k
 rintro x r q H N ⟨A,B,v,j,e,rfl,rfl⟩ z;cases B with
 |nil=>cases e
 |cons t B =>
 rw[D_,aaT] at e;obtain⟨rfl,rfl⟩:=e;have O:A.length+1<=8:=by have:=T_ aT j;simp only[a_,i_] at this;omega
 have d:=vB (A.map (·.1)) [t.1] n;simp only[pick,b_] at d;have u:=Am (A.map (·.1)) n;rw[b_] at u;have m:n / 2^A.length / 2=n / 2^(A++[t]).length:=by rw[a_,M_,abm,i9 (ZX (Int.pow_pos adD))]
 have a:∀v,N [ab (v2 [v2 (tk.map tkT),v2 (c.map orT),v2 (prs.map prT),v2 (b.map v1)]),ab (.int n),ab (.ref p),ab (.int (n / 2^A.length / 2)),v] (aY H3 p (.lst ((pick (A.map (·.1)++[t.1]) n).map v1))):=λv=>by rw[m];exact z _ _ ⟨A++[t],B,v,by rw[j];simp,rfl,adE,rfl⟩
 rw[d] at a;replace a:=eY.mk a;obtain⟨nm,o,I⟩:=t;walk_at "t";clear z j k d m;simp only[tkT,sT];walk_at "";try simp only[true_and]
 refine⟨adD,?_⟩;by_cases F:n / 2^A.length%2=1
 .simp only[F,if_true,aaI] at a |-;refine⟨adC,?_⟩;have C:=a.out (ab (v2 [v1 nm,v0 o,v2 (I.map v1)]));rw[v_] at C;exact⟨⟨adD,adx⟩,C⟩
 simp only[F,Zj,aas,I_,P_] at a |-;exact⟨⟨adD,adx⟩,a.out _⟩
end
def HN (K:a8):Bool:=K.all λp=>!(p.2.cls==.type "list")
theorem HQ {K:a8} (e:K.lookup a=ab o):(a,o)∈K:=by
 induction K with
 |nil=>cases e
 |cons p r c =>
 obtain⟨b,u⟩:=p;rw[aaj] at e;split at e
 .rename_i h;rw[eq_of_beq h,Zg e];exact k_
 exact u_ _ (c e)
theorem Cz {K:a8} (h:HN K=ag) (e:K.lookup a=ab o):o.cls≠.type "list":=λz=>by
 have b:(a,o)∈K:=HQ e;have q:=Zy.mp h (a,o) b;rw[z] at q;simp at q
theorem uc (h:us.length=n+1):∃(a:av) (r:List av),us=a::r/\r.length=n:=by
 cases us with
 |nil=>exact nomatch h
 |cons a r=>exact⟨a,r,rfl,Nat.succ.inj h⟩
theorem uz {us:List av}(h:us.length=0):us=[]:=aap h
theorem ub1 (h:∀a:av,cy b ⟨[a],[]⟩=a5 ([c].zip [a])) (us:List av) (e:us.length=1):cy b ⟨us,[]⟩=a5 ([c].zip us):=by
 obtain⟨a,g,f,d⟩:=uc e;rw[f,uz d];exact h a
theorem ub2 (h:∀b a:av,cy d ⟨[b,a],[]⟩=a5 ([f,c].zip [b,a])) (us:List av) (e:us.length=2):cy d ⟨us,[]⟩=a5 ([f,c].zip us):=by
 obtain⟨b,m,i,g⟩:=uc e;obtain⟨a,l,j,k⟩:=uc g;rw[i,j,uz k];exact h b a
theorem ub3 (h:∀c b a:av,cy g ⟨[c,b,a],[]⟩=a5 ([i,d,f].zip [c,b,a])) (us:List av) (e:us.length=3):cy g ⟨us,[]⟩=a5 ([i,d,f].zip us):=by
 obtain⟨c,r,k,j⟩:=uc e;obtain⟨b,q,m,n⟩:=uc j;obtain⟨a,p,o,l⟩:=uc n;rw[k,m,o,uz l];exact h c b a
theorem ub4 (h:∀a d b c:av,cy k ⟨[a,d,b,c],[]⟩=a5 ([g,i,f,j].zip [a,d,b,c])) (us:List av) (e:us.length=4):cy k ⟨us,[]⟩=a5 ([g,i,f,j].zip us):=by
 obtain⟨a,v,o,n⟩:=uc e;obtain⟨d,u,q,m⟩:=uc n;obtain⟨b,t,r,l⟩:=uc m;obtain⟨c,w,s,p⟩:=uc l;rw[o,q,r,s,uz p];exact h a d b c
theorem ub5 (h:∀a f b d c:av,cy m ⟨[a,f,b,d,c],[]⟩=a5 ([i,j,g,k,l].zip [a,f,b,d,c])) (us:List av) (e:us.length=5):cy m ⟨us,[]⟩=a5 ([i,j,g,k,l].zip us):=by
 obtain⟨a,A,r,q⟩:=uc e;obtain⟨f,z,t,p⟩:=uc q;obtain⟨b,x,v,n⟩:=uc p;obtain⟨d,B,w,s⟩:=uc n;obtain⟨c,y,o,u⟩:=uc s;rw[r,t,v,w,o,uz u];exact h a f b d c
theorem ub6 (h:∀a f b d c g:av,cy o ⟨[a,f,b,d,c,g],[]⟩=a5 ([j,k,i,l,m,n].zip [a,f,b,d,c,g])) (us:List av) (e:us.length=6):cy o ⟨us,[]⟩=a5 ([j,k,i,l,m,n].zip us):=by
 obtain⟨a,F,u,t⟩:=uc e;obtain⟨f,E,x,s⟩:=uc t;obtain⟨b,B,z,p⟩:=uc s;obtain⟨d,G,A,v⟩:=uc p;obtain⟨c,C,r,y⟩:=uc v;obtain⟨g,D,w,q⟩:=uc y;rw[u,x,z,A,r,w,uz q];exact h a f b d c g
theorem Zd {K:a8}{st:eD}{kV d e b g:av} (X:K.In h) (G:h.Ns bv m) (a:nsIn K bv x=ab (ab (.ref f))) (l:K.lookup f=ab ⟨n,o,.func (mx x x (cV st) (cF st) (aB st) .none kV d e i b g),j⟩) (c:oC K b x=ag) (k:jv K (.ref f)=ag) (p:∀(kV d e:av) (i:Option am) (b g:av) (us:List av),us.length=ps.length->cy (mx x x (cV st) (cF st) (aB st) .none kV d e i b g) ⟨us,[]⟩=a5 (ps.zip us)):
  G3 K m x st ps f (mx x x (cV st) (cF st) (aB st) .none kV d e i b g) :=
 have F:=Do (st:=st) l c k
 ⟨F,F.binds p,mg_of X G a⟩
theorem b7 (i:Nat) (ps:List ai) (x:ai) (f:am) (m:ai) (t c:Nat) {K:a8} (X:K.In h) (G:h.Ns bv b) (d:∀(kV doc pm:av) (an:Option am) (cdv ct:av) (us:List av),us.length=ps.length->cy (mx x x (cV (top i)) (cF (top i)) (aB (top i)) .none kV doc pm an cdv ct) ⟨us,[]⟩=a5 (ps.zip us):=by first | exact λ_ _ _ _ _ _=>ub1 λ_=>rfl | exact λ_ _ _ _ _ _=>ub2 λ_ _=>rfl | exact λ_ _ _ _ _ _=>ub3 λ_ _ _=>rfl | exact λ_ _ _ _ _ _=>ub4 λ_ _ _ _=>rfl | exact λ_ _ _ _ _ _=>ub5 λ_ _ _ _ _=>rfl | exact λ_ _ _ _ _ _=>ub6 λ_ _ _ _ _ _=>rfl) (a:nsIn K bv x=ab (ab (.ref f)):=by kernel_rfl) (l:K.lookup f=ab (fO i x m t c):=by kernel_rfl) (e:oC K (.ref c) x=ag:=by kernel_rfl) (k:jv K (.ref f)=ag:=by kernel_rfl):
  G3 K b x (top i) ps f (mx x x (cV (top i)) (cF (top i)) (aB (top i)) .none .none .none (.str m t) ae (.ref c) .none) :=
 Zd X G a l e k d
theorem wC {K:a8}(n q:ai) (st:eD) (f:am) (m:ai) (t c:Nat) (l:K.lookup f=ab (fQ st n q m t c):=by kernel_rfl) (e:oC K (.ref c) q=ag:=by kernel_rfl) (k:jv K (.ref f)=ag:=by kernel_rfl):Fun K n q st f (mx n q (cV st) (cF st) (aB st) .none .none .none (.str m t) ae (.ref c) .none):=Do l e k
theorem afF {l:PySem.W.OpenLaw} (X:(KK w.params).In h) (G:h.Ns bv mg) (hfa:mg "law"=ab (.ref fa)):
  ∃fd:dk,(∀(s:aI) (v:av),oj s fd ⟨[v],[]⟩ [(acW,v)])/\∀base:cv,(KK w.params).In base->base.Ns bv mg->lG l.prog w (KK w.params) mg base 9 fa fd [acW] Aw:=by
 have I:∀{n:ai} {v:av},nsIn (KK w.params) bv n=ab (ab v)->mg n=ab v:=λe=>mg_of X G e;have vk:∀{n:ai},nsIn (KK w.params) bv n=ab ae->mg n=ae:=λe=>PySem.W.mg_none_of X G e;have e:=hfa.symm.trans (I (v:=.ref 354) adz);cases e;have B:Bl mg:=by constructor <;> exact vk adz
 refine⟨mx "law" "law" (cV (top 59)) (cF (top 59)) (aB (top 59)) .none .none .none (.str mlw 505) ae (.ref 353) .none,λs v=>.of_eq rfl,λbase _ _=>?_⟩;have c:Cls (KK w.params) 165:=⟨adz,adz,adz,adz⟩;have up:∀n∈(["works","beat","rules","whole"]:List ai),f8 (KK w.params) (.ref 165) n=ab ae:=λn hn=>by simp only[n_,ZR,aba] at hn;rcases hn with rfl | rfl | rfl | rfl <;> kernel_rfl
 have b:adf (KK w.params) 165 ["works","beat","rules","whole"]:=⟨c,up⟩;have A:=wC (K:=KK w.params) "__init__" "Walk.__init__" (acl 24 0) 140 ac3 351 139;have g_Walk:GI (KK w.params) mg 165 "Walk" "Walk.__init__" (acl 24 0) ["self","works","beat"] 140 _:=⟨⟨adz,adz,adz,adz⟩,A,A.binds λ_ _ _ _ _ _=>ub3 λ_ _ _=>rfl,I (v:=.ref 165) adz⟩;have f:=wC (K:=KK w.params) "fillings_at" "Walk.fillings_at" (acl 24 1) 145 ac3 351 144;have T:GM (KK w.params) 165 "fillings_at" "Walk.fillings_at" (acl 24 1) ["self","stand","done"] 145 _:=⟨c,f,f.binds λ_ _ _ _ _ _=>ub3 λ_ _ _=>rfl,⟨adz,adz,adz⟩⟩;have g:=wC (K:=KK w.params) "greatest_at" "Walk.greatest_at" (acl 24 2) 152 ac3 351 151;have Q:GM (KK w.params) 165 "greatest_at" "Walk.greatest_at" (acl 24 2) ["self","stand","done"] 152 _:=⟨c,g,g.binds λ_ _ _ _ _ _=>ub3 λ_ _ _=>rfl,⟨adz,adz,adz⟩⟩;have E:=wC (K:=KK w.params) "load_at" "Walk.load_at" (acl 24 3) 157 ac3 351 156;have g_load_at:GM (KK w.params) 165 "load_at" "Walk.load_at" (acl 24 3) ["self","number"] 157 _:=⟨c,E,E.binds λ_ _ _ _ _ _=>ub2 λ_ _=>rfl,⟨adz,adz,adz⟩⟩;have m:=wC (K:=KK w.params) "dealing_of" "Walk.dealing_of" (acl 24 4) 162 ac3 351 161;have g_dealing_of:GM (KK w.params) 165 "dealing_of" "Walk.dealing_of" (acl 24 4) ["self","fillings"] 162 _:=⟨c,m,m.binds λ_ _ _ _ _ _=>ub2 λ_ _=>rfl,⟨adz,adz,adz⟩⟩;have vb:=ym (P:=l.prog) (w:=w) (base:=base) (b7 36 [acW] "_law_numbers" 223 mlw 505 222 X G) B;have a:=Mp (P:=l.prog) (w:=w) (base:=base) (b7 37 [ack,acD] ac1 230 mlw 505 229 X G) B;have vr:=tK (P:=l.prog) (w:=w) (base:=base) (b7 39 ["_law_size",adn,acw] "_law_free_name" 244 mlw 505 243 X G) B;have u3:=Hx (b7 40 [ack,acA] "_law_names" 249 mlw 505 248 X G) B a vr;have j:=Mq (b7 41 [ack,adi] "_law_turn" 256 mlw 505 255 X G) B a;have vu:=yo (P:=l.prog) (w:=w) (base:=base) (b7 43 [acA,ac6] "_law_chained" 266 mlw 505 265 X G) B;have uu:=Hw (b7 44 [ack,acw,ado,"_law_lots"] "_law_pairs" 271 mlw 505 270 X G) B j a vu;have ua:=pN (b7 45 [ack,adk,acw] "_law_some_kinds" 276 mlw 505 275 X G) B j a;have J:=Hv (b7 46 [ack,"_law_row",acw,ac_] "_law_kinds" 281 mlw 505 280 X G) B a ua;have p:=Ht (b7 38 [ack,acD] "_law_great" 237 mlw 505 236 X G) B a;have vv:=yp (b7 42 [ack,acA] "_law_lengths" 261 mlw 505 260 X G) B a p
 have uj:=Hy (b7 47 [ack,acD,"_law_stands"] "_law_works" 286 mlw 505 285 X G) B u3 a j uu J vv;have L:=mj (P:=l.prog) (w:=w) (base:=base) (b7 33 ["works"] "loads_rising" 209 "stationrow.beats" 485 208 X G) B;have C:=tW (P:=l.prog) (w:=w) (base:=base) (b7 1 ["works","tasks"] "number_of" 21 "stationrow.sets" 187 20 X G) B;have vt:=pU (P:=l.prog) (w:=w) (base:=base) (b7 15 ["works","task"] "apart_from" 90 adb 288 89 X G) B;have z:=j9 (P:=l.prog) (w:=w) (base:=base) (b7 9 ["works","found","other"] "in_first_alone" 64 acV 211 63 X G) B;have V:=yt (P:=l.prog) (w:=w) (base:=base) (b7 5 ["links","start"] "reached" 42 acV 211 41 X G) B;have F:=vV (P:=l.prog) (w:=w) (base:=base) (b7 4 ["works"] "links_of" 35 acV 211 34 X G) B;have D:=vX (b7 7 ["works","task"] "led_from" 54 acV 211 53 X G) B V F;have u:=Cy (b7 6 ["works","task"] "led_to" 49 acV 211 48 X G) B V F;have vn:=wj (b7 11 ["works","task"] "ahead_of" 78 acV 211 77 X G) B z D u;have uk:=yw (P:=l.prog) (w:=w) (base:=base) (b7 8 ["works","found","other"] "in_both" 59 acV 211 58 X G) B;have u2:=vZ (b7 10 ["works","task"] "group_of" 71 acV 211 70 X G) B uk u D
 have vj:=wA (b7 16 ["works"] "rules_of" 97 adb 288 96 X G) B C vt vn u2;have u8:=wz (P:=l.prog) (w:=w) (base:=base) (b7 21 ["tasks"] "names_of" 121 "stationrow.texts" 343 120 X G) B;have y:=Mv g_Walk B b vj C u8;have d:=yC (P:=l.prog) (w:=w) (base:=base) (b7 17 ["number","part"] "has_all" 104 adb 288 103 X G) B;have o:=jm (b7 19 ["numbers"] "greatest_numbers" 116 adb 288 115 X G) B d;have ve:=ww (b7 23 ["number"] "parts_of" 126 ac3 351 125 X G) B d;have O:=o7 (P:=l.prog) (w:=w) (base:=base) (b7 13 ["kinds","kind"] "may_be_done" 85 "stationrow.checks" 278 84 X G) B;have k:=iV (b7 18 ["rules","beat","kind","done","number"] "is_filling_number" 111 adb 288 110 X G) B d O;have i:=o9 T B b ve k;have M:=oZ Q B b o i
 have Y:=oX (b7 30 ["walk","stand","ways"] "ways_behind" 197 "stationrow.dealt" 458 196 X G) B b M
 have ub:=wB (P:=l.prog) (w:=w) (base:=base) (b7 2 ["works","number"] "tasks_of" 28 "stationrow.sets" 187 27 X G) B;have r:=pX g_dealing_of B b ub;have q:=pQ (b7 31 ["works","beat","many"] "dealing_to" 204 "stationrow.dealt" 458 203 X G) B b y Y r;have vc:=pP (b7 34 ["works","many"] "least_beat" 216 "stationrow.beats" 485 215 X G) B L q;have va:=Mr (b7 48 [ack,acy] "_law_beat" 291 mlw 505 290 X G) B a p
 have u4:=yE g_load_at B b d;have H:=lZ (b7 26 ["walk","stand","evens"] "evens_behind" 176 adp 419 175 X G) B b i u4
 have x:=jH (b7 27 ["walk","many"] "evens_by_stands" 183 adp 419 182 X G) B H;have ui:=tV (b7 28 ["works","beat","many"] "most_even" 190 adp 419 189 X G) B b y x r;have N:=oW (P:=l.prog) (w:=w) (base:=base) (b7 50 [acw,adv] adw 305 mlw 505 304 X G) B;have u7:=Ms (P:=l.prog) (w:=w) (base:=base) (b7 49 [acs] "_law_flat" 298 mlw 505 297 X G) B;have S:=X4 (P:=l.prog) (w:=w) (base:=base) (b7 51 [acs] "_law_at" 312 mlw 505 311 X G) B;have t:=pO (b7 52 [acy,acC,acs] adu 317 mlw 505 316 X G) B S
 have vi:=HH (b7 53 [acy,acC,acs] "_law_fault" 322 mlw 505 321 X G) B N u7 t;have Z:=HD (P:=l.prog) (w:=w) (base:=base) (b7 54 [acy,acs] "_law_loads" 327 mlw 505 326 X G) B;have U:=yr (b7 55 [acy,acs] "_law_squares" 332 mlw 505 331 X G) B Z;have R:=HB (P:=l.prog) (w:=w) (base:=base) (b7 56 [acs,adc,"_law_there"] "_law_moved" 337 mlw 505 336 X G) B;have vw:=tO (b7 57 [acy,acC,acs,"_law_due"] "_law_no_better" 342 mlw 505 341 X G) B R U t;have vl:=Hz (b7 58 [acy,acC,acA,acX] "_law_right" 347 mlw 505 346 X G) B vi U vw;exact Ud (b7 59 [acW] "law" 354 mlw 505 353 X G) B vb uj a vc va ui q vl
theorem walk {l:PySem.W.OpenLaw}{K:mP->a8} (B:l.most=ab 63) (i:d.params.defaults=[]) (y:∀(w:bS) (h:cv),YP w h->(K w.params).In h) (j:∀w:bS,HN (K w.params)=ag) (F:∀(w:bS) (mg:ai->Option av) (fa:am) (h:cv),(K w.params).In h->h.Ns bv mg->mg d.name=ab (.ref fa) ->
   ∃fd:dk,(∀(s:aI) (u:av),oj s fd ⟨[u],[]⟩ [(acW,u)])/\∀base:cv,(K w.params).In base->base.Ns bv mg->lG l.prog w (K w.params) mg base 9 fa fd [acW] Aw):
  sL q loose XP YP l.row.toRowW d [] (λf vs=>r_ f vs):=by
 refine L2.afh (n:=63) (k:=9) (x:=acW) (CX:=λ_=>CX0) (sp:=λw=>uB (K w.params) Aw) B adD i ⟨rfl,adD,adD,rfl⟩ y F (λw H a ns D J g=>?_) λ_ _ _ _ _ z=>z;refine⟨[.ref a],λb=>if b=a then ab (.rol (ns.map v0)) else ae,λt _=>t=.bl ag,.cons .ofRef .nil,λb o e=>?_,⟨a,ns,rfl,aca rfl,D,λ_=>rfl⟩,λv H' t E _ _ r q=>?_⟩
 .dsimp only at e;by_cases p:b=a
  .rw[aca p] at e;cases e;subst p;rcases g with g | ⟨o,C,n,I,G,_⟩
   .refine⟨_,g,?_⟩;have:∀c:List Int,fY (K w.params) H (c.map v0) (c.map V.int):=λc=>by
     induction c with
     |nil=>exact .nil
     |cons m r A=>exact .cons .ofInt A
    exact this ns
   exact ach G (Cz (j w) I)
  rw[ace p] at e;cases e
 subst q;exact r.bl
end M
open PySem PySem.W PyProof.Rows
set_option maxRecDepth 100000 in
set_option maxHeartbeats 0 in
theorem PySem.Challenge.cw_stationrow_k70_even_and_without_fault_holds : PySem.Challenge.rw_stationrow_k70_even_and_without_fault.Holds :=
 M.zqH (M.walk (l:=PySem.Challenge.rw_stationrow_k70_even_and_without_fault) rfl rfl (λw h Y=>kIn_of Y) (λw=>by kernel_rfl) λw mg fa h KX G hmg=>M.afF KX G hmg)
