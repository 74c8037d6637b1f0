import PyProof.Rows.All
import PyProof.EqAt
import PyProof.EqKinds
import PyProof.TupleCall
import PyProof.NeKinds
import PyProof.StrWalks
import PyProof.Rows.SetFrom
import PyProof.WalksMore
import KE.KIntText
import PyProof.EnumMake
import PyProof.WalkInts
import PyProof.ReprRoads
import PyProof.ReprLen
import KE.KRevIter
import KE.KRevSl
import PyProof.StrCalls
import PyProof.Rows.StrFit
import KE.KDictOf
import PyProof.AttrMissHeap
import PyProof.DictItems
import KE.KDictLaws
import KE.KSortTup
import KE.KDictList
import PyProof.StrLawsTight
import PyProof.StrLawsNeg
import Open.Tree
import Wide.Line
import OpenK.KOwn
import KE.KFromBytes
import KE.KItem
import KE.KIsAll
import PySem.Challenge.RW_stationrow_k53_own_papers
open PySem renaming wpAny_bind→a_,wpAny_pure→l_,wpAny_truthy_bool→Zg,wpAny_newObj_type→Zh,wpAny_field→Zi,wpAny_call_entry→Zk,wpAny_callSpecial?_slot→Zt,wpAny_seqItems→Zv,wpAny_holding→Zx,wpAny_mono→ZK,wpAny_Call_Name_kw→FV,wpAny_setField_rec→GE,wpAny_passesOwn→FF,wpAny_specialOf→Fc,wpAny_getItem_str_slice→KI,codeAny_builtin→HG,wpAny_pyIter_list→JO,wpAny_typeOf→FL,wpAny_isInstance→IF,call_meets→EQ,tupleKind_room_in1→Kk,sizeLine_eq→Fk,wpAny_newList→IE,Addr→af,Str→ap,sizeLine→av,Value→aw,wpAny→ay,starEach→aE,Shared→aI,model→aT,bootBuiltins→a8,compareOp→a9,cellsFrom→ba,World→bb,Program→br,binaryOp→bt,mainGlobals→bv,eval→bP,behindInMarks→b9,cLine→cc,Heap→ci,backTo→cv,bindArgs→cS,IsPair→c9,foldedSetIterable→df,FuncData→dk,sysModules→dn,assignEach→dt,Around→dA,swapsWith→dL,attributeBase→dP,Obj→dQ,Stmt→ef,Builtin→et,sliceBounds→ez,getItem→eI,codeAny→eJ,NameKind→eM,isSubtype_tuple_tuple→eS,builtinLookup_eq_fast→eT,holding→e9,wpAny_updateSeq_pair→fb,wpAny_pyIter_revIter→fe,wpAny_execs_nil→fh,post_val_or_str→fi,letOwnedTupleGo→fk,Paired→fm,IsZip→f7,codeAny_mono→f8,wpAny_tupleItemsOf→gv,wpAny_rule→gx,assign→gN,IsPart→hG,wpAny_sequenceKey→ii,wpAny_onRaise→iN,wpAny_comprehension_free→iO,noFill_tuple_add→i6,storedH→js,concat_meets→jI,call→jS,Within→j2,wpAny_loadPart'→kr,typeLookup_type→ku,Draws→kB,wpAny_isTrue_Compare1→kC,wpAny_letGo→kH,subscripted→kK,pyNext→kM,newFunctionEnv→kP,keywordEach→kQ,valueAt→li,tupleKind→lj,treeTable→lp,pushCells→ly,callerA→lI,wpAny_standAt→l8,seq_tuple_add→ma,plainId_quiet→me,evalPart_none→mf,atKey→mh,Pos→mi,wpAny_pyIter_tuple→mv,wpAny_load→mw,typeLookup→mx,reduceHash→mB,rawInt→mE,getattributeRaised→mI,call_reversed_list→mN,builtinsNs→mS,PlainAttrs→nh,Params→nk,wpAny_assign_Name→ny,standAt→nz,seqIndex_neg→nB,eqIsQuiet_byValue→nL,collect→nN,BindsTo→ow,wpAny_pyIter_zip→ox,wpAny_forIn_list→oz,wpAny_execs_cons→oB,wpAny_eqBool_int→oC,getMethod→oS,eqIsQuiet→oT,PassesOwn→o2,DictEntry→qa,seqIndex_of→qc,pushCells_keeps→qq,importedModules→qr,spliced→rb,ItemsOf→rc,wpAny_setField→re,wpAny_runValue→rf,wpAny_newTuple→rg,wpAny_Name→rh,wpAny_Compare1→ri,typeIs_str→rj,typeIs_int→rk,recursionLimit→rq,isSubtype_type→rS,isInstance→rV,firstArgMember→rX,field→r0,callType_codes→r4,bindL→r6,bindC→r9,backToKw→r_,call→sf,IsTupleKey→sv,wpAny_in_heap→sA,wpAny_attempt→sB,swapsWithSole→sC,swappedStores→sD,nums_intItems→sF,intBits_le_64→sK,call_list_seq→sL,setItem→tf,relabel→tj,newList→tm,cellOf→tr,Keyword→tw,Env→tJ,typeOf→tN,revObj→tP,pyIter→tS,Tok→tT
open List renaming length_append→b_,getElem?_eq_getElem→d_,length_map→g_,getD_eq_getElem?_getD→i_,mem_singleton→j_,length_cons→n_,mem_map→o_,mem_filter→p_,mem_append→q_,length_singleton→t_,size_toArray→x_,mem_cons→y_,mem_cons_of_mem→z_,mem_cons_self→A_,map_append→B_,getElem?_map→C_,length_range→D_,map_cons→J_,getElem?_append_right→O_,mem_of_getElem?→S_,mem_range→T_,getElem?_eq_none→U_,map_map→W_,mem_append_right→X_,mem_append_left→YC,length_filter_le→YD,take_succ_eq_append_getElem→YF,all_eq_true→YG,append_nil→YH,not_mem_nil→YJ,getElem?_range→YL,length_nil→YM,getElem?_append_left→YW,getElem_mem→YZ,length_take→Y0,nodup_cons→Y4,getElem?_cons_zero→Y8,mem_flatten→Y9,filter_append→Y_,length_replicate→Zb,replicate_succ→Zc,getElem?_cons_succ→Ze,mem_flatMap→Zf,dropLast_concat_getLast→Zj,filter_cons→Zn,length_reverse→Zo,filter_congr→Zr,getElem?_of_mem→Zw,sum_cons→Zz,lookup_cons→ZF,getElem_map→ZG,getElem?_eq_some_iff→ZJ,map_congr_left→ZM,flatten_cons→ZQ,append_assoc→ZR,map_nil→ZX,forIn_cons→ZZ,any_eq_true→Z5,take_of_length_le→GH,flatMap_append→Fn,find?_cons→EA,pairwise_iff_getElem→JI,eq_nil_of_length_eq_zero→LO,nodup_nil→EC,length_eq_zero_iff→HM,map_eq_nil_iff→GU,flatMap_singleton→ID,nil_append→IH,flatten_append→Ic,getElem?_replicate→K0,length_drop→G1,cons_append→LA,take_length→F1,take_append_of_le_length→M0,getElem?_set_self→KW,getElem?_take→Iy,filter_eq_nil_iff→JU,of_mem_zip→GV,ext_getElem?→IT,nodup_append→IB,getElem?_set_ne→KL,forIn_nil→F7,mem_iff_getElem→LU,mem_of_mem_take→KG,map_reverse→HV,any_cons→HI,foldl_append→Lv,pairwise_map→LW,getElem?_inj→Kb,range→ax,replicate→aS,length→a5,lookup→d3,flatten_singleton→eP,map→ff,length_dropLast→fg,take_left'→fy,foldl_cons→fz,filterMap_cons→f6,zip_cons_cons→g6,filterMap_map→g9,drop_eq_getElem_cons→hZ,reverse_perm→iA,reverse_cons→iE,map_drop→i4,getD→i8,length_pos_of_mem→kb,drop_of_length_le→kc,all_map→ke,sum_append→kx,range_succ→ky,length_set→kz,filter_map→kA,take_append_drop→kD,getElem?_reverse→kF,dropLast_eq_take→kG,range'→k5,mem_of_mem_drop→k6,drop_zero→k9,reverse_append→lT,map_take→mm,map_inj_right→nr,take_sublist→nX,any_map→n9,any_eq_false→oa,all_eq_false→oe,zipIdx_cons→pi,nodup_range→pu,map_fst_zip→pw,getLast_mem→pE,flatten_nil→pS,drop_length→pT,zipIdx_nil→qB,length_zip→qE,filter_nil→qS,range_add→sj,foldl→sk,filterMap→so,take_nil→sQ
open PySem.Heap renaming get?_push_of_some→e_,get?_push_size→E_,lt_size→F_,get?_update_ne→ZL,size_push→EX,get?_update_other→LJ,SameBut→cE,get?_update_self→eW,size_update→i9
open Nat renaming le_refl→u_,ne_of_lt→L_,le_trans→R_,lt_of_lt_of_le→Yz,lt_irrefl→YQ,ne_of_gt→YT,lt_trans→YX,zero_le→Y5,le_of_lt→ZC,lt_succ_self→ZD,lt_succ_of_lt→ZS,lt_of_le_of_lt→Z0,log2_le_self→FD,lt_or_ge→D7,pow_le_pow_right→IQ,le_of_eq→FX,not_lt→EZ,testBit_and→fv,not_lt_zero→fw,lt_or_eq_of_le→g5,pow_succ→ka,min_eq_left→kw,le_succ→kU,eq_of_testBit_eq→kX,le_succ_of_le→nS,le_of_lt_succ→nV,min_eq_right→pa,le_of_not_lt→pb,le_add_right→pc,pow_pos→qk,testBit_or→sg,mod_lt→si,add_assoc→sP
open Bool renaming false_eq_true→v_,and_eq_true→H_,false_ne_true→K_,eq_iff_iff→Yx,true_and→Y7,false_and→Zu,not_true→Zy,not_eq_true'→ZW,not_false→DS,false_or→IA,true→ai,false→am,or_eq_true→fI,and_false→lf,or_false→mr,and_true→ms,true_or→ot
open PySem.PassesOwn renaming never→G_
open PySem.F renaming plainAttrs_list→I_,slot_list_append→M_,type_list_append→N_,slot_tuple_iterator_next→KF,args_tuple_add_2→MO,slot_list_getattribute→Nc,slot_tuple_hash→LD,entry_tuple_add→eC,slot_tuple_add→eK,slot_zip_next→fA,args_tuple_iterator_next_1→fE,entry_tuple_iterator_next→f_,type_list_reverse→hU,slot_list_reverse→hY,args_list_append_2→lc,entry_list_append→l7,slot_list_append→nv,args_zip_next_1→om,entry_zip_next→p9,slot_tuple_eq→qV,slot_int_rmul→ra
open Option.some renaming inj→P_,injEq→GA
open Int renaming emod_lt_of_pos→Q_,emod_nonneg→Yy,toNat_natCast→ZP,natCast_nonneg→F2,pow_succ→E2,le_refl→FK,add_zero→F4,one_mul→HA,toNat→cw,ediv_ediv_of_nonneg→eD,mul_one→lb,ofNat_inj→mo,mul_zero→og,mul_comm→oi,ediv_one→oj,ofNat→pV,mul_le_mul→sx
open PyProof.Rows renaming slot_tuple_getitem→YK,callWith_type1→Za,get?_update_seq→GB,seqObj→bX,IntsAre→db,sortedHeap→e5,entry_tuple_getitem→fR,slicePart_none→gE,args_tuple_getitem→gS,AllBare→iL,subscriptTail→iP,listUpdate_at→iS,envOfC→iX,subscriptTail_builtinR→jp,KeyOrd→kf,entry_proto_collect'→kR,tupleItemsOf_→l9,Subscript_→mT,listItems_at→nI,wpAny_notIn_heap→oy,sortedAll→oI,entry_list_iadd'→o0,seqEpoch_at→qf,IsTup→qo,entry_list_sort→qs,slot_list_sort→ro,size_push'→rp,args_list_sort→sd,tail_any→tx,keyKind'→tz
open Array renaming getD_eq_getD_getElem?→Z9,length_toList→HC,getElem?_eq_getElem→Ll,getElem?_toList→Kn,forIn_toList→hJ
open Prod.mk renaming injEq→Z_,inj→Gc
open Classical renaming byContradiction→II,propDecidable→ae
open PyProof.Rows.KeyOrd renaming kle_refl→E3,kle_of_klt→IZ,kle_trans→e6,kle_antisymm→l6
open Option renaming map_eq_some_iff→IN,isSome_some→GW,isSome_map→G2,isSome_iff_exists→LG,isSome_none→JY,some→ab,none→ag,map_some→kv,getD_none→o3
open PySem.Paired renaming length→EK,snoc→F8
open PySem.SeqAt.EqAt renaming int_int→IL,str_int→nb,int_str→ng,same→qA
open PySem.Calls renaming spliced_cons→KP,spliced_nil→LM,Name_function_global→hH,call_function_entry→ia,callWith_builtin→kg
open PySem.Builtin renaming bitAnd→a3,bitOr→cr,bitNot→eR
open PySem.Value renaming ref→a4,none→bE,bool→c8,int→de,type→ev,builtin→i3,str→lS,float→qh,isStrOf→sM
open PySem.W renaming Frag→a6,emptyDict→d5,kia_one→ek,findIn→gI,instObj→im,SharedT→i7,keepIn→jv,plainGet_of→kN,cellsFrom_some→kS,absHeap→lP,fnOf→mM,callWith_K→mP,plainGet→nE,kas_ask→nK,methodObj→oP,hasDictIn→oQ,codeIn→o1,kitx_tuple→rL,openEnds→se,WalkO→sN,plainOver→sR,kitx_list→s0,kitx_dict→s9,takerIn→s_,lookIn→tq,kat_cons→tF,handedIn→tI
open Ne renaming symm→a7
open PySem.Builtin.Str renaming occurrences→bg
open PySem.Builtin.SmallTypes renaming nextOf→bi,ownedTupleIsFree→cn,ownedTupleHandOut→d6
open PySem.Builtin.Slice renaming slicePlaces→bo,sliceAdjust→cf,sliceApplied→da,sliceFields→ic
open PySem.Builtin.Tuple renaming tupleExact→bp,tupleItemsOf→c_,tupleHashOf→ib
open PySem.Obj renaming mapSeq→bS,data_mapFields→nn
open PySem.Builtin.List renaming listExtendWith→ca,listTooLong→dy,listSameRef→i5,listUpdate→ja,listItems→ki
open Pure renaming pure→ce
open ForInStep renaming yield→cp
open Sum renaming inr→cq,inl→dS
open True renaming intro→cx
open False renaming elim→cy
open PySem.NameKind renaming free→cK,cell→ej
open PySem.Str renaming ofString→dE
open Or renaming inr→fq,inl→j3
open PySem.Txt renaming slice→gu,slice_le→j1
open PySem.SeqAt renaming EqAt→gT
open Prod renaming ext→gX
open Sum.inr renaming inj→io
open List.Pairwise renaming nil→iF
open PySem.Around renaming under→kn,under_plainId→lh
open List.Perm renaming refl→la
theorem xo{p:Prop}(h:p:=by decide +kernel):p:=h
theorem zh{p:Prop}(h:p:=by kernel_rfl):p:=h
theorem uS{p:Prop}(h:p:=by omega):p:=h
theorem vS{p:Prop}(h:p:=by decide):p:=h
theorem wn{p:Prop}(h:p:=by simp):p:=h
open True renaming intro→wo
abbrev we:=@if_pos
abbrev wc:=@if_neg
abbrev wT:=@absurd
abbrev h_:=@decide_eq_true_iff
abbrev k_:=@decide_eq_true
abbrev m_:=@decide_eq_false
abbrev V_:=@if_false
abbrev YB:=@congrArg
abbrev YS:=@decide_eq_false_iff_not
abbrev Y6:=@beq_eq_false_iff_ne
abbrev Zd:=@decide_false
abbrev Zm:=@decide_eq_decide
abbrev Zq:=@of_decide_eq_true
abbrev ZV:=@decide_true
abbrev AJ:=@or_false
abbrev CY:=@beq_iff_eq
abbrev LN:=@decide_eq_true_eq
open PySem.W (Frag InstAt LeftO callWith_K cellsFrom_some codeIn emptyDict findIn fnOf handedIn hasDictIn instObj isFn kHook keepIn kia_one kitOne kitx_dict kitx_list kitx_tuple lookIn makesIn methodObj mg_of mroIn nsIn plainGet plainGet_of plainOver recOk takerIn typeIn xlAt)
noncomputable section
open PySem PySem.Spec PyProof.Rows
set_option Elab.async false
set_option compiler.extract_closed false
set_option bootstrap.genMatcherCode false
set_option genSizeOf false
set_option linter.all false
set_option maxRecDepth 100000
namespace L2
def dh (s:ef):Arguments:=match s with
 |.FunctionDef _ a _ _ _ _ _ _ _ _=>a
 |_=>{ posonlyargs:=[],args:=[],vararg:=ag,kwonlyargs:=[],kw_defaults:=[],kwarg:=ag,defaults:=[]}
def cP (s:ef):List ef:=match s with
 |.FunctionDef _ _ b _ _ _ _ _ _ _=>b
 |_=>[]
def aC (s:ef):Scope:=match s with
 |.FunctionDef _ _ _ _ _ _ a _ _ _=>a
 |_=>{ kind:=.function,names:=[],isGenerator:=am,isCoroutine:=am}
end L2
namespace M
open L2
def vT (i:Nat):ef:=PySem.Challenge.pw_stationrow_k53_own_papers.main.body.getD i (.Pass ⟨0,0,0,0⟩)
def KQ:ef->List ef
 |.ClassDef _ _ _ a _ _ _ _ _ _ _=>a
 |_=>[]
def As (i j:Nat):ef:=(KQ (vT i)).getD j (.Pass ⟨0,0,0,0⟩)
def qv:br:={ PySem.Challenge.pw_stationrow_k53_own_papers with main:={ PySem.Challenge.pw_stationrow_k53_own_papers.main with body:=([0,2,3,4,5,6,7,8,9,11,13,15,16,18,19,20,21,22,24,25,27,28,29,30,31,32,33,34,35,37,38,39,40,41,42,43,44,45,46,47,48,49,50,51,52,53,54,55,56,57,58,59,60,61]:List Nat).map vT}}
def en (P:nk) (n:ap) (t:Nat) (v:aw):qa:=⟨PyData.keyHash P n,.str n t,v⟩
def cO (n:ap) (c:Nat) (b:Bool) (a j l k:Nat):dQ:=⟨.type "code",ag,.fields #[.str n a,.str n (a+1),.str "/claim/cut.py" (a+2),.int l 0,.int k 0,.int 0 0,.int 0 0,.int 3 0,.ref (c - (bif b then 5 else 3)),.bool ai,.int 181 0,.ref (c - (bif b then 4 else 2)),.none,bif b then .ref (c - 3) else .none,bif b then .ref (c - 2) else .none,.ref (c - 1),.int j 0,.int l 0,.str "/claim/cut.py" (j+1)],#[]⟩
def fO (i:Nat) (n m:ap) (t c:Nat):dQ:=⟨.type "function",ag,.func (mM n n (dh (vT i)) (cP (vT i)) (aC (vT i)) .none .none .none (.str m t) ag (.ref c) .none),#[]⟩
abbrev w_:ap:="_law_works_here"
abbrev xS:ap:="_law_beat_here"
abbrev yb:ap:="_law_script"
abbrev yA:ap:="_law_cell_here"
abbrev zD:ap:="_law_done"
abbrev zS:ap:="_law_stands"
abbrev z5:ap:="_law_plan_here"
abbrev AB:ap:="_law_k"
abbrev AD:ap:="_law_many"
abbrev Au:ap:="_law_some_here"
abbrev AG:ap:="_law_number_here"
abbrev AH:ap:="_law_names"
abbrev AX:ap:="stationrow.papers"
abbrev A6:ap:="_law_one"
abbrev A8:ap:="stationrow.chains"
abbrev BE:ap:="_law_places"
abbrev CH:ap:="_law_most"
abbrev CD:ap:="_law_wide"
abbrev CL:ap:="_law_kind"
abbrev C8:ap:="stationrow.walks"
abbrev DZ:ap:="stationrow.fillings"
abbrev DU:ap:="_law_name"
abbrev EB:ap:="_law_other"
abbrev EI:ap:="_law_task_here"
abbrev D4:ap:="_law_stand"
abbrev EM:ap:="_law_words"
abbrev FA:ap:="_law_reason_here"
abbrev FO:ap:="_law_word_here"
abbrev FM:ap:="_law_pool_here"
abbrev xt:ap := "law_stationrow_k53_own_papers"
def fx (i:Nat) (n m:ap) (t c:Nat) (b:Bool) (a j l k:Nat):(nk->qa) × a6:=(λP=>en P n (j+2) (.ref (c+1)),[(c,cO n c b a j l k),(c+1,fO i n m t c)])
def TB:List ((nk->qa) × a6):=[fx 0 "_wall" "__main__" 164 20 ai 187 191 1 1,
 fx 2 "links_of" A8 194 27 ai 196 204 5 1,
 fx 3 "reached" A8 194 34 ai 207 216 12 2,
 fx 4 "led_to" A8 194 41 ai 219 224 22 2,
 fx 5 "led_from" A8 194 46 am 227 230 24 2,
 fx 6 "in_both" A8 194 51 am 233 236 26 3,
 fx 7 "in_first_alone" A8 194 56 am 239 242 28 3,
 fx 8 "group_of" A8 194 63 ai 245 250 30 2,
 fx 9 "ahead_of" A8 194 70 ai 253 258 32 2,
 fx 11 "may_be_done" "stationrow.checks" 261 77 ai 263 268 35 2,
 fx 13 "names_of" "stationrow.texts" 271 82 am 273 276 38 1,
 fx 15 "number_of" "stationrow.sets" 279 89 ai 281 289 41 2,
 fx 16 "tasks_of" "stationrow.sets" 279 96 ai 292 300 49 2,
 fx 18 "apart_from" DZ 303 101 am 305 308 58 2,
 fx 19 "rules_of" DZ 303 108 ai 311 323 60 1,
 fx 20 "has_all" DZ 303 115 ai 326 331 69 2,
 fx 21 "is_filling_number" DZ 303 122 ai 334 349 71 5,
 fx 22 "greatest_numbers" DZ 303 127 am 352 355 83 1,
 fx 24 "parts_of" C8 358 132 am 360 363 90 1,
 (λP=>en P "Walk" 427 (.ref 174),[]),
 fx 27 "length_left" AX 428 184 ai 430 435 122 2,
 fx 28 "dones_behind" AX 428 189 am 438 441 124 3,
 fx 29 "is_done" AX 428 196 ai 444 456 127 2,
 fx 30 "is_left" AX 428 203 ai 459 466 135 4,
 fx 31 "is_less" AX 428 208 am 469 472 137 4,
 fx 32 "is_ways" AX 428 213 am 475 478 139 5,
 fx 33 "is_reason" AX 428 220 ai 481 490 143 6,
 fx 34 "are_sorted" AX 428 225 am 493 496 149 2,
 fx 35 "is_paper" AX 428 230 am 499 502 152 4,
 fx 37 "_law_cell" xt 505 237 ai 507 517 164 2,
 fx 38 "_law_word" xt 505 244 ai 520 528 176 1,
 fx 39 "_law_unlike" xt 505 251 ai 531 538 184 1,
 fx 40 "_law_pool" xt 505 258 ai 541 547 192 1,
 fx 41 "_law_task" xt 505 265 ai 550 566 198 4,
 fx 42 "_law_links" xt 505 270 am 569 572 217 3,
 fx 43 "_law_works" xt 505 275 am 575 578 242 3,
 fx 44 "_law_loads" xt 505 282 ai 581 589 259 2,
 fx 45 "_law_beat" xt 505 287 am 592 595 264 3,
 fx 46 "_law_drawn" xt 505 294 ai 598 606 271 3,
 fx 47 "_law_moved" xt 505 301 ai 609 616 274 2,
 fx 48 "_law_may" xt 505 308 ai 619 639 282 4,
 fx 49 "_law_some" xt 505 315 ai 642 650 303 4,
 fx 50 "_law_chained" xt 505 320 am 653 656 310 1,
 fx 51 "_law_groups" xt 505 325 am 659 662 332 1,
 fx 52 "_law_plan" xt 505 330 am 665 668 341 1,
 fx 53 "_law_number" xt 505 337 ai 671 678 356 2,
 fx 54 "_law_tasks" xt 505 342 am 681 684 362 2,
 fx 55 "_law_fits" xt 505 349 ai 687 702 364 5,
 fx 56 "_law_greatest" xt 505 354 am 705 708 374 4,
 fx 57 "_law_load" xt 505 359 am 711 714 383 2,
 fx 58 "_law_reason" xt 505 364 am 717 720 385 6,
 fx 59 "_law_shown" xt 505 369 am 723 726 394 4,
 fx 60 "_law_made" xt 505 376 ai 729 745 401 5,
 fx 61 "law" xt 505 383 ai 748 763 416 1]
def Pl (C N t u:Nat):dQ:=⟨.type "type",ag,.cls { name:="Walk",bases:=[.type "object"],mro:=[.ref C,.type "object"],ns:=N,qualname:="Walk"},#[ag,ag,ab (.str "Walk" t),ab (.str "Walk" u),ab (.builtin "object.__new__"),ab (.bool ai)]⟩
def ON (P:nk) (a:List (ap × Nat × aw)) (k:Nat):dQ:=⟨.type "dict",ag,.dict (a.map λe=>en P e.1 e.2.1 e.2.2).toArray k,#[]⟩
def cQ (n q:ap) (c:Nat) (b:Bool) (a j l k:Nat):dQ:=⟨.type "code",ag,.fields #[.str n a,.str q (a+1),.str "/claim/cut.py" (a+2),.int l 0,.int k 0,.int 0 0,.int 0 0,.int 3 0,.ref (c - (bif b then 5 else 3)),.bool ai,.int 181 0,.ref (c - (bif b then 4 else 2)),.none,bif b then .ref (c - 3) else .none,bif b then .ref (c - 2) else .none,.ref (c - 1),.int j 0,.int l 0,.str "/claim/cut.py" (j+1)],#[]⟩
def fQ (st:ef) (n q m:ap) (t c:Nat):dQ:=⟨.type "function",ag,.func (mM n q (dh st) (cP st) (aC st) .none .none .none (.str m t) ag (.ref c) .none),#[]⟩
def KC (P:nk):a6:=[(146,cQ "__init__" "Walk.__init__" 146 ai 378 384 100 3),
 (147,fQ (As 25 0) "__init__" "Walk.__init__" C8 358 146),
 (151,cQ "fillings_at" "Walk.fillings_at" 151 am 387 390 106 3),
 (152,fQ (As 25 1) "fillings_at" "Walk.fillings_at" C8 358 151),
 (158,cQ "greatest_at" "Walk.greatest_at" 158 ai 393 399 113 3),
 (159,fQ (As 25 2) "greatest_at" "Walk.greatest_at" C8 358 158),
 (163,cQ "load_at" "Walk.load_at" 163 am 402 405 116 2),
 (164,fQ (As 25 3) "load_at" "Walk.load_at" C8 358 163),
 (173,ON P [("__module__",373,.str C8 358),("__firstlineno__",377,.int 98 376),("__init__",386,.ref 147),("fillings_at",392,.ref 152),("greatest_at",401,.ref 159),("load_at",407,.ref 164),("dealing_of",415,.ref 171),("__static_attributes__",420,.ref 172),("__dict__",422,.ref 175),("__weakref__",424,.ref 176),("__doc__",425,.none)] 4),
 (174,Pl 174 173 366 374)]
def KK (P:nk):a6:=(3,⟨.type "dict",ag,.dict ([en P "__name__" 165 (.str xt 505),
 en P "__doc__" 166 .none,
 en P "__package__" 167 .none,
 en P "__loader__" 168 (.builtin "__main__.__loader__#opaque"),
 en P "__spec__" 169 .none,
 en P "__annotations__" 170 (.ref 6),
 en P "__builtins__" 171 (.ref 4),
 en P "__file__" 173 (.str "/claim/cut.py" 172),
 en P "__cached__" 174 .none]++TB.map λr=>r.1 P).toArray 63,#[]⟩)::(TB.map λr=>r.2).flatten++KC P
def HK:PySem.W.Hook:=kHook KK [3,20,21,27,28,34,35,41,42,46,47,51,52,56,57,63,64,70,71,77,78,82,83,89,90,96,97,101,102,108,109,115,116,122,123,127,128,132,133,184,185,189,190,196,197,203,204,208,209,213,214,220,221,225,226,230,231,237,238,244,245,251,252,258,259,265,266,270,271,275,276,282,283,287,288,294,295,301,302,308,309,315,316,320,321,325,326,330,331,337,338,342,343,349,350,354,355,359,360,364,365,369,370,376,377,383,384,146,147,151,152,158,159,163,164,173,174] (λ_=>by kernel_rfl)
def zqR (tb:String->Option et) (p:br) (w:bb) (n:Nat) (a:Option aw):Nat->i7->Thread->Option i7
 |0,_,_=>ag
 |m+1,s,t=>match W.through t with
  |true=>ab s
  |false=>match W.stepOk n a t with
   |false=>ag
   |true=>match W.stepT (denote tb) p w s t with
    |some (s',t')=>zqR tb p w n a m s' t'
    |none=>ag
theorem zqT {tb:String->Option et}{p:br}{w:bb}{k:Nat}{a:Option aw}:∀{n:Nat}{s s':i7}{t:Thread},zqR tb p w k a n s t=ab s'->W.topRun tb p w k a n s.abs t=ab s'.abs
 |0,_,_,_,h=>by cases h
 |n+1,s,s',t,h=>by
  unfold zqR at h
  unfold W.topRun
  cases he:W.through t with
  |true=>rw[he] at h;cases h;rfl
  |false=>
   rw[he] at h
   cases hk:W.stepOk k a t with
   |false=>rw[hk] at h;cases h
   |true=>
    rw[hk] at h
    cases hs:W.stepT (denote tb) p w s t with
    |none=>rw[hs] at h;cases h
    |some r=>obtain⟨s₂,t₂⟩:=r;rw[hs] at h;rw[W.stepT_spec hs];exact zqT h
def zqb:List dQ->W.BT->Nat->Option W.BT
 |[],t,_=>ab t
 |o::l,t,n=>match ((t.ins n o).get n).isSome with
  |true=>zqb l (t.ins n o) (n+1)
  |false=>ag
theorem zqc {f:Life}:∀{l:List dQ}{t t':W.BT}{n:Nat},zqb l t n=ab t'->(lP t' (n+l.length) f).objs.toList=(lP t n f).objs.toList++l
 |[],_,_,_,h=>by cases h;simp
 |o::l,t,t',n,h=>by
  unfold zqb at h
  cases e:((t.ins n o).get n).isSome with
  |false=>rw[e] at h;cases h
  |true=>
   rw[e] at h
   have k:=zqc (f:=f) h
   rw[W.absHeap_ins e] at k
   rw[List.length_cons,show n+(l.length+1)=n+1+l.length by omega,k]
   simp [Heap.push]
theorem zqd {s:aI}{t:W.BT}(h:zqb s.heap.objs.toList .nil 0=ab t):(⟨t,s.heap.objs.size,s.heap.life,s.gens,s.drawn,s.toks,s.os⟩:i7).abs=s:=by
 obtain⟨⟨o,f⟩,g,d,k,z⟩:=s
 have e:=zqc (f:=f) h
 have q:(lP t o.size f).objs=o:=Array.toList_inj.mp (by rw[show o.size=0+o.toList.length by simp];exact e.trans (by simp [lP,W.BT.list]))
 show Shared.mk ⟨(lP t o.size f).objs,f⟩ g d k z=_
 rw[q]
def zqE (p:br) (w:bb) (N:Nat):Option i7:=(W.fencedOpening lp p w N).bind λs=>match s.heap.isNs bv&&s.gens.size==0 with
 |true=>(zqb s.heap.objs.toList .nil 0).bind λt=>(zqR lp p w s.heap.objs.size (s.heap.nsMap bv "__annotations__") N ⟨t,s.heap.objs.size,s.heap.life,s.gens,s.drawn,s.toks,s.os⟩ (W.topStub p)).bind λz=>match W.staticsOk (qr p.main.body) s.heap z.abs.heap&&W.namesBound p z.abs.heap&&W.gensDone z.abs&&W.laidKept s.heap z.abs.heap with
  |true=>ab z
  |false=>ag
 |false=>ag
theorem zqF {p:br}{w:bb}{N:Nat}{z:i7}(h:zqE p w N=ab z):se lp p w N=ab z.abs:=by
 obtain⟨s,a,h⟩:=Option.bind_eq_some_iff.mp h
 refine Option.bind_eq_some_iff.mpr ⟨s,a,?_⟩
 unfold W.topFrom
 split at h
 .rename_i q
  obtain⟨t,b,h⟩:=Option.bind_eq_some_iff.mp h
  obtain⟨x,c,h⟩:=Option.bind_eq_some_iff.mp h
  have c:=zqT c
  rw[zqd b] at c
  rw[q]
  refine Option.bind_eq_some_iff.mpr ⟨x.abs,c,?_⟩
  split at h
  .rename_i y
   cases h
   rw[y]
  .cases h
 .cases h
theorem zqL {p:br}{w:bb}{N:Nat}{α:Type}{f:aI->α}{a:α}(h:(zqE p w N).map (λz=>f z.abs)=ab a):(se lp p w N).map f=ab a:=by
 obtain⟨s,a,h⟩:=Option.map_eq_some_iff.mp h
 rw[zqF a]
 exact congrArg ab h
def zqO (w:bb):=se lp (PySem.W.OpenLaw.row PySem.Challenge.rw_stationrow_k53_own_papers).prog w 4206
abbrev zqX (s:aI):Bool:=W.xlAt qv [] s&&W.recOk (W.RowW.records (PySem.W.OpenLaw.row PySem.Challenge.rw_stationrow_k53_own_papers).toRowW) s
def zqS (s:aI):=W.openSeen qv [] (qr (PySem.W.OpenLaw.row PySem.Challenge.rw_stationrow_k53_own_papers).prog.main.body) (λs=>zqX s) ai s
theorem zqM {b h p j k l e:Type}{o:Option b}{f:b->h × p × j × k × l}{g:b->e}{x:h}{y:p}{z:j}{u:k}{v:l}{d:e}(i:o.map (λs=>(f s).1)=ab x) (m:o.map (λs=>(f s).2.1)=ab y) (n:o.map (λs=>(f s).2.2.1)=ab z) (q:o.map (λs=>(f s).2.2.2.1)=ab u) (r:o.map (λs=>(f s).2.2.2.2)=ab v) (c:o.map g=ab d):o.map (λs=>(f s,g s))=ab ((x,y,z,u,v),d):=by
 cases o with
 |none=>cases i
 |some s=>have t:=@Option.some.inj; exact congrArg ab (gX (gX (t i) (gX (t m) (gX (t n) (gX (t q) (t r))))) (t c))
theorem zq1 (w:bb):(zqO w).map (λs=>(zqS s).1)=ab (expectedOf qv):=zqL (by kernel_rfl)
theorem zq2 (w:bb):(zqO w).map (λs=>(zqS s).2.1)=ab bltViewBooted:=zqL (by kernel_rfl)
theorem zq4 (w:bb):(zqO w).map (λs=>(zqS s).2.2.1)=ab ai:=zqL (by kernel_rfl)
theorem zq5 (w:bb):(zqO w).map (λs=>(zqS s).2.2.2.1)=ab ai:=zqL (by kernel_rfl)
theorem zq6 (w:bb):(zqO w).map (λs=>(zqS s).2.2.2.2)=ab (pinGoodD (drecsOf qv),plainGoodE qv (W.looseW qv []),plainGoodD qv [],W.wideGood qv,W.clsGoodW qv []):=zqL (by kernel_rfl)
theorem zq3 (w:bb):(zqO w).map (W.Hook.obs HK)=ab (W.Hook.val HK w):=zqL (by kernel_rfl)
theorem left:W.LeftO (PySem.W.OpenLaw.row PySem.Challenge.rw_stationrow_k53_own_papers).prog qv [] (λs=>zqX s) (W.Hook.obs HK) (W.Hook.val HK) 4206:=λw=>zqM (o:=zqO w) (f:=zqS) (g:=W.Hook.obs HK) (zq1 w) (zq2 w) (zq4 w) (zq5 w) (zq6 w) (zq3 w)
def Xc:ef->mi->mi
 |.FunctionDef _ _ _ _ _ _ _ _ _ p,_=>p
 |_,p=>p
def dv:DefRec:=⟨"law",dh (vT 61),cP (vT 61),aC (vT 61),Xc (vT 61) default⟩
open PySem PySem.W PyProof.Rows in
set_option maxRecDepth 100000 in
set_option maxHeartbeats 0 in
theorem zqH (hc:PySem.W.WalkO qv [] (PySem.W.XL qv []) (PySem.W.Hook.says HK) (PySem.W.OpenLaw.row PySem.Challenge.rw_stationrow_k53_own_papers).toRowW dv [] (fun f vs=>PySem.call f vs)):PySem.Challenge.rw_stationrow_k53_own_papers.Holds:=by
 refine holds_law zh λsaid=>?_;refine holds_open (d:=dv) (kwd:=[]) (q:=qv) (loose:=[]) (Xt:=λs=>xlAt qv [] s&&recOk (RowW.records (PySem.W.OpenLaw.row PySem.Challenge.rw_stationrow_k53_own_papers).toRowW) s) (XP:=XL qv []) (Yf:=Hook.obs HK) (Ya:=Hook.val HK) (YP:=Hook.says HK) (N:=4206) left (Hook.of HK) (Hook.keeps HK) (λs e=>xl_of s (Bool.and_eq_true_iff.mp e).1) XL.keeps zh zh zh (λs e=>recFacts_of (Bool.and_eq_true_iff.mp e).2) zh (by first | assumption | kernel_rfl) zh ⟨rfl,rfl,rfl,rfl,rfl,xo⟩ ?hw hc
 case hw=>w_witness2
end M
namespace L2
abbrev xb:=Sum Int ap
def oU:xb->aw->Bool
 |.inl k,v=>Value.isInt k v
 |.inr x,v=>sM x v
def Nz (w:bb):xb->Int
 |.inl k=>hashInt k
 |.inr x=>hashStr w x
theorem cA:∀{k:xb}{v:aw},oU k v=ai->(∃i t,k=dS i/\v=de i t)\/(∃x t,k=cq x/\v=lS x t)
 |.inl i,v,h=>by
  obtain⟨t,e⟩:=Value.isInt_shape (k:=i) (v:=v) h
  exact .inl ⟨i,t,rfl,e⟩
 |.inr x,v,h=>by
  obtain⟨t,e⟩:=Value.isStrOf_shape (x:=x) (v:=v) h
  exact .inr ⟨x,t,rfl,e⟩
theorem oV (i:Int) (t:tT):oU (.inl i) (.int i t)=ai:=by simp [oU,Value.isInt]
theorem oW (x:ap) (t:tT):oU (.inr x) (.str x t)=ai:=by simp [oU,sM]
theorem NB (a b:Int):decide ((dS a:xb)=dS b)=(a==b):=by
 by_cases e:a=b
 .subst e;simp
 have h:¬(dS a:xb)=dS b:=λq=>e (Sum.inl.inj q);rw[m_ h];exact (Y6.mpr e).symm
theorem NP (a b:ap):decide ((cq a:xb)=cq b)=decide (a=b):=by
 by_cases e:a=b
 .subst e;simp
 have h:¬(cq a:xb)=cq b:=λq=>e (io q);rw[m_ h,m_ e]
theorem NQ (a:Int) (b:ap):decide ((dS a:xb)=cq b)=am:=m_ (λq=>nomatch q)
theorem NT (a:ap) (b:Int):decide ((cq a:xb)=dS b)=am:=m_ (λq=>nomatch q)
def bO (prog:br) (w:bb):PySem.KeyKind prog w xb where
 is:=oU
 hash:=Nz w
 inj:=λv a b g d=>by
  rcases cA g with ⟨i,t,rfl,rfl⟩ | ⟨x,t,rfl,rfl⟩
  ·
   rcases cA d with ⟨j,u,rfl,e⟩ | ⟨y,u,rfl,e⟩
   ·
    injection e with e1 _;rw[e1]
   ·
    exact nomatch e
  ·
   rcases cA d with ⟨j,u,rfl,e⟩ | ⟨y,u,rfl,e⟩
   ·
    exact nomatch e
   ·
    injection e with e1 _;rw[e1]
 byValue:=λk v h=>by
  rcases cA h with ⟨i,t,rfl,rfl⟩ | ⟨x,t,rfl,rfl⟩ <;> rfl
 pyHash:=λc h=>by
  rcases cA c with ⟨i,t,rfl,rfl⟩ | ⟨x,t,rfl,rfl⟩
  ·
   exact wpAny_pyHash_int h
  ·
   exact wpAny_pyHash_str h
 eqBool:=λf c h=>by
  rcases cA f with ⟨i,t,rfl,rfl⟩ | ⟨x,t,rfl,rfl⟩
  ·
   rcases cA c with ⟨j,u,rfl,rfl⟩ | ⟨y,u,rfl,rfl⟩
   ·
    rw[NB] at h;exact oC h
   ·
    rw[NQ] at h;exact ng i t y u _ _ _ _ h
  ·
   rcases cA c with ⟨j,u,rfl,rfl⟩ | ⟨y,u,rfl,rfl⟩
   ·
    rw[NT] at h;exact nb x t j u _ _ _ _ h
   ·
    rw[NP] at h;exact wpAny_eqBool_str h
 «strs»:=λk x t v h=>by
  rcases cA h with ⟨i,u,rfl,e⟩ | ⟨y,u,rfl,e⟩
  ·
   exact nomatch e
  ·
   injection e with e1 _
   subst e1
   cases v <;> rfl
theorem rE (prog:br) (w:bb) (i:Int) (t:tT):(bO prog w).is (.inl i) (.int i t)=ai:=oV i t
theorem rF (prog:br) (w:bb) (x:ap) (t:tT):(bO prog w).is (.inr x) (.str x t)=ai:=oW x t
inductive V where
 |non | bl (b:Bool) | int (i:Int) | str (x:ap) | byt (b:Array UInt8) | flt (b:UInt64) | ref (a:af) | ty (n:String)
 deriving DecidableEq
def wl:V->aw->Prop
 |.non,u=>u=bE
 |.bl b,u=>u=c8 b
 |.int i,u=>∃t,u=de i t
 |.str x,u=>∃t,u=lS x t
 |.byt b,u=>∃t,u=Value.bytes b t
 |.flt b,u=>∃t,u=qh b t
 |.ref a,u=>u=a4 a
 |.ty n,u=>u=ev n
abbrev wf:List V->List aw->Prop:=fm wl
theorem wf.length (r:wf xs us):xs.length=us.length:=EK r
theorem wf.get:∀{xs:List V}{us:List aw}{i:Nat}{x:V},wf xs us->xs[i]?=ab x->∃u,us[i]?=ab u/\wl x u
 |_,_,_,_,.nil,e=>by simp at e
 |_,_,0,_,.cons r _,e=>by simp at e;subst e;exact⟨_,rfl,r⟩
 |_,_,i+1,x,.cons _ t,e=>by
  obtain⟨u,b,a⟩:=wf.get (i:=i) (x:=x) t (by simpa using e)
  exact⟨u,by simpa using b,a⟩
theorem wf.set (r:wl x u):∀{xs:List V}{us:List aw}(i:Nat),wf xs us->wf (xs.set i x) (us.set i u)
 |_,_,_,.nil=>.nil
 |_,_,0,.cons _ t=>.cons r t
 |_,_,i+1,.cons q t=>.cons q (wf.set r i t)
theorem wf.append:∀{xs a:List V}{us ws:List aw},wf xs us->wf a ws->wf (xs++a) (us++ws)
 |_,_,_,_,.nil,s=>s
 |_,_,_,_,.cons r t,s=>.cons r (wf.append t s)
theorem wf.take:∀{xs:List V}{us:List aw}(n:Nat),wf xs us->wf (xs.take n) (us.take n)
 |_,_,0,_=>.nil
 |_,_,_+1,.nil=>.nil
 |_,_,n+1,.cons r t=>.cons r (wf.take n t)
theorem wf.drop:∀{xs:List V}{us:List aw}(n:Nat),wf xs us->wf (xs.drop n) (us.drop n)
 |_,_,0,r=>r
 |_,_,_+1,.nil=>.nil
 |_,_,n+1,.cons _ t=>wf.drop n t
def AV:Option V->Option aw->Prop
 |some v,ab u=>wl v u
 |none,ag=>True
 |_,_=>False
def KV {a:Type}:List (a × V)->List (a × aw)->Prop:=fm λ(p:a × V) (q:a × aw)=>p.1=q.1/\wl p.2 q.2
def kV:xb->V
 |.inl i=>.int i
 |.inr x=>.str x
inductive HO where
 |lst (xs:List V)
 |tup (xs:List V)
 |dK (kvs:List (xb × V)) | dT (kvs:List (List xb × V))
 |set (S:Int->Bool) (n:Nat)
 |ins (C dx:af) (fs:List (ap × V))
 |own (x:af)
 |xd (fs:List (ap × V))
 |met (f x:af)
 |rng (lo hi:Int)
 |frz (o:dQ) (u:HO)
 |tbl (ps:Array aw)
 |ext (φ:ci->Prop)
abbrev Hp:=af->Option HO
def wS (H:Hp) (a:af) (o:HO):Hp:=λb=>if b=a then ab o else H b
theorem cI:wS H a o a=ab o:=by unfold wS;rw[we rfl]
theorem bz (h:b≠a):wS H a o b=H b:=by unfold wS;rw[wc h]
theorem Tf {H:Hp} (h:H a=ab o) (h':H b=ab u) (d:o≠u):a≠b:=by
 intro e;subst e;rw[h] at h';exact d (P_ h')
theorem cM {H:Hp} (h:H a=ab o) (h':H b=ag):a≠b:=by
 intro e;subst e;rw[h] at h';cases h'
def DO (h:ci) (a:af) (b:Array aw):Prop:=∃o,h.get? a=ab o/\o.cls=.type "tuple"/\∃n,o.data=.seq b n/\o.dict=ag
theorem DO.is (x:DO h a b):qo h a b:=by
 obtain⟨o,d,e,n,c,_⟩:=x;exact⟨o,d,e,n,c⟩
theorem DO.new (h:ci) (a:Array aw):DO (h.push { cls:=.type "tuple",data:=.seq a}) h.objs.size a:=⟨_,E_ _ rfl,rfl,_,rfl,rfl⟩
section
variable (P:br)(w:bb)
def y4 (H:Hp) (h:ci) (a:af):HO->Prop
 |.lst xs=>xs.length<=av/\∃(b:List aw) (n:Nat),wf xs b/\h.get? a=ab { cls:=.type "list",data:=.seq b.toArray n}
 |.tup xs=>xs.length<=av/\∃b:List aw,wf xs b/\DO h a b.toArray
 |.dK kvs=>kvs.length<=av/\(a==dn)=am/\∃vs,KV kvs vs/\h.DictOf (bO P w) a vs
 |.dT kvs=>kvs.length<=av/\(a==dn)=am/\∃xs:List (List xb × af × aw),
   fm (λ(p:List xb × V) (q:List xb × af × aw)=>p.1=q.1/\H q.2.1=ab (.tup (p.1.map kV))/\wl p.2 q.2.2) kvs xs /\
   ∃o j ep,h.get? a=ab o/\o.ExactDict/\o.data=.dict j ep/\j.toList=xs.map (entryOfKey (lj (bO P w)))/\(xs.map (·.1)).Nodup
 |.set S n=>h.SetOf (intKind P w) a S n
 |.ins C e d=>H e=ab (.own a)/\d.length<=1000/\e≠a/\h.get? a=ab (im C e) /\
   ∃c,h.Ns1 e c/\(∀f,AV (d.lookup f) (c f))/\j2 c (d.map (·.1))
 |.own _=>∃o,h.get? a=ab o
 |.xd d=>∃c,h.Ns1 a c/\∀f,AV (d.lookup f) (c f)
 |.rng m l=>∃t u v,h.get? a=ab { cls:=.type "range",data:=.fields #[.int m t,.int l u,.int 1 v]}
 |.frz o u=>h.get? a=ab o/\y4 H h a u
 |.tbl ps=>h.get? a=ab { cls:=.none,data:=.fields ps}
 |.met f x=>h.get? a=ab (oP (.ref f) (.ref x))
 |.ext g=>g h/\(∃o,h.get? a=ab o)/\∀k i:ci,g k->(∀o,k.get? a=ab o->i.get? a=ab o)->g i
def yT (H:Hp) (h:ci):Prop:=∀a o,H a=ab o->y4 P w H h a o
end
section
variable {P:br}{w:bb}{a:af}
theorem y4.lt (x:y4 P w H h a o):a<h.objs.size:=by
 cases o with
 |lst xs=>obtain⟨_,_,_,_,e⟩:=x;exact F_ e
 |tup xs=>obtain⟨_,_,_,p⟩:=x;exact p.is.lt
 |dK kvs=>obtain⟨_,_,_,_,o,_,_,e,_⟩:=x;exact F_ e
 |dT kvs=>obtain⟨_,_,_,_,o,_,_,e,_⟩:=x;exact F_ e
 |set S n=>obtain⟨o,_,_,_,e,_⟩:=x;exact F_ e
 |ins C c b=>obtain⟨_,_,_,e,_⟩:=x;exact F_ e
 |own y=>obtain⟨_,e⟩:=x;exact F_ e
 |xd b=>obtain⟨_,⟨_,_,_,e,_⟩,_⟩:=x;exact F_ e
 |rng g d=>obtain⟨_,_,_,e⟩:=x;exact F_ e
 |frz j u=>obtain⟨e,_⟩:=x;exact F_ e
 |tbl ps=>exact F_ (show h.get? a=ab _ from x)
 |met f y=>exact F_ (show h.get? a=ab _ from x)
 |ext i=>obtain⟨_,⟨_,e⟩,_⟩:=x;exact F_ e
theorem Paired.mapP:∀{l₁:List c}{l₂:List d},fm F l₁ l₂->(∀a b,F a b->G a b)->fm G l₁ l₂
 |_,_,.nil,_=>.nil
 |_,_,.cons r t,f=>.cons (f _ _ r) (Paired.mapP t f)
theorem y4.stay (x:y4 P w H h a o) (k:∀b u,(b=a\/H b=ab (.own a))->h.get? b=ab u->h'.get? b=ab u)
  (E:∀b,H b=ab (.own a)->H' b=ab (.own a)) (s:∀b xs,H b=ab (.tup xs)->H' b=ab (.tup xs)):y4 P w H' h' a o:=by
 induction o with
 |lst xs=>obtain⟨z,j,n,r,e⟩:=x;exact⟨z,j,n,r,k _ _ (.inl rfl) e⟩
 |tup xs=>obtain⟨z,j,r,g,e,c⟩:=x;exact⟨z,j,r,g,k _ _ (.inl rfl) e,c⟩
 |dK kvs=>obtain⟨z,y,vs,r,g,i,ep,e,c⟩:=x;exact⟨z,y,vs,r,g,i,ep,k _ _ (.inl rfl) e,c⟩
 |dT kvs=>obtain⟨z,y,xs,r,g,i,ep,e,c⟩:=x;exact⟨z,y,xs,Paired.mapP r λp q z=>⟨z.1,s _ _ z.2.1,z.2.2⟩,g,i,ep,k _ _ (.inl rfl) e,c⟩
 |set S n=>obtain⟨g,i,ep,t,e,c⟩:=x;exact⟨g,i,ep,t,k _ _ (.inl rfl) e,c⟩
 |ins C G F=>obtain⟨d,z,A,e,m,⟨l,i,ep,B,c⟩,r⟩:=x;exact⟨E _ d,z,A,k _ _ (.inl rfl) e,m,⟨l,i,ep,k _ _ (.inr d) B,c⟩,r⟩
 |own y=>obtain⟨g,e⟩:=x;exact⟨g,k _ _ (.inl rfl) e⟩
 |xd F=>obtain⟨m,⟨l,i,ep,e,c⟩,r⟩:=x;exact⟨m,⟨l,i,ep,k _ _ (.inl rfl) e,c⟩,r⟩
 |rng J I=>obtain⟨t,u,v,e⟩:=x;exact⟨t,u,v,k _ _ (.inl rfl) e⟩
 |frz g u D=>obtain⟨e,q⟩:=x;exact⟨k _ _ (.inl rfl) e,D q⟩
 |tbl ps =>
  have e:h.get? a=ab { cls:=.none,data:=.fields ps}:=x
  show h'.get? a=ab { cls:=.none,data:=.fields ps}
  exact k a _ (.inl rfl) e
 |met f y =>
  have e:h.get? a=ab (oP (.ref f) (.ref y)):=x
  show h'.get? a=ab (oP (.ref f) (.ref y))
  exact k a _ (.inl rfl) e
 |ext K=>obtain⟨p,⟨o,e⟩,st⟩:=x;exact⟨st _ _ p λo q=>k _ _ (.inl rfl) q,⟨o,k _ _ (.inl rfl) e⟩,st⟩
theorem yT.lt (x:yT P w H h) (e:H a=ab o):a<h.objs.size:=(x a o e).lt
theorem yT.fresh (x:yT P w H h) (e:h.objs.size<=a):H a=ag:=by
 cases q:H a with
 |none=>rfl
 |some u=>exact wT (Yz (x.lt q) e) (YQ _)
theorem yT.kept (x:yT P w H h) (k:∀b u,h.get? b=ab u->h'.get? b=ab u):yT P w H h':=λa o e =>
 (x a o e).stay (λb u _ q=>k b u q) (λ_ q=>q) λ_ _ q=>q
theorem yT.laid (x:yT P w H h) (k:∀b u,h.get? b=ab u->h'.get? b=ab u) (i:h.objs.size<=a) (d:y4 P w (wS H a o) h' a o):yT P w (wS H a o) h':=λb u e=>by
 have f:=x.fresh i;by_cases g:b=a
 .subst g;rw[cI] at e;cases e;exact d
 rw[bz g] at e;exact (x b u e).stay (λc v _ q=>k c v q) (λc q=>by rw[bz (cM q f)];exact q) λc xs q=>by rw[bz (cM q f)];exact q
end
def Rd (H:Hp) (a:af) (u:HO):Prop:=H a=ab u\/∃o,H a=ab (.frz o u)
theorem Rd.ok (r:Rd H a u) (x:yT P w H h):y4 P w H h a u:=by
 rcases r with r | ⟨o,r⟩
 .exact x a u r
 obtain⟨_,q⟩:=x a _ r;exact q
def Fa:Option HO->Prop
 |some (.lst _)=>True
 |some (.dK _)=>True
 |some (.dT _)=>True
 |some (.set _ _)=>True
 |some (.ins _ _ _)=>True
 |some (.ext _)=>True
 |_=>False
section
variable {P:br}{w:bb}
theorem yT.write (p:yT P w H h) (mu:Fa (H x)) (m:e=x\/H e=ab (.own x)) (k:∀b u,b≠e->h.get? b=ab u->h'.get? b=ab u) (j:∃u,h'.get? e=ab u)
  (l:y4 P w (wS H x o') h' x o'):yT P w (wS H x o') h':=λb u q=>by
 have d:∀c y,H c=ab (.own y)->c≠x:=λc y r z=>by subst z;rw[r] at mu;exact mu
 have f:∀c xs,H c=ab (.tup xs)->c≠x:=λc xs r z=>by subst z;rw[r] at mu;exact mu
 by_cases i:b=x
 .subst i;rw[cI] at q;cases q;exact l
 rw[bz i] at q;by_cases a:b=e
 .have n:H b=ab (.own x):=by
   rcases m with z | z
   .exact wT (a.trans z) i
   rw[a];exact z
  rw[q] at n;cases n;obtain⟨v,o⟩:=j;exact⟨v,by rw[a];exact o⟩
 refine (p b u q).stay (λc v g r=>k c v ?_ r) (λc r=>by rw[bz (d c b r)];exact r) λc xs r=>by rw[bz (f c xs r)];exact r
 rcases g with rfl | g
 .exact a
 rintro rfl;rcases m with z | z
 .exact d c b g z
 rw[g] at z;cases z;exact i rfl
end
structure Un (fs ex:List af) (H H':Hp) (h h':ci):Prop where
 keep:∀b o,h.get? b=ab o->H b=ag->b∉fs->b∉ex->h'.get? b=ab o
 slot:∀b o,h.get? b=ab o->H b=ag->b∈fs->b∉ex->∃sl,h'.get? b=ab { o with slots:=sl}
 free:∀b o,h.get? b=ab o->H b=ag->b∉ex->H' b=ag
 there:∀b o,h.get? b=ab o->b∉ex->∃o',h'.get? b=ab o'
 tups:∀b xs,H b=ab (.tup xs)->H' b=ab (.tup xs)
 frzs:∀b o u,H b=ab (.frz o u)->H' b=ab (.frz o u)
 tbls:∀b ps,H b=ab (.tbl ps)->∃more,H' b=ab (.tbl (ps++more))
section
variable {h h1 h2 h':ci}{a x e:af}
theorem Un.any (u:Un fs ex H H1 h h1) (q:h.get? b=ab ob) (n:H b=ag) (c:b∉ex):∃d,h1.get? b=ab { ob with slots:=d}:=by
 by_cases a:b∈fs
 .exact u.slot b ob q n a c
 exact⟨ob.slots,u.keep b ob q n a c⟩
theorem Un.kept (k:∀b u,h.get? b=ab u->h'.get? b=ab u):Un fs ex H H h h' :=
 ⟨λb a q _ _ _=>k b a q,λb a q _ _ _=>⟨a.slots,k b a q⟩,λ_ _ _ n _=>n,λb a q _=>⟨a,k b a q⟩,λ_ _ q=>q,λ_ _ _ q=>q,λ_ ps q=>⟨#[],by rw[q];simp⟩⟩
theorem Un.refl:Un fs ex H H h h:=Un.kept λ_ _ q=>q
theorem Un.laid (k:∀b u,h.get? b=ab u->h'.get? b=ab u) (d:h.objs.size<=a) (c:H a=ag):Un fs ex H (wS H a o) h h' where
 keep:=λb u q _ _ _=>k b u q
 slot:=λb u q _ _ _=>⟨u.slots,k b u q⟩
 free:=λb u q n _=>by rw[bz (L_ (Yz (F_ q) d))];exact n
 there:=λb u q _=>⟨u,k b u q⟩
 tups:=λb xs q=>by rw[bz (cM q c)];exact q
 frzs:=λb u xs q=>by rw[bz (cM q c)];exact q
 tbls:=λb ps q=>⟨#[],by rw[bz (cM q c),q];simp⟩
theorem Un.write (mu:Fa (H x)) (i:e=x\/H e=ab (.own x)) (k:∀b u,b≠e->h.get? b=ab u->h'.get? b=ab u) (d:∃u,h'.get? e=ab u):Un fs ex H (wS H x o) h h':=by
 have f:∀b,H b=ag->b≠x:=λb n z=>by subst z;rw[n] at mu;exact mu
 have g:∀b,H b=ag->b≠e:=λb n z=>by
  subst z;rcases i with r | r
  .exact f b n r
  rw[n] at r;cases r
 have c:∀b u,H b=ab u->¬Fa (ab u)->b≠x:=λb u q nm z=>by subst z;rw[q] at mu;exact nm mu
 refine⟨λb u q n _ _=>k b u (g b n) q,λb u q n _ _=>⟨u.slots,k b u (g b n) q⟩,λb u q n _=>by rw[bz (f b n)];exact n,λb u q _=>?_,
  λb xs q=>by rw[bz (c b _ q λz=>z)];exact q,λb u xs q=>by rw[bz (c b _ q λz=>z)];exact q,λb ps q=>⟨#[],by rw[bz (c b _ q λz=>z),q];simp⟩⟩
 by_cases a:b=e
 .subst a;exact d
 exact⟨u,k b u a q⟩
end
def LF (h:ci) (H:Hp):List af:=(ax h.objs.size).filter λa=>(H a).isSome
def pZ (h:ci) (H:Hp):ci:=PySem.W.hideAll h (LF h H)
theorem zG (h:ci) (H:Hp):(pZ h H).objs.size=h.objs.size:=PySem.W.hideAll_size _ _
theorem Bj (e:h.get? b=ab o) (n:H b=ag):(pZ h H).get? b=ab o :=
 PySem.W.hideAll_get _ e λa=>by
  have q:(H b).isSome=ai:=(p_.mp a).2;rw[n] at q;simp at q
theorem Ho (e:(pZ h H).get? b=ab o):h.get? b=ab o/\H b=ag:=by
 have a:h.get? b=ab o:=PySem.W.of_hideAll (LF h H) e;refine⟨a,?_⟩;cases q:H b with
 |none=>rfl
 |some x =>
  have c:b∈LF h H:=p_.mpr ⟨T_.mpr (F_ a),by simp [q]⟩
  have z:(pZ h H).get? b=ag:=PySem.W.hideAll_none (LF h H) c
  rw[z] at e;cases e
def Hq (g h : ci) (L : af) : List (af × dQ):=(ax h.objs.size).filterMap λa => if a = L \/ (g.get? a).isSome = ai then ag else (h.get? a).map λo => (a,o)
def wq (g h:ci) (L d:af):List (af × dQ):=(Hq g h L).filter λp=>decide (p.1≠d)
structure Mod (K:a6) (mg:ap->Option aw) (base:ci):Prop where
 kin:K.In base
 glob:base.Ns bv mg
 blt:∃mb,base.Ns mS mb/\∀x:ap,x≠"__name__"->mb x=a8 x
 nolimit:base.NoLimit
structure Cx where
 prog:br
 w:bb
 K:a6
 mg:ap->Option aw
 base:ci
 A:dA
 N:List ap
 s₀:aI
 H₀:Hp
 env:tJ
 outer:List tJ
 stack:List tJ
 ex:List af
 fn:ap->Bool
 calm:Bool
 pn:List (af × dQ)
 xe:aw->aI->Prop
def DB (l : List tJ) : List af:=l.filterMap (·.frame)
abbrev Cx.fs (X:Cx):List af:=DB X.outer
def Jn (a:Scope) (x:ap):Prop:=a.names.lookup x=ab .local\/a.names.lookup x=ab .cell\/a.names.lookup x=ab .free
def E1 (a:Scope) (x:ap):Prop:=a.names.lookup x=ab .local\/a.names.lookup x=ab .cell
def MM (env:tJ) (h:ci) (m:ap->Option aw) (x:ap) (u:aw):Prop :=
 (env.kindOf x=ab .local/\m x=ab u)\/((env.kindOf x=ab .cell\/env.kindOf x=ab .free)/\∃c,env.cells.lookup x=ab c/\h.IsCell c (ab u))
structure Cx.Ok (X:Cx):Prop where
 mod:Mod X.K X.mg X.base
 kind:X.env.scope.kind=.function
 glob:X.env.globals=bv
 blt:X.env.builtins=mS
 above:X.s₀.heap.objs.size<=X.env.locals
 inj:∀x y c,X.env.cells.lookup x=ab c->X.env.cells.lookup y=ab c->x=y
 has:∀x,(X.env.kindOf x=ab .cell\/X.env.kindOf x=ab .free)->∃c,X.env.cells.lookup x=ab c
 cab:∀x c,X.fn x=ai->X.env.cells.lookup x=ab c->X.s₀.heap.objs.size<=c
 hd:X.calm=ai->X.A.handled=ag
 frames:X.A.frames=ab X.stack
 stk:X.stack=X.outer\/(X.stack=X.env::X.outer/\X.env.frame=ab X.env.locals)
 exf:∀b∈X.ex,b≠X.env.locals/\∀x c,X.env.cells.lookup x=ab c->c≠b
 bs:∀b o,X.base.get? b=ab o->X.s₀.heap.get? b=ab o/\X.H₀ b=ag
 bsz:X.base.objs.size<=X.s₀.heap.objs.size
 noex:∀b o,X.base.get? b=ab o->b∉X.ex
 exfs:∀b∈X.ex,b∉X.fs
 funs:X.s₀.heap.FunFrames X.base X.outer
 frf:∀b∈X.fs,X.H₀ b=ag
structure Inv (X:Cx) (pins:List (af × dQ)) (Z:List (Option V)) (H:Hp) (s:aI):Prop where
 ok:X.Ok
 os:s.os=X.s₀.os
 bare:iL s.gens
 base:Un X.fs X.ex X.H₀ H X.s₀.heap s.heap
 loc:∃m,s.heap.Ns X.env.locals m/\∀(i:Nat) (x:ap) (v:V),X.N[i]?=ab x->Z[i]?=ab (ab v)->Jn X.env.scope x->∃u,wl v u/\MM X.env s.heap m x u
 cell:∀x c,X.env.cells.lookup x=ab c->∃v,s.heap.IsCell c v
 free:H X.env.locals=ag
 freeC:∀x c,X.env.cells.lookup x=ab c->H c=ag
 pin:∀p∈X.pn++pins,s.heap.get? p.1=ab p.2/\H p.1=ag/\p.1≠X.env.locals/\p.1∉X.fs/\∀v,p.2.data≠.cell v
 hok:yT X.prog X.w H s.heap
 len:Z.length=X.N.length
section
variable {X:Cx}{P8:List (af × dQ)}{Z:List (Option V)}{H H':Hp}{s:aI}
theorem Cx.Ok.nofr (a:X.Ok) (e:X.base.get? b=ab o):b∉X.fs:=λc=>by
 have:=(a.funs.mem c).1;rw[e] at this;cases this
theorem Inv.bs (I:Inv X P8 Z H s):∀b o,X.base.get? b=ab o->s.heap.get? b=ab o/\H b=ag:=λb o e =>
 ⟨I.base.keep b o (I.ok.bs b o e).1 (I.ok.bs b o e).2 (I.ok.nofr e) (I.ok.noex b o e),I.base.free b o (I.ok.bs b o e).1 (I.ok.bs b o e).2 (I.ok.noex b o e)⟩
theorem Inv.bk (I:Inv X P8 Z H s):∀b o,X.base.get? b=ab o->s.heap.get? b=ab o:=λb o e=>(I.bs b o e).1
theorem Inv.mod (I:Inv X P8 Z H s):Mod X.K X.mg X.base:=I.ok.mod
theorem Inv.kIn (I:Inv X P8 Z H s):X.K.In s.heap:=I.ok.mod.kin.keeps I.bk
theorem Inv.lt (I:Inv X P8 Z H s):X.env.locals<s.heap.objs.size:=let ⟨_,hn,_⟩:=I.loc;hn.lt
theorem Inv.sz (I:Inv X P8 Z H s):X.s₀.heap.objs.size<=s.heap.objs.size:=R_ I.ok.above (ZC I.lt)
theorem Inv.nofs (I:Inv X P8 Z H s) {a:af}(h:s.heap.objs.size<=a):a∉X.fs:=λb=>by
 obtain⟨_,o,c,_⟩:=I.ok.funs.mem b;exact wT (Yz (F_ c) (R_ I.sz h)) (YQ _)
theorem Inv.cne (I:Inv X P8 Z H s):∀x c,X.env.cells.lookup x=ab c->c≠X.env.locals:=λx c e z=>by
 obtain⟨v,o,d,f⟩:=I.cell x c e;obtain⟨m,⟨g,h,ep,b,a,_⟩,_⟩:=I.loc;rw[z,b] at d;cases d;rw[a] at f;cases f
theorem Inv.funs (I:Inv X P8 Z H s):s.heap.FunFrames X.base X.outer:=by
 have c:∀(l:List tJ),(∀b∈DB l,b∈X.fs)->X.s₀.heap.FunFrames X.base l->s.heap.FunFrames X.base l:=by
  intro l;induction l with
  |nil=>intro _ _;trivial
  |cons env r h =>
  intro g j;obtain ⟨n,⟨L,o,d,i,k,p⟩,m⟩:=j;have a : L ∈ X.fs:=g L (by unfold DB; rw [f6,d]; exact A_);obtain ⟨q,e⟩:=I.base.slot L o k (I.ok.frf L a) a λz => I.ok.exfs L z a;exact ⟨n,⟨L,_,d,i,e,p⟩,h (λb f => g b (by unfold DB; rw [f6,d]; exact z_ _ f)) m⟩
 exact c X.outer (λ_ f=>f) I.ok.funs
theorem Inv.stack (I:Inv X P8 Z H s):s.heap.FunFrames X.base X.stack:=by
 rcases I.ok.stk with e | ⟨e,a⟩
 .rw[e];exact I.funs
 rw[e];obtain⟨m,b,_⟩:=I.loc;refine .cons (by rw[I.ok.kind];decide) a b ?_ I.funs;exact Heap.get?_none_of_le (R_ I.ok.bsz I.ok.above)
theorem Inv.stkSub (I:Inv X P8 Z H s):∀b∈DB X.stack,b∈X.env.locals::X.fs:=λb a=>by
 rcases I.ok.stk with e | ⟨e,c⟩
 .rw[e] at a;exact z_ _ a
 rw [e] at a;unfold DB at a;rw [f6,c] at a;exact a
theorem Inv.stkFree (I:Inv X P8 Z H s):∀b∈DB X.stack,H b=ag:=λb a=>by
 rcases y_.mp (I.stkSub b a) with e | a
 .rw[e];exact I.free
 obtain⟨_,o,c,_⟩:=I.ok.funs.mem a;exact I.base.free b o c (I.ok.frf b a) λz=>I.ok.exfs b z a
theorem Inv.step {t':Nat}{d':Drawn}{ch:List af} (I:Inv X P8 Z H s) (g:∀b∈ch,(b∈X.ex\/X.s₀.heap.objs.size<=b)/\b≠X.env.locals/\(∀x c,X.env.cells.lookup x=ab c->c≠b)/\∀p∈X.pn++P8,p.1≠b) (t:∀b o,b≠X.env.locals->b∉X.fs->b∉ch->s.heap.get? b=ab o->H b=ag->h'.get? b=ab o) (B:∀b o,b≠X.env.locals->b∈X.fs->b∉ch->s.heap.get? b=ab o->H b=ag->∃P,h'.get? b=ab { o with slots:=P}) (f:∀b o,b∉ch->s.heap.get? b=ab o->H b=ag->H' b=ag) (D:∀b o,b∉ch->s.heap.get? b=ab o->∃K,h'.get? b=ab K) (F:∀b xs,H b=ab (.tup xs)->H' b=ab (.tup xs)) (L:∀b o u,H b=ab (.frz o u)->H' b=ab (.frz o u)) (M:∀b ps,H b=ab (.tbl ps)->∃more,H' b=ab (.tbl (ps++more))) (ns:∀m,s.heap.Ns X.env.locals m->h'.Ns X.env.locals m) (O:yT X.prog X.w H' h') (hg:iL g'):
  Inv X P8 Z H' { s with heap:=h',gens:=g',drawn:=d',toks:=t'}:=by
 have G:∀b o,X.s₀.heap.get? b=ab o->b≠X.env.locals:=λb o e=>L_ (Yz (F_ e) I.ok.above);have A:∀b o,X.s₀.heap.get? b=ab o->b∉X.ex->b∉ch:=λb o e a C=>by
  rcases (g b C).1 with z | z
  .exact a z
  exact wT (Yz (F_ e) z) (YQ _)
 have j:∀x c,X.env.cells.lookup x=ab c->∀v,s.heap.IsCell c v->h'.IsCell c v:=λx c e v ⟨o,E,Q⟩=>by
  have h:c∉ch:=λz=>(g c z).2.2.1 x c e rfl;by_cases R:c∈X.fs
  .obtain⟨P,q⟩:=B c o (I.cne x c e) R h E (I.freeC x c e);exact⟨_,q,Q⟩
  exact⟨o,t c o (I.cne x c e) R h E (I.freeC x c e),Q⟩
 refine⟨I.ok,I.os,hg,⟨λb o e n C a=>?_,λb o e n C a=>?_,λb o e n a=>?_,λb o e a=>?_,λb xs e=>F b xs (I.base.tups b xs e),λb o xs e=>L b o xs (I.base.frzs b o xs e),λb ps e=>?_⟩,?_,λx c e=>?_,?_,λx c e=>?_,λp S=>?_,O,I.len⟩
 .exact t b o (G b o e) C (A b o e a) (I.base.keep b o e n C a) (I.base.free b o e n a)
 .obtain⟨P,y⟩:=I.base.slot b o e n C a;obtain⟨N,J⟩:=B b _ (G b o e) C (A b o e a) y (I.base.free b o e n a);exact⟨N,J⟩
 .obtain⟨K,y⟩:=I.base.there b o e a;exact f b K (A b o e a) y (I.base.free b o e n a)
 .obtain⟨K,y⟩:=I.base.there b o e a;exact D b K (A b o e a) y
 .obtain⟨Y,y⟩:=I.base.tbls b ps e;obtain⟨m2,J⟩:=M b _ y;exact⟨Y++m2,by rw[J,Array.append_assoc]⟩
 .obtain⟨m,V,W⟩:=I.loc;refine⟨m,ns m V,λi x v y J e3=>?_⟩;obtain⟨u,r,l⟩:=W i x v y J e3;refine⟨u,r,?_⟩;rcases l with l | ⟨k,c,e,z⟩
  .exact .inl l
  exact .inr ⟨k,c,e,j x c e _ z⟩
 .obtain⟨v,z⟩:=I.cell x c e;exact⟨v,j x c e v z⟩
 .obtain⟨m,⟨o,_,_,E,_⟩,_⟩:=I.loc;exact f _ o (λz=>(g _ z).2.1 rfl) E I.free
 .obtain⟨v,o,E,Q⟩:=I.cell x c e;exact f c o (λz=>(g c z).2.2.1 x c e rfl) E (I.freeC x c e)
 obtain⟨e,n,T,U,d⟩:=I.pin p S;have h:p.1∉ch:=λz=>(g p.1 z).2.2.2 p S rfl;exact⟨t p.1 p.2 T U h e n,f p.1 p.2 h e n,T,U,d⟩
theorem Inv.un (I:Inv X P8 Z H s) (u:Un X.fs [] H H' s.heap h') (g:yT X.prog X.w H' h'):Inv X P8 Z H' { s with heap:=h',toks:=t'}:=by
 obtain⟨m,⟨o,t,ep,h,r⟩,_⟩:=id I.loc;obtain⟨q,i⟩:=u.any h I.free wn;exact I.step (g':=s.gens) (d':=s.drawn) (ch:=[]) (λ_ z=>nomatch z) (λb o _ f _ e n=>u.keep b o e n f wn) (λb o _ f _ e n=>u.slot b o e n f wn) (λb o _ e n=>u.free b o e n wn) (λb o _ e=>u.there b o e wn) u.tups u.frzs u.tbls (λl j=>by
  obtain⟨p,d,c,a,k⟩:=j
  rw[h] at a;cases a
  exact⟨_,d,c,i,k⟩) g I.bare
theorem Inv.call (I:Inv X P8 Z H s) (u:Un (DB X.stack) ch H H' s.heap h') (j:yT X.prog X.w H' h') (t:iL g') (d:∀b∈ch,(b∈X.ex\/X.s₀.heap.objs.size<=b)/\b≠X.env.locals/\(∀x c,X.env.cells.lookup x=ab c->c≠b)/\∀p∈X.pn++P8,p.1≠b):
  Inv X P8 Z H' { s with heap:=h',gens:=g',drawn:=d',toks:=t'}:=by
 obtain⟨m,⟨o,C,ep,k,r⟩,_⟩:=id I.loc;obtain⟨B,h⟩:=u.any k I.free λz=>(d _ z).2.1 rfl;exact I.step (ch:=ch) d (λb o h v a e n=>u.keep b o e n (λz=>(y_.mp (I.stkSub b z)).elim h v) a) (λb o _ _ a e n=>u.any e n a) (λb o a e n=>u.free b o e n a) (λb o a e=>u.there b o e a) u.tups u.frzs u.tbls (λy l=>by
  obtain⟨A,i,g,f,q⟩:=l
  rw[k] at f;cases f
  exact⟨_,i,g,h,q⟩) j t
theorem Inv.turned (I:Inv X P8 Z H s) (k:∀b o,b≠it->s.heap.get? b=ab o->h'.get? b=ab o) (i:H it=ag) (f:it≠X.env.locals) (y:it∈X.ex\/X.s₀.heap.objs.size<=it) (t:∀x c,X.env.cells.lookup x=ab c->c≠it) (h:∀p∈X.pn++P8,p.1≠it):Inv X P8 Z H { s with heap:=h',toks:=t'}:=by
 have d:∀b u,H b=ab u->b≠it:=λb u e z=>by rw[z,i] at e;cases e
 refine I.step (g':=s.gens) (d':=s.drawn) (ch:=[it]) (λb l=>?_) (λb o _ _ a e _=>k b o (λz=>a (by simp [z])) e) (λb o _ _ a e _=>⟨o.slots,k b o (λz=>a (by simp [z])) e⟩) (λ_ _ _ _ n=>n)
  (λb o a e=>⟨o,k b o (λz=>a (by simp [z])) e⟩) (λ_ _ e=>e) (λ_ _ _ e=>e) (λb ps e=>⟨#[],by rw[e];simp⟩) (λm g=>?_) (λb u e=>?_) I.bare
 .have e:b=it:=by simpa using l
  subst e;exact⟨y,f,t,h⟩
 .obtain⟨o,w,ep,j,r⟩:=g;exact⟨o,w,ep,k _ o (a7 f) j,r⟩
 refine (I.hok b u e).stay (λc v a q=>k c v ?_ q) (λ_ q=>q) λ_ _ q=>q;rcases a with z | z
 .rw[z];exact d b u e
 exact d c _ z
theorem Inv.tok (I:Inv X P8 Z H s) (t:Nat):Inv X P8 Z H { s with toks:=t}:=I.un (h':=s.heap) (t':=t) Un.refl I.hok
theorem Inv.kept (I:Inv X P8 Z H s) (k:∀b u,s.heap.get? b=ab u->h'.get? b=ab u):Inv X P8 Z H { s with heap:=h',toks:=t'}:=I.un (Un.kept k) (I.hok.kept k)
theorem Inv.laid {a:af} (I:Inv X P8 Z H s) (k:∀b u,s.heap.get? b=ab u->h'.get? b=ab u) (c:s.heap.objs.size<=a) (d:y4 X.prog X.w (wS H a o) h' a o):
  Inv X P8 Z (wS H a o) { s with heap:=h',toks:=t'}:=I.un (Un.laid k c (I.hok.fresh c)) (I.hok.laid k c d)
theorem Inv.write (I:Inv X P8 Z H s) (mu:Fa (H x)) (d:e=x\/H e=ab (.own x)) (k:∀b u,b≠e->s.heap.get? b=ab u->h'.get? b=ab u) (a:∃u,h'.get? e=ab u) (c:y4 X.prog X.w (wS H x o) h' x o):Inv X P8 Z (wS H x o) { s with heap:=h',toks:=t'}:=I.un (Un.write mu d k a) (I.hok.write mu d k a c)
theorem Inv.pins_of (I:Inv X P8 Z H s) (h:∀p∈pins',s.heap.get? p.1=ab p.2/\H p.1=ag/\p.1≠X.env.locals/\p.1∉X.fs/\∀v,p.2.data≠.cell v):Inv X pins' Z H s :=
 ⟨I.ok,I.os,I.bare,I.base,I.loc,I.cell,I.free,I.freeC,λp a=>(q_.mp a).elim (λz=>I.pin p (YC _ z)) (h p),I.hok,I.len⟩
theorem rG {N:List ap} (e:N.Nodup) {i j:Nat} (a:N[i]?=ab x) (b:N[j]?=ab x):i=j:=by
 obtain⟨g,d⟩:=ZJ.mp a;obtain⟨f,c⟩:=ZJ.mp b;exact (List.getElem_inj e).mp (d.trans c.symm)
theorem oX (I:Inv X P8 Z H s) (hN:X.N.Nodup) (R:X.N[i]?=ab x) (B:E1 X.env.scope x) (r:wl v u) (h:∀s',Inv X P8 (Z.set i (ab v)) H s'->(∃a,cE a s.heap s'.heap/\(a=X.env.locals\/X.env.cells.lookup x=ab a))->Q () s') (hf:X.fn x=ai\/X.env.scope.names.lookup x=ab .local:=by first | exact .inl rfl | exact .inr rfl | assumption):ay M A (storeName X.env x u) Q E s:=by
 obtain⟨m,hn,hl⟩:=id I.loc;have O:(X.env.scope.kind==.class||(X.env.scope.kind==.module&&X.env.locals != X.env.globals))=am:=by rw[I.ok.kind];rfl
 have U:i<Z.length:=by rw[I.len];exact (ZJ.mp R).1
 have J:=I.cne;have g:∀{a:af} {h':ci},(∃o,s.heap.get? a=ab o/\H a=ag)->cE a s.heap h'->yT X.prog X.w H h':=λ{a h'} ha f b ob e=>by
  obtain⟨_,_,C⟩:=ha;refine (I.hok b ob e).stay (λc Y t q=>(f.2 c ?_).trans q) (λ_ q=>q) λ_ _ q=>q;rintro rfl;rcases t with rfl | t
  .rw[C] at e;cases e
  rw[C] at t;cases t
 rcases B with F | F
 .refine wpAny_storeName_local F hn (λh' hn' f=>?_) O;obtain⟨oL,_,_,hoL,_⟩:=id hn;refine h _ ⟨I.ok,I.os,I.bare,⟨λb o e n G B=>?_,λb o e n G B=>?_,I.base.free,λb o e B=>?_,I.base.tups,I.base.frzs,I.base.tbls⟩,⟨_,hn',λj y v' l D e3=>?_⟩,λy c e=>?_,I.free,I.freeC,λp hp=>?_,g ⟨oL,hoL,I.free⟩ f,by simpa using I.len⟩ ⟨_,f,.inl rfl⟩
  .exact (f.2 b (L_ (Yz (F_ e) I.ok.above))).trans (I.base.keep b o e n G B)
  .obtain⟨sl,l⟩:=I.base.slot b o e n G B;exact⟨sl,(f.2 b (L_ (Yz (F_ e) I.ok.above))).trans l⟩
  .obtain⟨o',l⟩:=I.base.there b o e B;exact⟨o',(f.2 b (L_ (Yz (F_ e) I.ok.above))).trans l⟩
  .by_cases K:j=i
   .subst K;rw[R] at l;cases l;rw[KW U] at D;cases D;exact⟨u,r,.inl ⟨F,wn⟩⟩
   rw[KL (a7 K)] at D;obtain⟨u',r',q⟩:=hl j y v' l D e3;refine⟨u',r',?_⟩;rcases q with ⟨k,e⟩ | ⟨k,c,e,z⟩
   .refine .inl ⟨k,?_⟩;have:y≠x:=λe=>K (rG hN l (e▸R));simp [this,e]
   exact .inr ⟨k,c,e,z.sameBut f (J y c e)⟩
  .obtain⟨Y,z⟩:=I.cell y c e;exact⟨Y,z.sameBut f (J y c e)⟩
  obtain⟨e,n,ne,nf,d⟩:=I.pin p hp;exact⟨(f.2 p.1 ne).trans e,n,ne,nf,d⟩
 have L:X.fn x=ai:=by
  rcases hf with z | z
  .exact z
  rw[z] at F;cases F
 obtain⟨c,t⟩:=I.ok.has x (.inl F);obtain⟨Y,z⟩:=I.cell x c t;refine wpAny_storeName_cell I.ok.kind F t z (λh' W f=>?_);obtain⟨oc,T,S⟩:=id z;refine h { s with heap:=h'} ⟨I.ok,I.os,I.bare,⟨λb o e n G B=>?_,λb o e n G B=>?_,I.base.free,λb o e B=>?_,I.base.tups,I.base.frzs,I.base.tbls⟩,⟨m,hn.sameBut f (a7 (J x c t)),λj y v' l D e3=>?_⟩,λy c' e=>?_,I.free,I.freeC,λp hp=>?_,g ⟨oc,T,I.freeC x c t⟩ f,by simpa using I.len⟩ ⟨c,f,.inr t⟩
 .exact (f.2 b (L_ (Yz (F_ e) (I.ok.cab x c L t)))).trans (I.base.keep b o e n G B)
 .obtain⟨sl,l⟩:=I.base.slot b o e n G B;exact⟨sl,(f.2 b (L_ (Yz (F_ e) (I.ok.cab x c L t)))).trans l⟩
 .obtain⟨o',l⟩:=I.base.there b o e B;exact⟨o',(f.2 b (L_ (Yz (F_ e) (I.ok.cab x c L t)))).trans l⟩
 .by_cases K:j=i
  .subst K;rw[R] at l;cases l;rw[KW U] at D;cases D;exact⟨u,r,.inr ⟨.inl F,c,t,W⟩⟩
  rw[KL (a7 K)] at D;obtain⟨u',r',q⟩:=hl j y v' l D e3;refine⟨u',r',?_⟩;rcases q with q | ⟨k,c',e,z'⟩
  .exact .inl q
  refine .inr ⟨k,c',e,z'.sameBut f ?_⟩;rintro rfl;exact K (rG hN l (I.ok.inj _ _ _ e t▸R))
 .by_cases P:c'=c
  .subst P;exact⟨_,W⟩
  obtain⟨w2,z2⟩:=I.cell y c' e;exact⟨w2,z2.sameBut f P⟩
 obtain⟨e,n,ne,nf,d⟩:=I.pin p hp;refine⟨(f.2 p.1 ?_).trans e,n,ne,nf,d⟩;intro q;rw[q,T] at e;have q':oc=p.2:=P_ e;exact d Y (by rw[<- q'];exact S)
theorem rH (I:Inv X P8 Z H s) (e:X.N.Nodup) (b:X.N[i]?=ab x) (c:E1 X.env.scope x) (r:wl v u) (h:∀s',Inv X P8 (Z.set i (ab v)) H s'->Q () s') (a:X.fn x=ai\/X.env.scope.names.lookup x=ab .local:=by first | exact .inl rfl | exact .inr rfl | assumption):ay M A (storeName X.env x u) Q E s :=
 oX I e b c r (λs' d _=>h s' d) a
theorem Inv.call' (I:Inv X P8 Z H s) (g:s'.os=s.os) (u:Un (DB X.stack) ch H H' s.heap s'.heap) (d:yT X.prog X.w H' s'.heap) (h:iL s'.gens) (a:∀b∈ch,(b∈X.ex\/X.s₀.heap.objs.size<=b)/\b≠X.env.locals/\(∀x c,X.env.cells.lookup x=ab c->c≠b)/\∀p∈X.pn++P8,p.1≠b):Inv X P8 Z H' s':=by
 obtain⟨h',g',d',t',f⟩:=s';have e:f=s.os:=g;subst e;exact I.call (g':=g') (t':=t') (d':=d') u d h a
end
abbrev XK:=aw->Option af->Hp->Prop
abbrev St:=List (Option V)
abbrev VK:=V->Hp->Prop
abbrev TE:=St->Hp->VK->Prop
abbrev TT:=St->Hp->(Bool->Hp->Prop)->Prop
abbrev TA:=St->Hp->(List V->Hp->Prop)->Prop
structure EH where
 nx:St->Hp->Prop
 rt:VK
 bk:St->Hp->Prop:=λ_ _=>False
 ct:St->Hp->Prop:=λ_ _=>False
abbrev TS:=EH->St->Hp->Prop
def EP (X:Cx) (a:List (af × dQ)) (Z:St) (Q:VK) (u:aw) (s':aI):Prop:=∃v b,Inv X a Z b s'/\wl v u/\Q v b
def TP (X:Cx) (a:List (af × dQ)) (Z:St) (Q:Bool->Hp->Prop) (b:Bool) (s':aI):Prop:=∃c,Inv X a Z c s'/\Q b c
def AP (X:Cx) (a:List (af × dQ)) (Z:St) (Q:List V->Hp->Prop) (us:List aw) (s':aI):Prop:=∃vs b,Inv X a Z b s'/\wf vs us/\Q vs b
def SP (X:Cx) (a:List (af × dQ)) (D:EH) (f:Flow) (s':aI):Prop :=
 match f with
 |.next=>∃c b,Inv X a c b s'/\D.nx c b
 |.brk=>∃c b,Inv X a c b s'/\D.bk c b
 |.cont=>∃c b,Inv X a c b s'/\D.ct c b
 |.ret u=>∃v c b,Inv X a c b s'/\wl v u/\D.rt v b
def PE (X:Cx) (e:Expr) (t:TE):Prop :=
 ∀(a:List (af × dQ)) (s:aI) (Z:St) (H:Hp) (Q:VK),Inv X a Z H s->t Z H Q->ay (aT X.prog X.w) X.A (bP e X.env) (EP X a Z Q) X.xe s
def PT (X:Cx) (e:Expr) (t:TT):Prop :=
 ∀(a:List (af × dQ)) (s:aI) (Z:St) (H:Hp) (Q:Bool->Hp->Prop),Inv X a Z H s->t Z H Q->ay (aT X.prog X.w) X.A (isTrue e X.env (bP e X.env)) (TP X a Z Q) X.xe s
def PW (X:Cx) (e:Expr) (t:TT):Prop :=
 ∀(b:Sem aw) (a:List (af × dQ)) (s:aI) (Z:St) (H:Hp) (Q:Bool->Hp->Prop),Inv X a Z H s->t Z H Q->ay (aT X.prog X.w) X.A (isTrue e X.env b) (TP X a Z Q) X.xe s
theorem PW.pt (h:PW X e t):PT X e t:=h _
def PA (X:Cx) (c:List Expr) (t:TA):Prop :=
 ∀(b:mi) (a:List (af × dQ)) (s:aI) (Z:St) (H:Hp) (Q:List V->Hp->Prop),Inv X a Z H s->t Z H Q->ay (aT X.prog X.w) X.A (rb (cv b (aE c X.env))) (AP X a Z Q) X.xe s
def PS (X:Cx) (st:ef) (t:TS):Prop :=
 ∀(a:List (af × dQ)) (s:aI) (Z:St) (H:Hp) (D:EH),Inv X a Z H s->t D Z H->ay (aT X.prog X.w) X.A (exec st X.env) (SP X a D) X.xe s
def AQ (X:Cx) (st:List ef) (t:TS):Prop :=
 ∀(a:List (af × dQ)) (s:aI) (Z:St) (H:Hp) (D:EH),Inv X a Z H s->t D Z H->ay (aT X.prog X.w) X.A (execs st X.env) (SP X a D) X.xe s
theorem wx {t:Sem c}{Q b:c->aI->Prop} (h:ay M A t Q E s) (d:∀a s,Q a s->b a s):ay M A t b E s:=ZK h d λ_ _ x=>x
section
variable {X:Cx}
def Tg (i:Nat):TE:=λZ H Q=>∃v,Z[i]?=ab (ab v)/\Q v H
def tC (v:V):TE:=λ_ H Q=>Q v H
theorem NZ {j:mi} (w:X.N[i]?=ab x) (p:Jn X.env.scope x) (k:(x==("__debug__":ap))=am:=by decide) (g:(x==("__classdict__":ap))=am:=by decide):PE X (.Name x j) (Tg i):=by
 intro f s Z H Q I h;obtain⟨v,e,h⟩:=h;obtain⟨m,q,t⟩:=I.loc;obtain⟨u,r,l⟩:=t i x v w e p;have b:EP X f Z Q u s:=⟨v,H,I,r,h⟩;rcases l with ⟨d,o⟩ | ⟨d,c,n,a⟩
 .exact rh (wpAny_loadName_local I.ok.kind d q o b) k
 rcases d with d | d
 .exact rh (wpAny_loadName_cell I.ok.kind d n a b) k
 exact rh (wpAny_loadName_free I.ok.kind d n a b g) k
theorem N5:PE X (.Constant (.int i) j P9) (tC (.int i)):=λ_ _ _ H _ I h=>wpAny_Constant_int ⟨.int i,H,I.tok _,⟨_,rfl⟩,h⟩
theorem Th:PE X (.Constant (.bool b) j P9) (tC (.bl b)):=λ_ _ _ H _ I h=>Constant_bool ⟨.bl b,H,I,rfl,h⟩
theorem N6:PE X (.Constant (.str x) j P9) (tC (.str x)):=λ_ _ _ H _ I h=>Calls.Constant_str ⟨.str x,H,I.tok _,⟨_,rfl⟩,h⟩
def Gl (X:Cx) (x:ap):Prop:=X.env.kindOf x=ab .globalImplicit
theorem xx {Z:St} (I:Inv X a Z H s) (e:Gl X x) (c:X.mg x=ab u) (h:Q u s) (d:(x==("__debug__":ap))=am:=by decide):ay (aT X.prog X.w) X.A (bP (.Name x b) X.env) Q E s :=
 hH I.ok.kind e (Calls.loadGlobal_global (by rw[I.ok.glob];exact I.mod.glob.keeps I.bk) c h) d
theorem gY {E:aw->aI->Prop}{Z:St}{b:mi} (I:Inv X a Z H s) (g:Gl X x) (d:X.mg x=ag) (c:a8 x=ab u) (h:Q u s) (e:x≠"__name__":=by decide) (j:(x==("__debug__":ap))=am:=by decide):ay (aT X.prog X.w) X.A (bP (.Name x b) X.env) Q E s:=by
 obtain⟨k,i,f⟩:=I.mod.blt;exact hH I.ok.kind g (Calls.loadGlobal_builtin (by rw[I.ok.glob];exact I.mod.glob.keeps I.bk) d (by rw[I.ok.blt];exact i.keeps I.bk) ((f x e).trans c) h) j
theorem Hr {a:mi} (f:Gl X x) (c:X.mg x=ag) (b:a8 x=ab u) (r:wl v u) (d:x≠"__name__":=by decide) (e:(x==("__debug__":ap))=am:=by decide):PE X (.Name x a) (tC v) :=
 λ_ _ _ H _ I h=>gY I f c b ⟨v,H,I,r,h⟩ d e
variable {ta tb:TE}
def PC (X:Cx) (op:CmpOp) (a b:Expr) (t:TE):Prop :=
 ∀(c:List (af × dQ)) (s:aI) (Z:St) (H:Hp) (Q:VK),Inv X c Z H s->t Z H Q ->
  ay (aT X.prog X.w) X.A (bP a X.env) (λv d=>ay (aT X.prog X.w) X.A (bP b X.env) (λu e=>ay (aT X.prog X.w) X.A (a9 op v u) (EP X c Z Q) X.xe e) X.xe d) X.xe s
theorem rJ (b:Expr) (h:op≠.In) (d:op≠.NotIn):b9 op b=am:=by
 have c:(op==CmpOp.In)=am:=by cases op <;> first | rfl | exact wT rfl h
 have a:(op==CmpOp.NotIn)=am:=by cases op <;> first | rfl | exact wT rfl d
 cases b <;> simp [b9,c,a]
def tB (t:TE):TT:=λZ H Q=>t Z H λx a=>∃c,x=.bl c/\Q c a
theorem N7 (h:PC X op a b t) (d:b9 op b=am:=by first | exact rJ _ vS vS | rfl):PE X (.Compare a [op] [b] P9) t:=λc s Z H Q I e=>ri (h c s Z H Q I e) d
theorem vd (h:PC X op a b t) (f:b9 op b=am:=by first | exact rJ _ vS vS | rfl):PT X (.Compare a [op] [b] P9) (tB t):=by
 intro e s Z H Q I m;refine kC (wx (h e s Z H _ I m) λv o f=>wx f λu p l=>wx l λc n ⟨x,j,k,i,g⟩=>?_) f;obtain⟨d,rfl,q⟩:=g;cases i;exact Zg ⟨j,k,q⟩
theorem N8 (h:PE X e t) (f:∀whole,isTrue e X.env whole=(do let v <- whole;nz e.pos;e9 [v] (truthy v)):=by intro _;rfl):PT X e (tB t):=by
 intro a s Z H Q I j;refine isTrue_plain (wx (h a s Z H _ I j) λv k ⟨x,c,g,i,b⟩=>?_) (f _);obtain⟨d,rfl,q⟩:=b;cases i;exact Zg ⟨c,g,q⟩
variable {wq:List Expr}
def Xd (t u:TT):TT:=λZ H Q=>t Z H λc a=>if c=ai then u Z a Q else Q am a
def P3 (t u:TT):TT:=λZ H Q=>t Z H λc a=>if c=ai then Q ai a else u Z a Q
def Xe (t:TT):TT:=λZ H Q=>t Z H λc a=>Q (!c) a
theorem Ht (d:PT X a tA):PW X (.BoolOp .And [a] P9) tA:=by
 intro f b s Z H Q I h;refine isTrue_and (wx (d b s Z H Q I h) λc g e=>?_);cases c with
 |true=>exact isTrue_and_nil e
 |false=>exact e
theorem Oa (d:PT X a tA):PW X (.BoolOp .Or [a] P9) tA:=by
 intro f b s Z H Q I h;refine isTrue_or (wx (d b s Z H Q I h) λc g e=>?_);cases c with
 |false=>exact isTrue_or_nil e
 |true=>exact e
theorem Ob (l:PT X a tA) (k:PW X (.BoolOp .And (b::wq) P9) tB'):PW X (.BoolOp .And (a::b::wq) P9) (Xd tA tB'):=by
 intro i d s Z H Q I h;refine isTrue_and (wx (l d s Z H _ I h) λc j ⟨f,g,e⟩=>?_);cases c with
 |true=>exact k i d j Z f Q g e
 |false=>exact⟨f,g,e⟩
theorem Ti (l:PT X a tA) (k:PW X (.BoolOp .Or (b::wq) P9) tB'):PW X (.BoolOp .Or (a::b::wq) P9) (P3 tA tB'):=by
 intro i d s Z H Q I h;refine isTrue_or (wx (l d s Z H _ I h) λc j ⟨f,g,e⟩=>?_);cases c with
 |true=>exact⟨f,g,e⟩
 |false=>exact k i d j Z f Q g e
theorem Oc (e:PT X a tA):PT X (.UnaryOp .Not a P9) (Xe tA):=by
 intro b s Z H Q I h;exact isTrue_not (e b s Z H (λc d=>Q (!c) d) I h)
def Tj (d b:TE):TE:=λZ H Q=>d Z H λx a=>∃c,x=.bl c/\if c=ai then b Z a Q else Q (.bl am) a
def Xf (d b:TE):TE:=λZ H Q=>d Z H λx a=>∃c,x=.bl c/\if c=ai then Q (.bl ai) a else b Z a Q
def Tn (a:TE):TE:=λZ H Q=>a Z H λx b=>∃c,x=.bl c/\Q (.bl (!c)) b
theorem Od (h:PE X a t):PE X (.BoolOp op [a] P9) t:=λb s Z H Q I c=>BoolOp_one (h b s Z H Q I c)
theorem Oe (i:PE X a ta) (k:PE X (.BoolOp .And (b::wq) P9) tb):PE X (.BoolOp .And (a::b::wq) P9) (Tj ta tb):=by
 intro d s Z H Q I h;refine BoolOp_and (wx (i d s Z H _ I h) λv j ⟨x,f,g,l,e⟩=>?_);obtain⟨c,rfl,e⟩:=e;cases l;refine Zg ?_;cases c with
 |true=>exact k d j Z f Q g e
 |false=>exact⟨.bl am,f,g,rfl,e⟩
theorem Tp (i:PE X a ta) (k:PE X (.BoolOp .Or (b::wq) P9) tb):PE X (.BoolOp .Or (a::b::wq) P9) (Xf ta tb):=by
 intro d s Z H Q I h;refine BoolOp_or (wx (i d s Z H _ I h) λv j ⟨x,f,g,l,e⟩=>?_);obtain⟨c,rfl,e⟩:=e;cases l;refine Zg ?_;cases c with
 |false=>exact k d j Z f Q g e
 |true=>exact⟨.bl ai,f,g,rfl,e⟩
theorem Og (e:PE X a ta):PE X (.UnaryOp .Not a P9) (Tn ta):=by
 intro b s Z H Q I h;refine UnaryOp_ (wx (e b s Z H _ I h) λv j ⟨x,f,g,i,d⟩=>?_);obtain⟨c,rfl,d⟩:=d;cases i;exact not_of (Zg ⟨.bl (!c),f,g,rfl,d⟩)
end
def y8 (K:a6) (H:Hp) (a:af) (xs:List V):Prop :=
 Rd H a (.lst xs) \/
  ∃(o:dQ) (b:Array aw) (n:Nat),K.lookup a=ab o/\o.cls=.type "list"/\o.dict=ag/\o.data=.seq b n/\b.size<=av/\wf xs b.toList
def yB (K:a6) (H:Hp) (a:af) (xs:List V):Prop :=
 Rd H a (.tup xs) \/
  ∃(o:dQ) (b:Array aw) (n:Nat),K.lookup a=ab o/\o.cls=.type "tuple"/\o.dict=ag/\o.data=.seq b n/\b.size<=av/\wf xs b.toList
def Xg:aw->Option V
 |.none=>ab .non
 |.bool b=>ab (.bl b)
 |.int i _=>ab (.int i)
 |.str x _=>ab (.str x)
 |.bytes b _=>ab (.byt b)
 |.float b _=>ab (.flt b)
 |.ref a=>ab (.ref a)
 |.type n=>ab (.ty n)
 |_=>ag
theorem wl.abs (r:wl x u):Xg u=ab x:=by
 cases x with
 |non=>cases r;rfl
 |bl _=>cases r;rfl
 |int _=>obtain⟨t,rfl⟩:=r;rfl
 |str _=>obtain⟨t,rfl⟩:=r;rfl
 |byt _=>obtain⟨t,rfl⟩:=r;rfl
 |flt _=>obtain⟨t,rfl⟩:=r;rfl
 |ref _=>cases r;rfl
 |ty _=>cases r;rfl
theorem wl.inj (r:wl x u) (q:wl y u):x=y:=P_ (r.abs.symm.trans q.abs)
theorem wf.inj (h:wf xs us) (h':wf a us):xs=a:=by
 induction h generalizing a with
 |nil=>cases h';rfl
 |cons r t b =>
 cases h' with
 |cons c t'=>rw[r.inj c,b t']
section
variable {X:Cx}{P8:List (af × dQ)}{Z:St}
theorem y8.of {K:a6}(h:H a=ab (.lst xs)):y8 K H a xs:=.inl (.inl h)
theorem yB.of {K:a6}(h:H a=ab (.tup xs)):yB K H a xs:=.inl (.inl h)
theorem Inv.list (I:Inv X P8 Z H s) (h:y8 X.K H a xs):∃b:List aw,wf xs b/\PlainL s.heap a b.toArray/\xs.length<=av:=by
 rcases h with h | ⟨o,b,n,d,c,f,g,i,r⟩
 .obtain⟨z,b,n,r,e⟩:=h.ok I.hok;exact⟨b,r,⟨_,n,e,rfl,rfl,rfl⟩,z⟩
 refine⟨b.toList,r,⟨o,n,I.kIn a o d,c,f,by simpa using g⟩,?_⟩;have e:=r.length;simp only[HC] at e;omega
theorem Inv.tuple (I:Inv X P8 Z H s) (h:yB X.K H a xs):∃b:List aw,wf xs b/\qo s.heap a b.toArray/\xs.length<=av:=by
 rcases h with h | ⟨o,b,n,d,c,_,f,g,r⟩
 .obtain⟨z,b,r,p⟩:=h.ok I.hok;exact⟨b,r,p.is,z⟩
 refine⟨b.toList,r,⟨o,I.kIn a o d,c,n,by simpa using f⟩,?_⟩;have e:=r.length;simp only[HC] at e;omega
theorem Inv.list_inj (I:Inv X P8 Z H s) (h:y8 X.K H a xs) (h':y8 X.K H a ys):xs=ys:=by
 obtain⟨b,r,⟨o,n,e,_,_,d⟩,_⟩:=I.list h;obtain⟨its',f,⟨i,g,c,_,_,d'⟩,_⟩:=I.list h';rw[e] at c;cases c;rw[d] at d';injection d' with d1 _;have:b=its':=by simpa using YB Array.toList d1
 subst this;exact r.inj f
theorem Inv.tuple_inj (I:Inv X P8 Z H s) (h:yB X.K H a xs) (h':yB X.K H a ys):xs=ys:=by
 obtain⟨b,r,⟨o,e,_,n,d⟩,_⟩:=I.tuple h;obtain⟨its',f,⟨i,c,_,g,d'⟩,_⟩:=I.tuple h';rw[e] at c;cases c;rw[d] at d';injection d' with d1 _;have:b=its':=by simpa using YB Array.toList d1
 subst this;exact r.inj f
end
abbrev Cx.wish (X:Cx) (E:aw->aI->Prop):Cx:={ X with xe:=E}
abbrev Cx.nox (X:Cx):Cx:=X.wish λ_ _=>False
theorem Cx.Ok.wish {X:Cx}(a:X.Ok) (E:aw->aI->Prop):(X.wish E).Ok :=
 ⟨a.mod,a.kind,a.glob,a.blt,a.above,a.inj,a.has,a.cab,a.hd,a.frames,a.stk,a.exf,a.bs,a.bsz,a.noex,a.exfs,a.funs,a.frf⟩
theorem Cx.Ok.unwish {X:Cx} (a:(X.wish E).Ok):X.Ok :=
 ⟨a.mod,a.kind,a.glob,a.blt,a.above,a.inj,a.has,a.cab,a.hd,a.frames,a.stk,a.exf,a.bs,a.bsz,a.noex,a.exfs,a.funs,a.frf⟩
section
variable {X:Cx}{P8:List (af × dQ)}{Z:St}
theorem Inv.wish (I:Inv X P8 Z H s) (E:aw->aI->Prop):Inv (X.wish E) P8 Z H s:=⟨I.ok.wish E,I.os,I.bare,I.base,I.loc,I.cell,I.free,I.freeC,I.pin,I.hok,I.len⟩
theorem Inv.unwish (I:Inv (X.wish E) P8 Z H s):Inv X P8 Z H s:=⟨I.ok.unwish,I.os,I.bare,I.base,I.loc,I.cell,I.free,I.freeC,I.pin,I.hok,I.len⟩
theorem SP.unwish (h:SP (X.wish E) P8 D f s'):SP X P8 D f s':=by
 cases f with
 |next=>obtain⟨a,b,I,q⟩:=h;exact⟨a,b,I.unwish,q⟩
 |brk=>obtain⟨a,b,I,q⟩:=h;exact⟨a,b,I.unwish,q⟩
 |cont=>obtain⟨a,b,I,q⟩:=h;exact⟨a,b,I.unwish,q⟩
 |ret u=>obtain⟨v,a,b,I,r,q⟩:=h;exact⟨v,a,b,I.unwish,r,q⟩
theorem AQ.nox {st:List ef} (h:AQ X.nox st t):AQ X st t:=λa s Z H D I b =>
 ZK (h a s Z H D (I.wish _) b) (λ_ _ q=>q.unwish) λ_ _ z=>cy z
variable {st:ef}{wq:List ef}{t u:TS}
def Tq:TS:=λD Z H=>D.nx Z H
def Xh (t u:TS):TS:=λD Z H=>t { D with nx:=u D} Z H
theorem Hu:AQ X [] Tq:=λ_ _ Z H _ I h=>fh ⟨Z,H,I,h⟩
theorem Bk (h1:PS X st t) (e:AQ X wq u):AQ X (st::wq) (Xh t u):=by
 intro a s Z H D I h;refine oB (wx (h1 a s Z H { D with nx:=u D} I h) λf b q=>?_);cases f with
 |next=>obtain⟨c,g,d,q⟩:=q;exact e a b c g D d q
 |ret v=>exact q
 |brk=>exact q
 |cont=>exact q
theorem Hv (b:PS X st t):AQ X [st] t:=by
 intro a s Z H D I h;refine oB (wx (b a s Z H D I h) λf c q=>?_);cases f with
 |next=>exact fh q
 |ret v=>exact q
 |brk=>exact q
 |cont=>exact q
theorem Inv.quiet (I:Inv X a Z H s):interactive X.env=am:=by simp [interactive,I.ok.kind]
def Tr (te:TE):TS:=λD Z H=>te Z H λ_ a=>D.nx Z a
theorem Hw (d:PE X e te) (g:dL e ag P9.line X.env=ce am:=by rfl):PS X (.Expr e P9) (Tr te):=by
 intro a s Z H D I h;exact wpAny_Expr_any (wx (d a s Z H _ I h) λv i ⟨x,c,f,j,b⟩=>⟨Z,c,f,b⟩) I.quiet g
def Xi (te:TE):TS:=λD Z H=>te Z H D.rt
theorem Oh (d:PE X e te):PS X (.Return (ab e) P9) (Xi te):=by
 intro a s Z H D I h;exact wpAny_Return_some (wx (d a s Z H _ I h) λv i ⟨x,c,f,g,b⟩=>⟨x,Z,c,f,g,b⟩)
def Xj (c:TT) (t u:TS):TS:=λD Z H=>c Z H λb a=>if b=ai then t D Z a else u D Z a
theorem Tt (l:PT X c i) (n:AQ X a t) (m:AQ X b u):PS X (.If c a b P9) (Xj i t u):=by
 intro e s Z H D I h;refine wpAny_If (wx (l e s Z H _ I h) λd f ⟨j,k,g⟩=>?_);cases d with
 |true=>exact n e f Z j D k g
 |false=>exact m e f Z j D k g
end
abbrev TG:=V->St->Hp->(St->Hp->Prop)->Prop
abbrev GO:=List V->St->Hp->(St->Hp->Prop)->Prop
def PG (X:Cx) (a:Expr) (t:TG):Prop :=
 ∀(b:List (af × dQ)) (s:aI) (Z:St) (H:Hp) (v:V) (u:aw) (Q:St->Hp->Prop),Inv X b Z H s->wl v u->t v Z H Q ->
  ay (aT X.prog X.w) X.A (gN a X.env u) (λ_ s'=>∃c d,Inv X b c d s'/\Q c d) X.xe s
def DL (X:Cx) (ts:List Expr) (t:GO):Prop :=
 ∀(a:List (af × dQ)) (s:aI) (Z:St) (H:Hp) (vs:List V) (us:List aw) (Q:St->Hp->Prop),Inv X a Z H s->wf vs us->t vs Z H Q ->
  ay (aT X.prog X.w) X.A (assignInOrder ((dt ts X.env).map (·.2)) us) (λ_ s'=>∃b c,Inv X a b c s'/\Q b c) X.xe s
abbrev Bm:=V->V->V->Hp->(Hp->Prop)->Prop
def FS (X:Cx) (t:Bm):Prop :=
 ∀(a:List (af × dQ)) (s:aI) (Z:St) (H:Hp) (o i v:V) (c b u:aw) (Q:Hp->Prop),Inv X a Z H s->wl o c->wl i b->wl v u->t o i v H Q ->
  ay (aT X.prog X.w) X.A (tf c b u) (λ_ s'=>∃d,Inv X a Z d s'/\Q d) X.xe s
section
variable {P9:mi}
def Lb (i:Nat):TG:=λv Z H Q=>Q (Z.set i (ab v)) H
theorem Hy (f:X.N.Nodup) (c:X.N[i]?=ab x) (d:E1 X.env.scope x) (b:X.fn x=ai\/X.env.scope.names.lookup x=ab .local:=by first | exact .inl rfl | exact .inr rfl | assumption):PG X (.Name x P9) (Lb i):=by
 intro a s Z H v u Q I r h;exact ny (rH I f c d r (λs' e=>⟨_,H,e,h⟩) b)
def Xk:GO:=λvs Z H Q=>vs=[]/\Q Z H
def Tu (t:TG) (u:GO):GO:=λvs Z H Q=>∃v r,vs=v::r/\t v Z H λa b=>u r a b Q
theorem Hz:DL X [] Xk:=by
 intro a s Z H vs us Q I r h;obtain⟨e,h⟩:=h;subst e;cases r;exact assignInOrder_nil ⟨Z,H,I,h⟩
theorem Bo (j:PG X e t) (m:DL X b u) (n:(dt (e::b) X.env).map (·.2)=gN e X.env::(dt b X.env).map (·.2):=by rfl):DL X (e::b) (Tu t u):=by
 intro a s Z H vs us Q I r h;obtain⟨v,o,f,h⟩:=h;subst f;cases r with
 |cons r k =>
 rw[n];refine assignInOrder_cons (wx (j a s Z H _ _ _ I r h) λ_ c ⟨i,g,l,d⟩=>?_);exact m a c i g _ _ Q l k d
def Xl (K:a6) (n:Nat) (t:GO):TG:=λv Z H Q=>∃a xs,v=.ref a/\yB K H a xs/\xs.length=n/\t xs Z H Q
theorem Oi {k:Nat} (w:X.calm=ai) (h:DL X d t) (m:(dt d X.env).length=n:=by rfl) (f:(dt d X.env).findIdx? (·.1)=ag:=by rfl):PG X (.Tuple d k P9) (Xl X.K n t):=by
 intro c s Z H v u Q I r g;obtain⟨a,xs,p,q,x,g⟩:=g;subst p;cases r;obtain⟨l,i,j,A⟩:=I.tuple q;refine assign_Tuple_tuple (I.ok.hd w) j (by simp [m,<- x,i.length]) f λh' y=>?_;have z:Inv X c Z H { s with heap:=h'}:=I.kept (t':=s.toks) λb o e=>y b o (L_ (F_ e)) e;exact h c _ Z H xs _ Q z (by simpa using i) g
def Xm (c a:TE) (t:Bm):TG:=λv Z H Q=>c Z H λo d=>a Z d λi b=>t o i v b λH3=>Q Z H3
theorem Oj (k:PE X o e) (w:PE X i d) (B:FS X t) (g:∀v,gN (.Subscript o i P9) X.env v=(do
   let b <- e9 [v] (bP o X.env)
   let c <- e9 [v,b] (bP i X.env)
   nz P9
   e9 [v,b,c] (tf b c v)
   release [v,b,c] []):=by intro _;rfl):PG X (.Subscript o i P9) (Xm e d t):=by
 intro a s Z H v u Q I r h;rw[g];refine a_ (Zx (wx (k a s Z H _ I h) λb p ⟨x,j,m,E,q⟩=>?_));refine a_ (Zx (wx (w a p Z j _ m q) λc z ⟨y,n,A,f,D⟩=>?_));refine a_ (l8 (a_ (Zx (wx (B a z Z n x y v b c u _ A E f r D) λ_ F ⟨H3,l,C⟩=>?_))));exact wpAny_release ⟨Z,H3,l,C⟩
def Tv (te:TE) (g:TG):TS:=λD Z H=>te Z H λx a=>g x Z a D.nx
theorem Ol (i:PE X e te) (m:PG X b g) (n:sC [b] e P9.line X.env=ce am:=by rfl) (o:sD [b] e X.env=ce ag:=by rfl) (j:(dt [b] X.env).map (·.2)=[gN b X.env]:=by rfl):PS X (.Assign [b] e P9) (Tv te g):=by
 intro a s Z H D I h;refine wpAny_Assign_stores (wx (i a s Z H _ I h) λv c ⟨x,f,k,l,d⟩=>?_) n o;rw[j];exact wx (m a c Z f x v _ k l d) λ_ p q=>q
theorem Om (l:X.N.Nodup) (f:X.N[i]?=ab x) (g:E1 X.env.scope x) (k:PE X e te) (p:dL e (ab (.Name x a)) P9.line X.env=ce am:=by rfl) (d:X.fn x=ai\/X.env.scope.names.lookup x=ab .local:=by first | exact .inl rfl | exact .inr rfl | assumption):
  PS X (.Assign [.Name x a] e P9) (Tv te (Lb i)):=by
 intro b s Z H D I h;refine wpAny_Assign_Name (wx (k b s Z H _ I h) λv q ⟨y,j,m,n,c⟩=>?_) p;exact rH m l f g n (λr o=>⟨_,j,o,c⟩) d
def Oo (c:TT) (g:TS):TS:=λD Z H=>∃W:Nat->St->Hp->Prop,(∃m,W m Z H)/\∀m Z H,W m Z H ->
 c Z H λb e=>if b=ai then ∃N:St->Hp->Prop,(∀a f,N a f->∃d,d<m/\W d a f)/\g { D with nx:=N,ct:=N,bk:=D.nx} Z e else D.nx Z e
theorem Bp (x:o2 (aT X.prog X.w) X.A X.env X.xe) (F:PT X c r) (G:AQ X d B):PS X (.While c d [] P9) (Oo r B):=by
 intro a s Z H D I h;obtain⟨W,⟨J,K⟩,e⟩:=h;refine wpAny_While (codeAny_whileLoop (λn s'=>∃z E,Inv X a z E s'/\W n z E) ?_ J ⟨Z,H,I,K⟩);rintro n O ⟨k,t,M,L⟩;refine FF x (wx (F a O k t _ M (e n k t L)) λb P ⟨y,C,j⟩=>?_);cases b with
 |true =>
  obtain⟨N,u,j⟩:=j;rw[we rfl];refine FF x (wx (G a P k y _ C j) λf Q i=>?_);cases f with
  |next=>obtain⟨g,H3,m,p⟩:=i;obtain⟨l,o,q⟩:=u g H3 p;exact⟨l,o,g,H3,m,q⟩
  |cont=>obtain⟨g,H3,m,p⟩:=i;obtain⟨l,o,q⟩:=u g H3 p;exact⟨l,o,g,H3,m,q⟩
  |brk=>exact i
  |ret v=>exact i
 |false =>
 rw[wc K_];exact fh ⟨k,y,C,j⟩
end
structure It where
 go:Nat->Hp->Prop
 yld:Nat->Hp->V->Hp->Prop
 stop:Nat->Hp->Prop
def lY (X:Cx) (a:List (af × dQ)) (H:Hp) (b:af):Prop :=
 H b=ag/\b≠X.env.locals/\b∉X.fs/\(b∈X.ex\/X.s₀.heap.objs.size<=b)/\(∀x c,X.env.cells.lookup x=ab c->c≠b)/\∀p∈X.pn++a,p.1≠b
theorem Inv.fpOk {Z:St}{b:af} (I:Inv X a Z H s) (d:s.heap.objs.size<=b) (h:f b=ag):lY X a f b:=by
 refine⟨h,YT (Yz I.lt d),I.nofs d,.inr (R_ I.sz d),λx c e z=>?_,λp g z=>?_⟩
 .obtain⟨v,q⟩:=I.cell x c e;exact wT (Yz q.lt (by rw[z];exact d)) (YQ _)
 exact wT (Yz (F_ (I.pin p g).1) (by rw[z];exact d)) (YQ _)
structure BO (P:br) (w:bb) (K:a6) (tg:Expr) (J:It) (fp:List af) (it:af) (tn:Nat->ci->Prop):Prop where
 mem:it∈fp
 obj:∀i h,tn i h->∀b∈fp,∃o,h.get? b=ab o/\∀v,o.data≠.cell v
 keep:∀i h h',tn i h->(∀b∈fp,∀o,h.get? b=ab o->h'.get? b=ab o)->tn i h'
 item:∀(X:Cx),X.prog=P->X.w=w->X.K=K->X.calm=ai->∀(i:Nat) (pins:List (af × dQ)) (s:aI) (Z:St) (H:Hp) (E:aw->aI->Prop),Inv X pins Z H s->(∀b∈fp,lY X pins H b)->tn i s.heap->J.go i H ->
  ay (aT P w) X.A (kM (.ref it)) (λr s1=>∃u,r=ab u /\
   ay (aT P w) X.A (fk tg (.ref it) u) (λ_ s2=>∃x H',Inv X pins Z H' s2/\wl x u/\J.yld i H x H'/\tn (i+1) s2.heap/\∀b∈fp,H' b=ag) E s1) E s
 done:∀(X:Cx),X.prog=P->X.w=w->X.K=K->X.calm=ai->∀(i:Nat) (pins:List (af × dQ)) (s:aI) (Z:St) (H:Hp) (E:aw->aI->Prop),Inv X pins Z H s->(∀b∈fp,lY X pins H b)->tn i s.heap->J.stop i H ->
  ay (aT P w) X.A (kM (.ref it)) (λr s1=>r=ag/\Inv X pins Z H s1) E s
 self:∀(A:dA) (i:Nat) (s:aI) (Q:aw->aI->Prop) (E:aw->aI->Prop),tn i s.heap->Q (.ref it) s->ay (aT P w) A (tS (.ref it)) Q E s
abbrev TI:=St->Hp->(It->Hp->Prop)->Prop
def Nn (X:Cx) (a:List (af × dQ)) (Z:St) (g:Expr) (R:It->Hp->Prop) (c:aw) (f:aI):Prop :=
 ∃(it:af) (d:List af) (e:Nat->ci->Prop) (J:It) (H':Hp),c=.ref it/\Inv X a Z H' f/\BO X.prog X.w X.K g J d it e/\e 0 f.heap/\(∀b∈d,lY X a H' b)/\R J H'
def PI (X:Cx) (d b:Expr) (e:TI):Prop :=
 ∀(a:List (af × dQ)) (s:aI) (Z:St) (H:Hp) (R:It->Hp->Prop),Inv X a Z H s->e Z H R ->
  ay (aT X.prog X.w) X.A (bP b X.env) (λv c=>ay (aT X.prog X.w) X.A (tS v) (Nn X a Z d R) X.xe c) X.xe s
theorem xF (e:s.heap.get? it=ab o) (d:o.cls=.type n) (f:o.data=.fields vs) (c:["enumerate","zip","dict_itemiterator","dict_reverseitemiterator","odict_iterator","itertools.zip_longest","itertools.pairwise"].contains n=am) (a:Q () s):ay M A (fk b (.ref it) u) Q E s:=by
 unfold fk;cases b <;> first
  |exact l_ a
  | (cases u <;> first
    |exact l_ a
    | (refine a_ (mw e ?_)
       rw[d,f]
       show ay M A (if (["enumerate","zip","dict_itemiterator","dict_reverseitemiterator","odict_iterator","itertools.zip_longest","itertools.pairwise"].contains n&&vs[0]?==ab (mE _))=ai then _ else _) Q E s
       rw[wc (by intro h;rw[c,Zu] at h;cases h)]
       exact l_ a))
def Nd (K:a6) (a:af):It :=
 ⟨λi H=>∃xs x,y8 K H a xs/\xs[i]?=ab x,λi H x b=>b=H/\∀xs,y8 K H a xs->xs[i]?=ab x,λi H=>∃xs,y8 K H a xs/\xs.length<=i⟩
def Nl (K:a6) (a:af):It :=
 ⟨λi H=>∃xs x,yB K H a xs/\xs[i]?=ab x,λi H x b=>b=H/\∀xs,yB K H a xs->xs[i]?=ab x,λi H=>∃xs,yB K H a xs/\xs.length<=i⟩
def HP (a:Int) (n:Nat):It:=⟨λi _=>i<n,λi H x b=>b=H/\x=.int (a+i),λi _=>n<=i⟩
theorem zH {K:a6}{V:Expr} (a it:af):BO P w K V (Nd K a) [it] it (λi h=>h.IsListIter it a i) where
 mem:=by simp
 obj:=λi h st b g=>by
  have e:b=it:=by simpa using g
  subst e
  obtain⟨o,e,c,d⟩:=st
  exact⟨o,e,λv z=>by rw[d] at z;cases z⟩
 keep:=λi h h' st k=>st.at λo e=>k it wn o e
 item:=by
  intro X t q B L i f s Z H E I m st J
  subst t q B
  obtain⟨xs,x,l,G⟩:=J
  obtain⟨F,A,p,O⟩:=I.list l
  obtain⟨u,T,Q⟩:=A.get G
  obtain⟨D,y,U,r,C,n⟩:=m it wn
  refine wpAny_pyNext_list_item st p.isList (x:=u) (by simpa using T) λh' j S=>?_
  have R:Inv X f Z H { s with heap:=h'}:=I.turned (t':=s.toks) (λb o g e=>(S.2 b g).trans e) D y r C n
  obtain⟨o,e,c,d⟩:=id j
  exact⟨u,rfl,xF (s:={ s with heap:=h'}) e c d vS ⟨x,H,R,Q,⟨rfl,λY M=>by rw[I.list_inj M l];exact G⟩,j,λb g=>(m b g).1⟩⟩
 done:=by
  intro X t q B L i f s Z H E I m st J
  subst t q B
  obtain⟨xs,l,G⟩:=J
  obtain⟨F,A,p,O⟩:=I.list l
  obtain⟨D,y,U,r,C,n⟩:=m it wn
  have W:=A.length
  exact wpAny_pyNext_list_end (I.ok.hd L) st p.isList (by simp;omega) λh' N=>⟨rfl,I.turned (t':=s.toks) (λb o g e=>N b o g e) D y r C n⟩
 self:=λ_ _ _ _ _ st h=>wpAny_pyIter_listiter st h
theorem vf {K:a6}{V:Expr} (a it:af):BO P w K V (Nl K a) [it] it (λi h=>h.IsTupleIter it a i) where
 mem:=by simp
 obj:=λi h st b g=>by
  have e:b=it:=by simpa using g
  subst e
  obtain⟨o,e,c,d⟩:=st
  exact⟨o,e,λv z=>by rw[d] at z;cases z⟩
 keep:=λi h h' st k=>st.at λo e=>k it wn o e
 item:=by
  intro X y r C L i f s Z H E I n st J
  subst y r C
  obtain⟨xs,x,m,G⟩:=J
  obtain⟨j,B,p,O⟩:=I.tuple m
  obtain⟨u,T,Q⟩:=B.get G
  obtain⟨F,A,U,t,D,q⟩:=n it wn
  refine wpAny_pyNext_tuple_item st (show s.heap.IsTuple a j.toArray from p) (x:=u) (by simpa using T) λh' l S=>?_
  have R:Inv X f Z H { s with heap:=h'}:=I.turned (t':=s.toks) (λb o g e=>(S.2 b g).trans e) F A t D q
  obtain⟨o,e,c,d⟩:=id l
  exact⟨u,rfl,xF (s:={ s with heap:=h'}) e c d vS ⟨x,H,R,Q,⟨rfl,λY M=>by rw[I.tuple_inj M m];exact G⟩,l,λb g=>(n b g).1⟩⟩
 done:=by
  intro X y r C L i f s Z H E I n st J
  subst y r C
  obtain⟨xs,m,G⟩:=J
  obtain⟨j,B,p,O⟩:=I.tuple m
  obtain⟨F,A,U,t,D,q⟩:=n it wn
  have W:=B.length
  exact wpAny_pyNext_tuple_end (I.ok.hd L) st (show s.heap.IsTuple a j.toArray from p) (by simp;omega) λh' N=>⟨rfl,I.turned (t':=s.toks) (λb o g e=>N b o g e) F A t D q⟩
 self:=λ_ _ _ _ _ st h=>wpAny_pyIter_tupleiter st h
theorem vg {K:a6} (it:af) (f:Int) (n:Nat):BO P w K L (HP f n) [it] it (λi h=>IsRangeIter h it (f+(i:Nat)*1) ((n:Int) - (i:Nat)) 1) where
 mem:=by simp
 obj:=λi h st b c=>by
  have e:b=it:=by simpa using c
  subst e
  exact⟨_,st,λv z=>by
   have C:Data.fields _=Data.cell v:=z
   cases C⟩
 keep:=λi h h' st k=>k it wn _ st
 item:=by
  intro X q m u l i a s Z H E I g st A
  subst q m u
  obtain⟨y,r,G,p,x,j⟩:=g it wn
  have W:=Walks.range (prog:=X.prog) (w:=X.w) (I.ok.hd l) it f 1 n
  refine W.item i s _ _ A st λv h' tk J d F=>?_
  obtain⟨t,rfl⟩:=J
  have D:Inv X a Z H { s with heap:=h',toks:=tk}:=I.turned (λb o c e=>F b o (by simpa using c) e) y r p x j
  refine⟨_,rfl,xF (s:={ s with heap:=h',toks:=tk}) (n:="range_iterator") d rfl rfl vS ⟨.int (f+i),H,D,⟨t,?_⟩,⟨rfl,rfl⟩,d,λb c=>(g b c).1⟩⟩
  rw[lb]
 done:=by
  intro X q m u l i a s Z H E I g st A
  subst q m u
  obtain⟨y,r,G,p,x,j⟩:=g it wn
  exact wpAny_pyNext_range_end (I.ok.hd l) st (by have:n<=i:=A;omega) λh' B=>⟨rfl,I.turned (t':=s.toks) (λb o c e=>B b o c e) y r p x j⟩
 self:=λ_ _ _ _ _ st h=>wpAny_pyIter_rangeiter st h
section
variable {X:Cx}{tg:Expr}
def Tw (K:a6) (c:TE):TI:=λZ H R=>c Z H λx b=>∃a,x=.ref a/\(∃xs,y8 K b a xs)/\R (Nd K a) b
def Xn (K:a6) (c:TE):TI:=λZ H R=>c Z H λx b=>∃a,x=.ref a/\(∃xs,yB K b a xs)/\R (Nl K a) b
theorem HB (m:PE X l g):PI X tg l (Tw X.K g):=by
 intro c s Z H R I h;refine wx (m c s Z H _ I h) λv d ⟨x,n,f,t,i⟩=>?_;obtain⟨a,e,⟨xs,k⟩,q⟩:=i;subst e;cases t;obtain⟨j,u,p,w⟩:=f.list k;refine JO p.isList ?_;refine⟨d.heap.objs.size,[d.heap.objs.size],_,_,n,rfl,f.kept (t':=d.toks) λb o e=>e_ _ e,zH a _,⟨_,E_ _ rfl,rfl,rfl⟩,λb r=>?_,q⟩;have e:b=d.heap.objs.size:=by simpa using r
 subst e;exact f.fpOk (u_ _) (f.hok.fresh (u_ _))
theorem Oq (m:PE X l i):PI X tg l (Xn X.K i):=by
 intro d s Z H R I h;refine wx (m d s Z H _ I h) λv c ⟨x,n,f,t,j⟩=>?_;obtain⟨a,e,⟨xs,k⟩,q⟩:=j;subst e;cases t;obtain⟨g,u,p,w⟩:=f.tuple k;refine mv (show c.heap.IsTuple a g.toArray from p) ?_;refine⟨c.heap.objs.size,[c.heap.objs.size],_,_,n,rfl,f.kept (t':=c.toks) λb o e=>e_ _ e,vf a _,⟨_,E_ _ rfl,rfl,rfl⟩,λb r=>?_,q⟩;have e:b=c.heap.objs.size:=by simpa using r
 subst e;exact f.fpOk (u_ _) (f.hok.fresh (u_ _))
theorem rK {Z:St} (I:Inv X d Z H s) (l : -(2^62)<=a) (k:a<2^62) (g : -(2^62)<=c) (m:c<2^62) (q:R (HP a (c - a).toNat) H):ay (aT X.prog X.w) X.A (tS (.ref s.heap.objs.size)) (Nn X d Z tg R) E { s with heap:=s.heap.push { cls:=.type "range",data:=.fields #[.int a t,.int c u,.int 1 v]},toks:=tk}:=by
 refine wpAny_pyIter_range (IsRange.new ..) (small_one l k g m) ?_;have f:Inv X d Z H { s with heap:=s.heap.push { cls:=.type "range",data:=.fields #[.int a t,.int c u,.int 1 v]},toks:=tk}:=I.kept λb o e=>e_ _ e;refine⟨(s.heap.push { cls:=.type "range",data:=.fields #[.int a t,.int c u,.int 1 v]}).objs.size,[(s.heap.push { cls:=.type "range",data:=.fields #[.int a t,.int c u,.int 1 v]}).objs.size],_,_,H,rfl,
  f.kept (t':=tk) λb o e=>e_ _ e,vg _ a (c - a).toNat,?_,λb j=>?_,q⟩
 .have i:a+((0:Nat):Int)*1=a:=wn
  have h:(((c - a).toNat:Nat):Int) - ((0:Nat):Int)=Builtin.Range.rangeSize a c 1:=by rw[rangeSize_one];split <;> omega
  show IsRangeIter _ _ (a+((0:Nat):Int)*1) ((((c - a).toNat:Nat):Int) - ((0:Nat):Int)) 1;rw[i,h];exact E_ _ rfl
 have e:b=(s.heap.push { cls:=.type "range",data:=.fields #[.int a t,.int c u,.int 1 v]}).objs.size:=by simpa using j
 subst e;exact f.fpOk (u_ _) (f.hok.fresh (u_ _))
def Tz (a:TA):TI:=λZ H R=>a Z H λvs b=>∃j:Int,vs=[.int j] /\ -(2^62)<=j/\j<2^62/\R (HP 0 j.toNat) b
def TF (a:TA):TI:=λZ H R=>a Z H λvs b=>∃i j:Int,vs=[.int i,.int j]/\(-(2^62)<=i/\i<2^62 /\ -(2^62)<=j/\j<2^62)/\R (HP i (j - i).toNat) b
theorem zJ (o:Gl X "range") (g:X.mg "range"=ag) (n:PA X [a] f) (u:aE [a] X.env=[(am,bP a X.env)]:=by rfl):PI X tg (.Call (.Name "range" p) [a] [] c) (Tz f):=by
 intro b s Z H R I h;refine Call_ (gY I o g boot_range (Za (wx (n c b s Z H _ I h) λus v ⟨vs,w,m,k,d⟩=>?_) u rfl));obtain⟨j,e,d,i,q⟩:=d;subst e;cases k with
 |cons r l =>
 cases l;obtain⟨t,rfl⟩:=r;exact call_range_1 (rK m uS uS d i (by simpa using q))
theorem zK {p f:mi} (y:Gl X "range") (o:X.mg "range"=ag) (m:PA X [a,b] l) (z:aE [a,b] X.env=[(am,bP a X.env),(am,bP b X.env)]:=by rfl) (c:aE [b] X.env=[(am,bP b X.env)]:=by rfl):
  PI X tg (.Call (.Name "range" p) [a,b] [] f) (TF l):=by
 intro d s Z H R I h;refine Call_ (gY I y o boot_range (Za (wx (m f d s Z H _ I h) λus B ⟨vs,C,w,x,g⟩=>?_) (by rw[z,c]) (by rw[c];rfl)));obtain⟨i,j,e,⟨g,v,n,A⟩,q⟩:=g;subst e;cases x with
 |cons r k =>
 cases k with
 |cons u k =>
 cases k;obtain⟨t,rfl⟩:=r;obtain⟨t',rfl⟩:=u;exact call_range_2 (rK w g v n A q)
def Xo (j:TI) (g:TG) (h:TS):TS:=λD Z H=>j Z H λJ f=>∃W:Nat->Nat->St->Hp->Prop,(∃m,W 0 m Z f)/\∀i m Z H,W i m Z H ->
 (J.stop i H/\D.nx Z H)\/(J.go i H/\∃N:St->Hp->Prop,(∀b a,N b a->∃c,c<m/\W (i+1) c b a)/\∀x a,J.yld i H x a->g x Z a λe d=>h { D with nx:=N,ct:=N,bk:=D.nx} e d)
def lZ (a : List af) (h : ci) : List (af × dQ):=a.filterMap λb => (h.get? b).map λo => (b,o)
theorem gZ (c : b ∈ a) (e : h.get? b = ab o): (b,o) ∈ lZ a h:=List.mem_filterMap.mpr ⟨b,c,by rw [e]; rfl⟩
theorem zL (d:p∈lZ a h):p.1∈a/\h.get? p.1=ab p.2:=by
 obtain ⟨b,f,e⟩:=List.mem_filterMap.mp d;cases q : h.get? b with
 |none=>rw[q] at e;cases e
 |some o =>
 rw[q] at e;have c:(b,o)=p:=P_ e;subst c;exact⟨f,q⟩
theorem Inv.pinned {Z:St} (I:Inv X a Z H s) (j:∀b∈c,lY X a H b) (k:∀b∈c,∃o,s.heap.get? b=ab o/\∀v,o.data≠.cell v):Inv X (a++lZ c s.heap) Z H s :=
 I.pins_of λp h=>(q_.mp h).elim (λz=>I.pin p (X_ _ z)) λz=>by
  obtain⟨g,e⟩:=zL z;obtain⟨i,m,l,_⟩:=j p.1 g;obtain⟨o,f,d⟩:=k p.1 g;rw[e] at f;cases f;exact⟨e,i,m,l,d⟩
theorem Inv.unpinned {Z:St} (I:Inv X (a++pl) Z H s):Inv X a Z H s:=I.pins_of λp b=>I.pin p (X_ _ (YC _ b))
theorem Ot {V:mi} (L:o2 (aT X.prog X.w) X.A X.env X.xe) (hc:X.calm=ai) (hi:PI X tg t wi) (hg:PG X tg g) (j:AQ X z tb) (hs:∀x,df t X.env x=ce x:=by intro _;rfl):PS X (.For tg t z [] V) (Xo wi g tb):=by
 intro a s Z H D I h;refine wpAny_For (wx (hi a s Z H _ I h) λv s1 h1=>wx h1 λitv s2 h2=>?_) hs;obtain⟨it,Q,tn,J,H2,e,I2,T,Y,f2,W,⟨m0,w0⟩,K⟩:=h2;subst e
 have k:∀{y:Hp},(∀b∈Q,y b=ag)->∀b∈Q,lY X a y b:=λhn b j=>⟨hn b j,(f2 b j).2⟩;refine codeAny_forLoop_any (λn s'=>∃i M y,Inv X a M y s'/\tn i s'.heap/\(∀b∈Q,y b=ag)/\W i n M y) ?_ m0 ⟨0,Z,H2,I2,Y,λb j=>(f2 b j).1,w0⟩;rintro n s3 ⟨i,F,H3,I3,E,R,w3⟩;rcases K i n F H3 w3 with ⟨P,qn⟩ | ⟨go,N,hN,G⟩
 .refine FF L (wx (T.done X rfl rfl rfl hc i a s3 F H3 X.xe I3 (k R) E P) λr s4 ⟨hr,I4⟩=>?_);subst hr;exact fh ⟨F,H3,I4,qn⟩
 refine FF L (wx (T.item X rfl rfl rfl hc i a s3 F H3 X.xe I3 (k R) E go) λr s4 ⟨u,hr,h4⟩=>?_);subst hr;refine FF L (wx h4 λ_ s5 ⟨x,H5,I5,r5,y5,C,fr5⟩=>?_);have U:=I5.pinned (k fr5) (T.obj _ _ C);refine FF L (wx (hg _ s5 F H5 x u _ U r5 (G x H5 y5)) λ_ s6 ⟨Z6,H6,I6,q6⟩=>?_);refine FF L (wx (j _ s6 Z6 H6 _ I6 q6) λf S B=>?_);have q:∀{p:St} {l:Hp},Inv X (a++lZ Q s5.heap) p l S->N p l->∃m,m<n/\∃i M y,Inv X a M y S/\tn i S.heap/\(∀b∈Q,y b=ag)/\W i m M y:=λ{p l} c O=>by obtain⟨m',hm,w7⟩:=hN p l O;refine⟨m',hm,i+1,p,l,c.unpinned,T.keep _ _ _ C λb j o e=>(c.pin (b,o) (X_ _ (X_ _ (gZ j e)))).1,λb j=>?_,w7⟩;obtain⟨o,e,d⟩:=T.obj _ _ C b j;exact (c.pin (b,o) (X_ _ (X_ _ (gZ j e)))).2.1
 cases f with
 |next=>obtain⟨p,l,c,O⟩:=B;exact q c O
 |cont=>obtain⟨p,l,c,O⟩:=B;exact q c O
 |brk=>obtain⟨p,l,c,B⟩:=B;exact⟨p,l,c.unpinned,B⟩
 |ret v=>obtain⟨x7,p,l,c,r7,B⟩:=B;exact⟨x7,p,l,c.unpinned,r7,B⟩
end
abbrev R2:=V->V->Hp->VK->Prop
def xB (X:Cx) (f:aw->aw->Sem aw) (r:R2):Prop :=
 ∀(a:List (af × dQ)) (s:aI) (Z:St) (H:Hp) (x y:V) (v u:aw) (Q:VK),Inv X a Z H s->wl x v->wl y u->r x y H Q ->
  ay (aT X.prog X.w) X.A (f v u) (EP X a Z Q) X.xe s
def M1 (X:Cx) (f:aw->Sem aw) (r:V->Hp->VK->Prop):Prop :=
 ∀(a:List (af × dQ)) (s:aI) (Z:St) (H:Hp) (x:V) (v:aw) (Q:VK),Inv X a Z H s->wl x v->r x H Q ->
  ay (aT X.prog X.w) X.A (f v) (EP X a Z Q) X.xe s
def AR (X:Cx) (f:aw) (r:List V->Hp->VK->Prop):Prop :=
 ∀(a:List (af × dQ)) (s:aI) (Z:St) (H:Hp) (xs:List V) (us:List aw) (Q:VK),Inv X a Z H s->wf xs us->r xs H Q ->
  ay (aT X.prog X.w) X.A (jS f us) (EP X a Z Q) X.xe s
def HU (r:R2) (d a:TE):TE:=λZ H Q=>d Z H λx c=>a Z c λy b=>r x y b Q
def OU (r:V->Hp->VK->Prop) (a:TE):TE:=λZ H Q=>a Z H λx b=>r x b Q
def rI (C:Int->Int->Prop) (g:Int->Int->V):R2:=λx y H Q=>∃i j,x=.int i/\y=.int j/\C i j/\Q (g i j) H
def C9 (g:Int->Int->V):R2:=λx y H Q=>∃i j,x=.int i/\y=.int j/\Q (g i j) H
def rU (g:Int->V):V->Hp->VK->Prop:=λx H Q=>∃i,x=.int i/\Q (g i) H
section
variable {X:Cx}{a b c:Expr}
theorem Ou (t:PE X a ta) (q:PE X b tb) {c:List (af × dQ)}{Z:St}{R:V->V->Hp->Prop} (I:Inv X c Z H s) (h:ta Z H λx j=>tb Z j λy d=>R x y d) {f:aw->aw->Sem aw} (p:∀v u i x y d,Inv X c Z d i->wl x v->wl y u->R x y d->ay (aT X.prog X.w) X.A (f v u) Q X.xe i):
  ay (aT X.prog X.w) X.A (bP a X.env) (λv e=>ay (aT X.prog X.w) X.A (bP b X.env) (λu g=>ay (aT X.prog X.w) X.A (f v u) Q X.xe g) X.xe e) X.xe s:=by
 refine wx (t c s Z H _ I h) λv m ⟨x,j,r,o,n⟩=>?_;refine wx (q c m Z j _ r n) λu i ⟨y,d,z,k,l⟩=>?_;exact p v u i x y d z o k l
theorem TJ (e:xB X (bt op) r) (k:PE X a ta) (i:PE X b tb):PE X (.BinOp a op b P9) (HU r ta tb):=by
 intro c s Z H Q I h;exact wpAny_BinOp (Ou k i I h λv u j x y d l f g q=>e c j Z d x y v u Q l f g q)
theorem TQ (g:M1 X (unaryOp op) r) (c:PE X a ta):PE X (.UnaryOp op a P9) (OU r ta):=by
 intro b s Z H Q I h;exact UnaryOp_ (wx (c b s Z H _ I h) λv d ⟨x,f,i,j,e⟩=>g b d Z f x v Q i j e)
theorem IJ {g:Int->Int->Int} (a:∀(i j:Int) (t u:tT) (s:aI) (Q:aw->aI->Prop) (E:aw->aI->Prop),C i j->Q (.int (g i j) s.toks) { s with toks:=s.toks+1}->ay (aT X.prog X.w) X.A (f (.int i t) (.int j u)) Q E s):
  xB X f (rI C λi j=>.int (g i j)):=by
 intro b s Z H x y v u Q I d e h;obtain⟨i,j,rfl,rfl,c,q⟩:=h;obtain⟨t,rfl⟩:=d;obtain⟨t',rfl⟩:=e;exact a i j t t' s _ _ c ⟨.int (g i j),H,I.tok _,⟨_,rfl⟩,q⟩
theorem HD {g:Int->Int->Int} (a:∀(i j:Int) (t u:tT) (s:aI) (Q:aw->aI->Prop) (E:aw->aI->Prop),Q (.int (g i j) s.toks) { s with toks:=s.toks+1}->ay (aT X.prog X.w) X.A (f (.int i t) (.int j u)) Q E s):
  xB X f (C9 λi j=>.int (g i j)):=by
 intro b s Z H x y v u Q I d c h;obtain⟨i,j,rfl,rfl,q⟩:=h;obtain⟨t,rfl⟩:=d;obtain⟨t',rfl⟩:=c;exact a i j t t' s _ _ ⟨.int (g i j),H,I.tok _,⟨_,rfl⟩,q⟩
theorem HF {g:Int->Int->Bool} (a:∀(i j:Int) (t u:tT) (s:aI) (Q:aw->aI->Prop) (E:aw->aI->Prop),Q (.bool (g i j)) s->ay (aT X.prog X.w) X.A (f (.int i t) (.int j u)) Q E s):
  xB X f (C9 λi j=>.bl (g i j)):=by
 intro b s Z H x y v u Q I d c h;obtain⟨i,j,rfl,rfl,q⟩:=h;obtain⟨t,rfl⟩:=d;obtain⟨t',rfl⟩:=c;exact a i j t t' s _ _ ⟨.bl (g i j),H,I,rfl,q⟩
def HH (i j:Int):Prop:=0<=j/\j<=1000000/\i.natAbs<2^64
def EV (i j:Int):Prop:=(-(2^64)<i/\i<2^64)\/(-(2^64)<j/\j<2^64)
theorem EV.ok (h:EV i j):IntMulOk i j:=by
 rcases h with ⟨b,a⟩ | ⟨b,a⟩
 .exact .of_left (sK b a)
 exact .of_right (sK b a)
theorem OO:xB X (bt .Add) (C9 λi j=>.int (i+j)):=HD λ_ _ _ _ _ _ _ q=>add_int q
theorem Ov:xB X (bt .Sub) (C9 λi j=>.int (i - j)):=HD λ_ _ _ _ _ _ _ q=>sub_int q
theorem Ow:xB X (bt .Mult) (rI EV λi j=>.int (i*j)):=IJ λ_ _ _ _ _ _ _ a q=>mul_int q a.ok
theorem Ox:xB X (bt .Mod) (rI (λ_ j=>0<j) λi j=>.int (i%j)):=IJ λi j _ _ _ _ _ a q=>by
 have b:(0:Int)<j:=a;exact mod_int' uS (by rw[Int.fmod_eq_emod_of_nonneg i uS];exact q)
theorem Oz:xB X (bt .Pow) (rI HH λi j=>.int (i^j.toNat)):=IJ λ_ _ _ _ _ _ _ a q=>pow_int_small a.1 a.2.1 a.2.2 q
theorem OD:xB X (bt .LShift) (rI HH λi j=>.int (i*2^j.toNat)):=IJ λ_ _ _ _ _ _ _ a q=>lshift_int_small a.1 a.2.1 a.2.2 q
theorem OJ:xB X (bt .BitAnd) (C9 λi j=>.int (a3 i j)):=HD λ_ _ _ _ _ _ _ q=>and_int q
theorem TV:xB X (bt .BitOr) (C9 λi j=>.int (cr i j)):=HD λ_ _ _ _ _ _ _ q=>or_int q
theorem OZ {g:Int->Int} (a:∀(i:Int) (t:tT) (s:aI) (Q:aw->aI->Prop) (E:aw->aI->Prop),Q (.int (g i) s.toks) { s with toks:=s.toks+1}->ay (aT X.prog X.w) X.A (f (.int i t)) Q E s):
  M1 X f (rU λi=>.int (g i)):=by
 intro b s Z H x v Q I c h;obtain⟨i,rfl,q⟩:=h;obtain⟨t,rfl⟩:=c;exact a i t s _ _ ⟨.int (g i),H,I.tok _,⟨_,rfl⟩,q⟩
theorem O1:M1 X (unaryOp .USub) (rU λi=>.int (-i)):=OZ λ_ _ _ _ _ q=>neg_int q
end
def mj:V->V->Bool
 |.non,.non=>ai | .non,.int _=>ai | .int _,.non=>ai | .non,.bl _=>ai | .bl _,.non=>ai | .non,.str _=>ai | .str _,.non=>ai
 |.int _,.int _=>ai | .bl _,.bl _=>ai | .str _,.str _=>ai | .byt _,.byt _=>ai
 |.int _,.str _=>ai | .str _,.int _=>ai | .bl _,.str _=>ai | .str _,.bl _=>ai
 |_,_=>am
section
variable {X:Cx}{a b c:Expr}
theorem Bq {a:List (af × dQ)}{Z:St}{k b:Bool} (I:Inv X a Z H s) (q:Q (.bl k) H) (e:k=b):EP X a Z Q (.bool b) s:=by
 subst e;exact⟨.bl k,H,I,rfl,q⟩
theorem TX:xB X (a9 .Lt) (C9 λi j=>.bl (decide (i<j))):=HF λ_ _ _ _ _ _ _ q=>lt_int q
theorem TY:xB X (a9 .LtE) (C9 λi j=>.bl (decide (i<=j))):=HF λ_ _ _ _ _ _ _ q=>le_int q
theorem T3:xB X (a9 .Gt) (C9 λi j=>.bl (decide (j<i))):=HF λ_ _ _ _ _ _ _ q=>gt_int q
theorem T4:xB X (a9 .GtE) (C9 λi j=>.bl (decide (j<=i))):=HF λ_ _ _ _ _ _ _ q=>ge_int q
theorem zM:xB X (a9 .In) (λx y H Q=>∃i j,x=.str i/\y=.str j/\Q (.bl (!(bg j i 0 j.length 1).isEmpty)) H):=by
 intro a s Z H x y v u Q I c b h;obtain⟨i,j,rfl,rfl,q⟩:=h;obtain⟨t,rfl⟩:=c;obtain⟨t',rfl⟩:=b;exact in_str (Bq I q rfl)
theorem p7:xB X (a9 .NotIn) (λx y H Q=>∃i j,x=.str i/\y=.str j/\Q (.bl (!(!(bg j i 0 j.length 1).isEmpty))) H):=by
 intro a s Z H x y v u Q I c b h;obtain⟨i,j,rfl,rfl,q⟩:=h;obtain⟨t,rfl⟩:=c;obtain⟨t',rfl⟩:=b;exact notIn_str (Bq I q rfl)
theorem xB.or (h:xB X f r) (h':xB X f d):xB X f (λx y H Q=>r x y H Q\/d x y H Q):=by
 intro a s Z H x y v u Q I c b q;rcases q with q | q
 .exact h a s Z H x y v u Q I c b q
 exact h' a s Z H x y v u Q I c b q
theorem Br (b:Expr) (h:op≠.In:=by decide) (d:op≠.NotIn:=by decide):b9 op b=am:=by
 have c:(op==CmpOp.In)=am:=by cases op <;> first | rfl | exact wT rfl h
 have a:(op==CmpOp.NotIn)=am:=by cases op <;> first | rfl | exact wT rfl d
 cases b <;> simp [b9,c,a]
theorem HJ (f:xB X (a9 op) r) (l:PE X a ta) (j:PE X b tb) (e:b9 op b=am):PE X (.Compare a [op] [b] P9) (HU r ta tb):=by
 intro c s Z H Q I h;exact ri (Ou l j I h λv u k x y d m g i q=>f c k Z d x y v u Q m g i q) e
def Ld (t:TE):TT:=λZ H Q=>t Z H λx a=>∃k,x=.bl k/\Q k a
theorem HN (l:xB X (a9 op) r) (g:PE X a ta) (i:PE X b tb) (p:b9 op b=am):PT X (.Compare a [op] [b] P9) (Ld (HU r ta tb)):=by
 intro d s Z H Q I h;refine kC (wx (g d s Z H _ I h) λv q ⟨x,j,n,E,t⟩=>wx (i d q Z j _ n t) λu w ⟨y,o,A,f,C⟩ =>
  wx (l d w Z o x y v u _ A E f C) λc F ⟨z,H3,m,D,k,e,B⟩=>?_) p
 subst e;cases D;exact Zg ⟨H3,m,B⟩
def Bs (r b:R2) (h g c:TE):TE:=λZ H Q=>h Z H λx d=>g Z d λy a=>r x y a λz H3=>∃k,z=.bl k /\
 (if k=ai then c Z H3 λf e=>b y f e Q else Q (.bl am) H3)
theorem Bt (F:xB X (a9 op) r) (i:xB X (a9 g) m) (ha:PE X a ta) (w:PE X b tb) (o:PE X c tc) (M:lastMarks [op,g] [b,c]=am:=by with_unfolding_all rfl):PT X (.Compare a [op,g] [b,c] P9) (Ld (Bs r m ta tb tc)):=by
 intro f s Z H Q I h;refine isTrue_chain (wx (ha f s Z H _ I h) λv N ⟨x,E,J,Y,O⟩=>test_link (wx (w f N Z E _ J O) λu S ⟨y,L,T,j,W⟩ =>
  wx (F f S Z L x y v u _ T Y j W) λd P ⟨z,H3,l,r3,k,e,n⟩=>?_)) M
 subst e;cases r3;refine Zg ?_;cases k with
 |false=>obtain⟨k',p,q⟩:=n;cases p;exact ite_ff ⟨H3,l,q⟩
 |true =>
 refine ite_tt (test_last (wx (o f P Z H3 _ l n) λG V ⟨t,H4,B,U,C⟩=>wx (i f V Z H4 y t u G _ B j U C) λd' s5 ⟨z2,A,R,r5,k2,D,K⟩=>?_));subst D;cases r5;exact Zg ⟨A,R,K⟩
theorem j7:(av:Nat)<2^63:=by rw[Fk];decide
theorem PF:xB X (bt .Add) (λx y H Q=>∃i j,x=.str i/\y=.str j/\i.length+j.length<=av/\Q (.str (i++j)) H):=by
 intro a s Z H x y v u Q I d c h;obtain⟨i,j,rfl,rfl,b,q⟩:=h;obtain⟨t,rfl⟩:=d;obtain⟨t',rfl⟩:=c;exact add_str (λt' tk=>⟨.str (i++j),H,I.tok _,⟨_,rfl⟩,q⟩) b
theorem xz (r:wf [x] us):∃u,us=[u]/\wl x u:=by
 cases r with
 |cons b a=>cases a;exact⟨_,rfl,b⟩
theorem Dx (r:wf [x,y] us):∃u a,us=[u,a]/\wl x u/\wl y a:=by
 cases r with
 |cons e b =>
 cases b with
 |cons d c=>cases c;exact⟨_,_,rfl,e,d⟩
theorem zN:AR X (.type "int") (λxs H Q=>(∃i,xs=[.int i]/\Q (.int i) H)\/∃k,xs=[.bl k]/\Q (.int (if k then 1 else 0)) H):=by
 intro a s Z H xs us Q I r h;rcases h with ⟨i,rfl,q⟩ | ⟨k,rfl,q⟩
 .obtain⟨u,rfl,t,rfl⟩:=xz r;exact call_int_int ⟨.int i,H,I,⟨_,rfl⟩,q⟩
 obtain⟨u,rfl,b⟩:=xz r;cases b;exact call_int_bool ⟨.int (if k then 1 else 0),H,I.tok _,⟨_,rfl⟩,q⟩
end
structure Fs (h:ci) (x dx C:af) (mA:ap->Option aw):Prop where
 obj:h.get? x=ab (im C dx)
 ns:h.Ns1 dx mA
 ne:dx≠x
theorem zO {h:ci} (n:h.Ns1 c f):∃d,h.get? c=ab d/\∀name,tq name d=ab (f name):=by
 obtain⟨o,g,ep,l,p,m,_,k⟩:=n;refine⟨o,l,λname=>?_⟩;have e:=k name;unfold nsFind findBy at e;rw[<- Array.find?_toList] at e;unfold tq;rw[p];dsimp only;split
 .rename_i y q;rw[q] at e;exact YB ab e
 rename_i q;rw[q] at e;have a:g.toList.any (·.refKey)=am:=by rw[oa];intro y i;obtain⟨z,t,b⟩:=m y (Array.mem_toList_iff.mp i);simp [DictEntry.refKey,b]
 have j:¬g.toList.any (·.refKey)=ai:=by rw[a];exact K_
 rw[wc j];exact YB ab e
theorem Fs.look (I:Fs h x c C b):∃a,InstAt h x (im C c) C (ab a)/\∀name,tq name a=ab (b name) :=
 let ⟨a,ho,hl⟩:=zO I.ns
 ⟨a,⟨I.obj,rfl,rfl,ho⟩,hl⟩
section
variable {s:aI}{K:a6}
theorem HQ (X:K.In s.heap) (I:Fs s.heap x dx C mA) (g:nE K C name=ai) (e:oQ K C=ai) (f:gI K (.ref C) name=ab ag) (c:mA name=ab v) (b:tI v=ai) (h:Q v { s with toks:=s.toks+1}):
  ay (aT prog w) A (getAttr (.ref x) name a) Q E s:=by
 obtain⟨i,J,d⟩:=I.look;exact PySem.W.get_value X J (kN g).1 (PySem.W.findObj_own e f rfl (by rw[d,c])) b h
theorem Bu (X:K.In s.heap) (I:Fs s.heap x dx C mA) (a:nE K C name=ai) (e:gI K (.ref C) name=ab (ab (.ref f))) (b:isFn K (.ref f)=ai) (c:mA name=ag) (h:Q (.ref f,[.ref x]) s):
  ay (aT prog w) A (oS (.ref x) name pl) Q E s:=by
 obtain⟨d,J,g⟩:=I.look;exact PySem.W.method_fn X J (kN a).1 (kN a).2 e (CY.mp b) (by show (tq name d).map (·.isSome)=ab am;rw[g,c];rfl) h
theorem HR (X:K.In s.heap) (I:Fs s.heap x dx C mA) (o:gI K (.ref C) "__setattr__"=ab (ab (.builtin "object.__setattr__"))) (k:sR K C=ai) (j:s_ K C name=ab ag) (n:oQ K C=ai) (t:j2 mA ns) (hsz:ns.length<=av) (h:∀h',Fs h' x dx C (λy=>if y=name then ab v else mA y)->cE dx s.heap h'->Q () { s with heap:=h',toks:=s.toks+2}):
  ay (aT prog w) A (setAttr (.ref x) name v) Q E s:=by
 obtain⟨u,J,z⟩:=I.look;refine PySem.W.set_plain X J o (PySem.W.osa_open (s:={ s with toks:=s.toks+1}) (r:=ag) X J k j λb=>?_);obtain⟨B,m,i⟩:=PySem.W.any_some n;have l:s.heap.get? x=ab ⟨.ref C,ab dx,.plain,#[]⟩:=I.obj;refine a_ (l_ (a_ (a_ (wpAny_loadPart l (a_ (PySem.W.Looks.here (s:={ s with toks:=s.toks+1}) (PySem.W.looks_clsIn X m) ?_))))));rw[i];refine l_ (a:=ab dx) (a_ (l_ (a_ ?_)));refine wpAny_nsSet1 (s:={ s with toks:=s.toks+1}) I.ns λh' d c=>?_;obtain⟨oD,p,q,e,g,f⟩:=d.count (PySem.Within.cons name v t);refine a_ (wpAny_lookBehind e (by rw[g];exact pastItsLine_dict (R_ f (by rw[n_];omega))) ?_);exact l_ (h _ ⟨(c.2 _ (a7 I.ne)).trans I.obj,d,I.ne⟩ c)
theorem Bv (X:K.In s.heap) (c:makesIn K C=ai) (i:gI K (.ref C) "__init__"=ab (ab (.ref f))) (e:typeIn K (.ref f)=ab (.type "function")) (h:eJ (aT prog w) (A.under (.builtin "type.__call__" ⟨.ref C::vs,b⟩)) (.call (.ref f) ⟨.ref (s.heap.objs.size+1)::vs,b⟩) (PySem.W.InitBack (s.heap.objs.size+1) R)
   { s with heap:=(s.heap.push d5).push (im C s.heap.objs.size)}):
  eJ (aT prog w) A (.call (.ref C) ⟨vs,b⟩) R s:=by
 obtain⟨j,g,d,t,os⟩:=s;exact PySem.W.make_core (PySem.W.makes_of X c) (PySem.W.looks_findIn X i) (λa=>PySem.W.bind_fn X a e) (.inl rfl) h
end
def ie (f:ap) (v:V):List (ap × V)->List (ap × V)
 |[]=>[(f,v)]
 | (g,x)::r=>if g=f then (g,v)::r else (g,x)::ie f v r
theorem lq (f g:ap) (v:V):∀c:List (ap × V),(ie f v c).lookup g=if g=f then ab v else c.lookup g
 |[]=>by
  show d3 g [(f,v)]=_
  by_cases h:g=f
  ·
   have a:(g==f)=ai:=CY.mpr h
   simp only[d3,a,we h]
  ·
   have a:(g==f)=am:=Y6.mpr h
   simp only[d3,a,wc h]
 | (k,x)::r=>by
  have d:=lq f g v r
  rw[show ie f v ((k,x)::r)=(if k=f then (k,v)::r else (k,x)::ie f v r) from rfl]
  by_cases b:k=f
  ·
   rw[we b]
   by_cases h:g=k
   ·
    have a:(g==k)=ai:=CY.mpr h
    simp only[d3,a,we (h.trans b)]
   ·
    have a:(g==k)=am:=Y6.mpr h
    simp only[d3,a,wc (λe:g=f=>h (e.trans b.symm))]
  ·
   rw[wc b]
   by_cases h:g=k
   ·
    have a:(g==k)=ai:=CY.mpr h
    simp only[d3,a,wc (λe:g=f=>b (h.symm.trans e))]
   ·
    have a:(g==k)=am:=Y6.mpr h
    simp only[d3,a]
    exact d
theorem j8 (f:ap) (v:V):∀b:List (ap × V),f∈(ie f v b).map (·.1)/\∀g,g∈b.map (·.1)->g∈(ie f v b).map (·.1)
 |[]=>⟨by simp [ie],λg h=>by simp at h⟩
 | (k,x)::r=>by
  obtain⟨d,c⟩:=j8 f v r
  rw[show ie f v ((k,x)::r)=(if k=f then (k,v)::r else (k,x)::ie f v r) from rfl]
  by_cases a:k=f
  ·
   rw[we a]
   subst a
   exact⟨wn,λg h=>by simpa using h⟩
  ·
   rw[wc a]
   refine⟨?_,λg h=>?_⟩
   ·
    rw[J_]
    exact z_ _ d
   ·
    rw[J_] at h |-
    rcases y_.mp h with e | e
    ·
     exact y_.mpr (.inl e)
    ·
     exact z_ _ (c g e)
theorem lr (f:ap) (v:V):∀b:List (ap × V),(ie f v b).length<=b.length+1
 |[]=>by simp [ie]
 | (k,x)::r=>by
  have c:=lr f v r
  rw[show ie f v ((k,x)::r)=(if k=f then (k,v)::r else (k,x)::ie f v r) from rfl]
  by_cases a:k=f
  ·
   rw[we a,n_,n_];omega
  ·
   rw[wc a,n_,n_];omega
theorem AV.some_of (r:AV (ab v) o):∃u,o=ab u/\wl v u:=by
 cases o with
 |none=>exact (show False from r).elim
 |some u=>exact⟨u,rfl,r⟩
theorem AV.none_of (r:AV ag o):o=ag:=by
 cases o with
 |none=>rfl
 |some u=>exact (show False from r).elim
theorem zP (r:wl v u):tI u=ai:=by
 cases v with
 |non=>cases (show u=bE from r);rfl
 |bl b=>cases (show u=c8 b from r);rfl
 |int i=>obtain⟨t,e⟩:=(show ∃t,u=de i t from r);cases e;rfl
 |str x=>obtain⟨t,e⟩:=(show ∃t,u=lS x t from r);cases e;rfl
 |byt b=>obtain⟨t,e⟩:=(show ∃t,u=Value.bytes b t from r);cases e;rfl
 |flt b=>obtain⟨t,e⟩:=(show ∃t,u=qh b t from r);cases e;rfl
 |ref a=>cases (show u=a4 a from r);rfl
 |ty n=>cases (show u=ev n from r);rfl
section
variable {P:br}{w:bb}
theorem lM (c:yT P w H h) (e:H a=ab (.ins C dx fs)):∃b,Fs h a dx C b/\(∀f,AV (fs.lookup f) (b f))/\j2 b (fs.map (·.1))/\fs.length<=1000/\H dx=ab (.own a):=by
 obtain⟨d,z,i,g,b,n,r,q⟩:=(show y4 P w H h a (.ins C dx fs) from c a _ e);exact⟨b,⟨g,n,i⟩,r,q,z,d⟩
end
structure CC (K:a6) (C:af):Prop where
 pg:nE K C Str.empty=ai
 hd:oQ K C=ai
 po:sR K C=ai
 sa:gI K (.ref C) "__setattr__"=ab (ab (.builtin "object.__setattr__"))
theorem CC.get {K:a6} (c:CC K C) (f:ap):nE K C f=ai:=c.pg
def E6 (K:a6) (C:af) (f:ap):Prop:=gI K (.ref C) f=ab ag
theorem E6.taker {K:a6} (n:E6 K C f):s_ K C f=ab ag:=by
 unfold s_;rw[show gI K (.ref C) f=ab ag from n];rfl
structure D5 (K:a6) (C:af) (m:ap) (f:af):Prop where
 at_:gI K (.ref C) m=ab (ab (.ref f))
 fn:isFn K (.ref f)=ai
 kp:jv K (.ref f)=ai
section
variable {X:Cx}{P8:List (af × dQ)}{Z:St}
theorem vh (I:Inv X P8 Z H s) (e:H a=ab (.ins C dx fs)) (c:CC X.K C) (n:E6 X.K C f) (l:fs.lookup f=ab v) (h:∀u s',Inv X P8 Z H s'->wl v u->Q u s'):ay (aT X.prog X.w) A (getAttr (.ref a) f b) Q E s:=by
 obtain⟨i,O,r,_,_,_⟩:=lM I.hok e;obtain⟨u,g,d⟩:=AV.some_of (v:=v) (o:=i f) (by rw[<- l];exact r f);exact HQ I.kIn O (c.get f) c.hd n g (zP d) (h u _ (I.tok _) d)
theorem vm (I:Inv X P8 Z H s) (e:H a=ab (.ins C dx fs)) (c:CC X.K C) (k:D5 X.K C m g) (l:fs.lookup m=ag) (h:Q (.ref g,[.ref a]) s):ay (aT X.prog X.w) A (oS (.ref a) m pl) Q E s:=by
 obtain⟨d,O,r,_,_,_⟩:=lM I.hok e;have b:d m=ag:=AV.none_of (by rw[<- l];exact r m);exact Bu I.kIn O (c.get m) k.at_ k.fn b h
theorem vo (I:Inv X P8 Z H s) (e:H a=ab (.ins C dx fs)) (c:CC X.K C) (n:E6 X.K C f) (B:fs.length<1000) (p:wl y u) (h:∀s',Inv X P8 Z (wS H a (.ins C dx (ie f y fs))) s'->Q () s'):ay (aT X.prog X.w) A (setAttr (.ref a) f u) Q E s:=by
 obtain⟨i,O,r,j,_,d⟩:=lM I.hok e;have l:(fs.map (·.1)).length<=av:=by rw[g_,Fk];omega
 refine HR I.kIn O c.sa c.po n.taker c.hd j l λh' O' k=>h _ ?_;have v:∃o,h'.get? dx=ab o:=let ⟨o,_,_,e',_⟩:=O'.ns;⟨o,e'⟩;refine I.write (x:=a) (e:=dx) (by rw[e];exact cx) (.inr d) (λb q t z=>(k.2 b t).trans z) v ?_;refine⟨by rw[bz O.ne];exact d,?_,O.ne,O'.obj,_,O'.ns,λg=>?_,λg m=>?_⟩
 .have:=lr f y fs;omega
 .show AV ((ie f y fs).lookup g) (if g=f then ab u else i g);rw[lq];by_cases q:g=f
  .rw[we q,we q];exact p
  rw[wc q,wc q];exact r g
 by_cases q:g=f
 .rw[q];exact (j8 f y fs).1
 refine (j8 f y fs).2 g (j g λz=>m ?_);show (if g=f then ab u else i g)=ag;rw[wc q];exact z
theorem Inv.made (I:Inv X P8 Z H s):Inv X P8 Z (wS (wS H s.heap.objs.size (.own (s.heap.objs.size+1))) (s.heap.objs.size+1) (.ins C s.heap.objs.size []))
  { s with heap:=(s.heap.push d5).push (im C s.heap.objs.size)}:=by
 have d:(s.heap.push d5).get? s.heap.objs.size=ab d5:=E_ s.heap rfl;have g:((s.heap.push d5).push (im C s.heap.objs.size)).get? (s.heap.objs.size+1)=ab (im C s.heap.objs.size):=by
  have:=E_ (s.heap.push d5) (o:=im C s.heap.objs.size) rfl
  rwa [EX] at this
 have i:(s.heap.push d5).Ns s.heap.objs.size (λ_=>ag):=⟨d5,#[],_,d,rfl,(λe h=>wT h wn),λ_=>rfl⟩;have j:=I.laid (a:=s.heap.objs.size) (o:=.own (s.heap.objs.size+1)) (h':=s.heap.push d5) (t':=s.toks) (λb u q=>e_ _ q) (u_ _) ⟨_,d⟩;refine j.laid (a:=s.heap.objs.size+1) (o:=.ins C s.heap.objs.size []) (t':=s.toks) (λb u q=>e_ _ q) (FX (EX _ _)) ?_;have c:s.heap.objs.size≠s.heap.objs.size+1:=L_ (ZD _);refine⟨by rw[bz c,cI],Y5 _,c,g,λ_=>ag,(Heap.Ns1.of_empty i).at λo q=>e_ _ q,λ_=>cx,λy f=>wT rfl f⟩
theorem HS {a:mi} (b:dP e f env (bP e env)=bP e env) (h:ay (aT prog w) A (bP e env) (λo s₁=>ay (aT prog w) A (getAttr o f ai) Q E s₁) E s):ay (aT prog w) A (bP (.Attribute e f a) env) Q E s :=
 Attribute_any_ h (by rw[arm_eval_Attribute,b])
end
def Xp (K:a6) (d:TE) (f:ap):TE:=λZ H Q=>d Z H λx b=>∃a C e c v,x=.ref a/\b a=ab (.ins C e c)/\CC K C/\E6 K C f/\c.lookup f=ab v/\Q v b
def Xq (K:a6) (h e:TE) (f:ap):TS:=λD Z H=>e Z H λy g=>h Z g λx c=>∃a C d b,x=.ref a/\c a=ab (.ins C d b)/\CC K C/\E6 K C f/\b.length<1000 /\
 D.nx Z (wS c a (.ins C d (ie f y b)))
section
variable {X:Cx}{o e value:Expr}
theorem O2 (j:PE X e ta) (o:dP e f X.env (bP e X.env)=bP e X.env):PE X (.Attribute e f P9) (Xp X.K ta f):=by
 intro b s Z H Q I h;refine HS o (wx (j b s Z H _ I h) λu t ⟨x,g,k,i,a,C,w,A,v,m,d,c,n,l,q⟩=>?_);subst m;obtain rfl:u=a4 a:=i;exact vh k d c n l λy z r p=>⟨v,g,r,p,q⟩
theorem O4 (A:PE X o ta) (w:PE X value tv) (v:dL value (ab (.Attribute o f QA)) P9.line X.env=ce am):PS X (.Assign [.Attribute o f QA] value P9) (Xq X.K ta tv f):=by
 intro b s Z H D I h;refine plainObj_wpAny_Assign_Attribute (wx (w b s Z H _ I h) λu p ⟨y,i,m,e,q⟩=>wx (A b p Z i _ m q) λr G ⟨x,E,t,j,a,C,J,B,d,g,c,n,l,z⟩=>?_) v;subst d;obtain rfl:r=a4 a:=j;exact vo t g c n l e λF k=>⟨Z,_,k,z⟩
variable {P8:List (af × dQ)}{Z:St}
inductive CF (K:a6) (H:Hp):V->aw->Prop where
 |non:CF K H .non (.type "NoneType")
 |bl (x:Bool):CF K H (.bl x) (.type "bool")
 |int (i:Int):CF K H (.int i) (.type "int")
 |str (x:ap):CF K H (.str x) (.type "str")
 |flt (x:UInt64):CF K H (.flt x) (.type "float")
 |lst {a:af} {xs:List V} (e:H a=ab (.lst xs)):CF K H (.ref a) (.type "list")
 |frz {a:af} {o:dQ} {xs:List V} (e:H a=ab (.frz o (.lst xs))):CF K H (.ref a) (.type "list")
 |tup {a:af} {xs:List V} (e:H a=ab (.tup xs)):CF K H (.ref a) (.type "tuple")
 |dK {a:af} {kvs:List (xb × V)} (e:H a=ab (.dK kvs)):CF K H (.ref a) (.type "dict")
 |dT {a:af} {kvs:List (List xb × V)} (e:H a=ab (.dT kvs)):CF K H (.ref a) (.type "dict")
 |ins {a C dx:af} {fs:List (ap × V)} (e:H a=ab (.ins C dx fs)) (cl:CC K C) (ha:gI K (.ref C) "__class__"=ab (ab (.builtin "object.__class__")))
   (hn:PySem.W.specialIn K (.builtin "object.__class__") "__get__"=ab (ab (.builtin "getset_descriptor.__get__"))) (htk:PySem.W.takesIn K (.builtin "object.__class__")=ab ai)
   (hm:mroIn K C (.type "object")=ab ai):CF K H (.ref a) (.ref C)
theorem fP (I:Inv X P8 Z H s) (f:wl x u) (B:CF X.K H x t) (e:kitOne X.K t c=ab b) (h:∀tk,Q (.bool b) { s with toks:=tk}):
  ay (aT X.prog X.w) A (jS (.builtin "isinstance") [u,c]) Q E s:=by
 cases B with
 |non=>cases (show u=bE from f);exact ek PySem.W.kitx_none I.kIn cx e (λz=>nomatch z) h
 |bl y=>cases (show u=c8 y from f);exact ek PySem.W.kitx_bool I.kIn cx e (λz=>nomatch z) h
 |int i=>obtain⟨t,q⟩:=(show ∃t,u=de i t from f);cases q;exact ek PySem.W.kitx_int I.kIn cx e (λz=>nomatch z) h
 |str y=>obtain⟨t,q⟩:=(show ∃t,u=lS y t from f);cases q;exact ek PySem.W.kitx_str I.kIn cx e (λz=>nomatch z) h
 |flt y=>obtain⟨t,q⟩:=(show ∃t,u=qh y t from f);cases q;exact ek PySem.W.kitx_float I.kIn cx e (λz=>nomatch z) h
 |@lst a xs d=>cases (show u=a4 a from f);obtain⟨_,_,n,_,g⟩:=(show y4 X.prog X.w H s.heap a (.lst xs) from I.hok a _ d);exact ek s0 I.kIn ⟨_,g,rfl⟩ e (λz=>nomatch z) h
 |@frz a F xs d=>cases (show u=a4 a from f);obtain⟨_,_,_,n,_,g⟩:=(show y4 X.prog X.w H s.heap a (.frz F (.lst xs)) from I.hok a _ d);exact ek s0 I.kIn ⟨_,g,rfl⟩ e (λz=>nomatch z) h
 |@tup a xs d=>cases (show u=a4 a from f);obtain⟨_,_,_,p⟩:=(show y4 X.prog X.w H s.heap a (.tup xs) from I.hok a _ d);obtain⟨o,g,j,_⟩:=p;exact ek rL I.kIn ⟨o,g,j⟩ e (λz=>nomatch z) h
 |@dK a kvs d=>cases (show u=a4 a from f);obtain⟨_,_,vs,_,p⟩:=(show y4 X.prog X.w H s.heap a (.dK kvs) from I.hok a _ d);obtain⟨o,D,ep,g,j,_⟩:=p;exact ek s9 I.kIn ⟨o,g,j.1⟩ e (λz=>nomatch z) h
 |@dT a kvs d=>cases (show u=a4 a from f);obtain⟨_,_,xs,_,o,D,ep,g,j,_⟩:=(show y4 X.prog X.w H s.heap a (.dT kvs) from I.hok a _ d);exact ek s9 I.kIn ⟨o,g,j.1⟩ e (λz=>nomatch z) h
 |@ins a C G N d l m v k r =>
 cases (show u=a4 a from f);obtain⟨M,O,_⟩:=lM I.hok d;obtain⟨L,J,_⟩:=O.look;exact ek (PySem.W.kitx_own (l.get _) l.hd m v k r) I.kIn J e (λz=>nomatch z) h
end
structure zc (k:Nat) (A:dA):Prop where
 hd:A.handled=ag
 dp:A.depth+3*k+5<rq
 un:A.units+16*k+200<cc
 gd:A.guards=ab []
theorem zc.mono (r:zc k A) (h:j<=k):zc j A:=⟨r.hd,by have:=r.dp;omega,by have:=r.un;omega,r.gd⟩
theorem zc.deeper (r:zc (k+1) A) (env:tJ):zc k (A.deeper env) :=
 ⟨r.hd,by have:=r.dp;show A.depth+1+3*k+5<_;omega,by have:=r.un;show A.units+3+16*k+200<_;omega,r.gd⟩
theorem vp {A:dA}:(A.under (.builtin "type.__call__" ⟨.ref C::us,a⟩)).depth=A.depth+1:=by
 first | rfl | simp [kn,Code.weight,Code.isCreation,Code.isGuard,Code.isCaller,Code.frames,Code.isFrame,guardIds]
theorem vz {A:dA}:(A.under (.builtin "type.__call__" ⟨.ref C::us,a⟩)).units=A.units+1:=by
 first | rfl | simp [kn,Code.cUnits,Code.frames,Code.isFrame]
theorem zc.make (r:zc (k+1) A) (C:af) (us:List aw) (a:List (ap × aw)):zc k (A.under (.builtin "type.__call__" ⟨.ref C::us,a⟩)) :=
 ⟨r.hd,by have:=r.dp;rw[vp];omega,by have:=r.un;rw[vz];omega,by first | exact r.gd | (simp [kn,Code.guards,Code.isGuard,guardIds,pushGuards,r.gd])⟩
theorem zc.depth (r:zc k A):A.depth<rq:=by have:=r.dp;omega
def Xr:TA:=λ_ H Q=>Q [] H
def T5 (d:TE) (b:TA):TA:=λZ H Q=>d Z H λx c=>b Z c λxs a=>Q (x::xs) a
theorem O5:PA X [] Xr:=λ_ _ _ _ H Q I h=>LM ⟨[],H,I,.nil,h⟩
theorem HW (n:PE X e te) (m:PA X es t) (p:aE (e::es) X.env=(am,bP e X.env)::aE es X.env:=by rfl):PA X (e::es) (T5 te t):=by
 intro b a s Z H Q I h;rw[p];show ay _ _ (rb ((am,bP e X.env)::cv b (aE es X.env))) _ _ s;refine KP (wx (n a s Z H _ I h) λu g ⟨x,k,l,j,i⟩=>?_);exact wx (m b a g Z k _ l i) λus q ⟨xs,d,o,c,f⟩=>⟨x::xs,d,o,.cons j c,f⟩
def Xu (t:TA):TE:=λZ H Q=>t Z H λxs a=>xs.length<=av/\∀p,a p=ag->Q (.ref p) (wS a p (.tup xs))
def Xv (t:TA):TE:=λZ H Q=>t Z H λxs a=>xs.length<=av/\∀p,a p=ag->Q (.ref p) (wS a p (.lst xs))
theorem O6 (h:PA X es t):PE X (.Tuple es x1 P9) (Xu t):=by
 intro a s Z H Q I i;refine wpAny_Tuple_spliced (wx (h P9 a s Z H _ I i) λus c ⟨xs,d,f,r,z,q⟩=>⟨by rw[<- r.length];exact z,?_⟩);have g:d c.heap.objs.size=ag:=f.hok.fresh (u_ _);refine⟨.ref c.heap.objs.size,wS d c.heap.objs.size (.tup xs),f.laid (t':=c.toks) (λb u e=>e_ _ e) (u_ _) ?_,rfl,q _ g⟩;exact⟨z,us,r,⟨_,E_ _ rfl,rfl,_,rfl,rfl⟩⟩
theorem O7 (h:PA X es t):PE X (.List es P9) (Xv t):=by
 intro a s Z H Q I i;refine wpAny_List_spliced (wx (h P9 a s Z H _ I i) λus c ⟨xs,d,f,r,z,q⟩=>⟨by rw[<- r.length];exact z,?_⟩);have g:d c.heap.objs.size=ag:=f.hok.fresh (u_ _);refine⟨.ref c.heap.objs.size,wS d c.heap.objs.size (.lst xs),f.laid (t':=c.toks) (λb u e=>e_ _ e) (u_ _) ?_,rfl,q _ g⟩;exact⟨z,us,0,r,E_ _ rfl⟩
abbrev Sp:=List V->Hp->VK->XK->Prop
abbrev E5:=List tJ->Hp->aI->XK->aw->aI->Prop
structure Fh (P:br) (w:bb) (K:a6) (mg:ap->Option aw) (base:ci) (A:dA) (outer:List tJ) (s:aI) (H:Hp):Prop where
 frames:A.frames=ab outer
 mod:Mod K mg base
 bs:∀b o,base.get? b=ab o->s.heap.get? b=ab o/\H b=ag
 bsz:base.objs.size<=s.heap.objs.size
 funs:s.heap.FunFrames base outer
 frf:∀b∈DB outer,H b=ag
 hok:yT P w H s.heap
 bare:iL s.gens
def CE (a:List tJ) (P:br) (w:bb) (H:Hp) (s:aI) (Q:VK) (u:aw) (s':aI):Prop :=
 ∃v b,s'.os=s.os/\iL s'.gens/\Un (DB a) [] H b s.heap s'.heap/\yT P w b s'.heap/\wl v u/\Q v b
def CR (CX:E5) (a:List tJ) (P:br) (w:bb) (H:Hp) (s:aI) (Q:VK) (E:XK) (r:Result) (s':aI):Prop :=
 match r with
 |.ok (.ret u)=>CE a P w H s Q u s'
 |.ok _=>False
 |.error e=>CX a H s E e s'
structure D1 (P:br) (w:bb) (K:a6) (mg:ap->Option aw) (base:ci) (CX:E5) (k:Nat) (f:af) (fd:dk) (ps:List ap) (sp:Sp):Prop where
 len:∀vs H Q E,sp vs H Q E->vs.length=ps.length
 run:∀(A:dA) (outer:List tJ) (s:aI) (H:Hp) (args:Args) (us:List aw) (vs:List V) (Q:VK) (E:XK),zc k A->Fh P w K mg base A outer s H->ow s fd args (ps.zip us)->wf vs us->sp vs H Q E ->
  eJ (aT P w) A (.call (.ref f) args) (CR CX outer P w H s Q E) s
theorem Fh.make {K:a6} (e:Fh P w K b base A a s H) (C:af) (us:List aw) (c:List (ap × aw)):
  Fh P w K b base (A.under (.builtin "type.__call__" ⟨.ref C::us,c⟩)) a s H:=⟨by first | exact e.frames | (simpa [kn,Code.envs,Code.isFrame,pushEnvs] using e.frames),e.mod,e.bs,e.bsz,e.funs,e.frf,e.hok,e.bare⟩
section
variable {X:Cx}{P8:List (af × dQ)}{Z:St}
theorem Inv.env0 (I:Inv X P8 Z H s):Fh X.prog X.w X.K X.mg X.base X.A X.stack s H :=
 ⟨I.ok.frames,I.ok.mod,I.bs,R_ I.ok.bsz I.sz,I.stack,I.stkFree,I.hok,I.bare⟩
theorem Inv.after (I:Inv X P8 Z H s) (h:CE X.stack X.prog X.w H s Q u s'):EP X P8 Z Q u s':=by
 obtain⟨v,j,os,a,i,e,r,q⟩:=h;obtain⟨f,g,d,t,c⟩:=s';obtain rfl:c=s.os:=os;exact⟨v,j,I.call (h':=f) (g':=g) (d':=d) (t':=t) (ch:=[]) i e a (λb z=>wT z wn),r,q⟩
end
def T6 (sp:Sp) (dvs:List V) (E:XK) (t:TA):TE:=λZ H Q=>t Z H λvs a=>sp (vs++dvs) a Q E
def T7 (C:af) (m:ap) (sp:Sp) (dvs:List V) (E:XK) (f:TE) (t:TA):TE:=λZ H Q=>f Z H λx b=>∃a e c,x=.ref a/\b a=ab (.ins C e c)/\c.lookup m=ag /\
 t Z b λvs d=>sp (x::(vs++dvs)) d Q E
def T8 (C:af) (sp:Sp) (dvs:List V) (E:XK) (t:TA):TE:=λZ H Q=>t Z H λvs b=>∀x a,b x=ag->b a=ag->a≠x ->
 sp (.ref x::(vs++dvs)) (wS (wS b a (.own x)) x (.ins C a [])) (λv c=>v=.non/\Q (.ref x) c) E
def xI (K:a6) (b:dk) (ps:List ap) (a:List aw):Prop :=
 ∀(s:aI) (us:List aw),K.In s.heap->(us++a).length=ps.length->ow s b ⟨us,[]⟩ (ps.zip (us++a))
theorem xI.all {K:a6} (h:∀us:List aw,us.length=ps.length->cS a ⟨us,[]⟩=ce (ps.zip us)):xI K a ps []:=λs us _ b=>by
 rw[YH] at b |-;exact .of_eq (h us b)
def j9 (CX:E5) (X:Cx) (E:XK):Prop:=∀(a:List (af × dQ)) (Z:St) (H:Hp) (s:aI) (e:aw) (s':aI),Inv X a Z H s->CX X.stack H s E e s'->X.xe e s'
section
variable {X:Cx}{CX:E5}{p P9 Qr:mi}
theorem Bw {Z:St} (F:D1 X.prog X.w X.K X.mg X.base CX k f fd ps sp) (l:zc k X.A) (j:xI X.K fd ps ds) (m:wf dvs ds) (g:j9 CX X E) (I:Inv X a Z H s) (r:wf vs us) (h:sp (vs++dvs) H Q E):ay (aT X.prog X.w) X.A (jS (.ref f) us) (EP X a Z Q) X.xe s:=by
 have c:wf (vs++dvs) (us++ds):=r.append m;have d:(us++ds).length=ps.length:=by rw[<- c.length];exact F.len _ _ _ _ h
 refine wpAny_call (f8 (F.run X.A X.stack s H ⟨us,[]⟩ (us++ds) (vs++dvs) Q E l I.env0 (j s us I.kIn d) c h) λr s' b=>?_);cases r with
 |error e=>exact g a Z H s e s' I b
 |ok i =>
 cases i with
 |ret u=>exact I.after b
 |next=>exact cy b
 |brk=>exact cy b
 |cont=>exact cy b
theorem HX (F:D1 X.prog X.w X.K X.mg X.base CX k f fd ps sp) (i:zc k X.A) (u:Gl X x) (g:X.mg x=ab (.ref f)) (n:jv X.K (.ref f)=ai) (m:xI X.K fd ps ds) (v:wf dvs ds) (j:j9 CX X E)
  (o:PA X (e::es) t) (c:(x==("__debug__":ap))=am:=by decide) (l:aE (e::es) X.env=(am,bP e X.env)::aE es X.env:=by rfl) (b:(cv P9 (aE es X.env)).any (·.1)=am:=by rfl) :
  PE X (.Call (.Name x p) (e::es) [] P9) (T6 sp dvs E t):=by
 intro a s Z H Q I h;refine FV (xx I u g ?_ c);refine mP (h₀:=X.base) I.ok.mod.kin n (wx (o P9 a s Z H _ I h) λus y ⟨vs,z,d,r,q⟩=>⟨d.kIn,?_⟩) l b;exact Bw F i m v j d r q
theorem HY {pl:Sem Bool}(p:PE X o ta) (c:CC X.K C) (j:D5 X.K C m f) (F:D1 X.prog X.w X.K X.mg X.base CX k f fd ps sp) (O:zc k X.A) (y:xI X.K fd ps ds) (L:wf dvs ds) (N:j9 CX X E) (P:PA X (e::es) t)
  (g:aE (e::es) X.env=(am,bP e X.env)::aE es X.env:=by rfl) (d:(cv P9 (aE es X.env)).any (·.1)=am:=by rfl)
  (z:bP (.Call (.Attribute o m Qr) (e::es) [] P9) X.env=(do
   let ov <- bP o X.env
   nz Qr.atName
   let (f,first) <- e9 [ov] (oS ov m pl)
   callWith P9 f first (cv P9 (aE (e::es) X.env)) (r_ P9 (kQ [] X.env))):=by rfl) :
  PE X (.Call (.Attribute o m Qr) (e::es) [] P9) (T7 C m sp dvs E ta t):=by
 intro b s Z H Q I h;refine PySem.W.methodCall_KW (pl:=pl) (wx (p b s Z H _ I h) λu J ⟨x,D,i,G,a,U,R,v,B,l,q⟩=>?_) z;subst v;obtain rfl:u=a4 a:=G;refine vm i B c j l ?_;refine mP (first:=[.ref a]) (h₀:=X.base) I.ok.mod.kin j.kp (wx (P P9 b J Z D _ i q) λus T ⟨vs,S,n,r,M⟩=>⟨n.kIn,?_⟩) g d;exact Bw (us:=.ref a::us) (vs:=.ref a::vs) F O y L N n (.cons rfl r) M
structure Mk (K:a6) (C f:af):Prop where
 makes:makesIn K C=ai
 init:gI K (.ref C) "__init__"=ab (ab (.ref f))
 fn:isFn K (.ref f)=ai
 kp:jv K (.ref C)=ai
theorem Bx {Z:St} (M:Mk X.K C f) (F:D1 X.prog X.w X.K X.mg X.base CX k f fd ps sp) (l:zc (k+1) X.A) (p:xI X.K fd ps ds) (z:wf dvs ds) (n:j9 CX X E) (I:Inv X b Z H s) (r:wf vs us) (h:∀x dx,H x=ag->H dx=ag->dx≠x->sp (.ref x::(vs++dvs)) (wS (wS H dx (.own x)) x (.ins C dx [])) (λv H2=>v=.non/\Q (.ref x) H2) E):
  ay (aT X.prog X.w) X.A (jS (.ref C) us) (EP X b Z Q) X.xe s:=by
 have g:=h (s.heap.objs.size+1) s.heap.objs.size (I.hok.fresh (kU _)) (I.hok.fresh (u_ _)) (L_ (ZD _));have c:=Inv.made (C:=C) I;have d:wf (V.ref (s.heap.objs.size+1)::(vs++dvs)) (a4 (s.heap.objs.size+1)::(us++ds)):=.cons rfl (r.append z);have m:(a4 (s.heap.objs.size+1)::us++ds).length=ps.length:=by have e:=d.length;rw[F.len _ _ _ _ g] at e;exact e.symm
 refine wpAny_call (Bv (f:=f) I.kIn M.makes M.init (CY.mp M.fn) (f8 (F.run _ X.stack _ _ ⟨a4 (s.heap.objs.size+1)::us,[]⟩ (a4 (s.heap.objs.size+1)::(us++ds)) _ _ E (l.make C us [])
  (c.env0.make C us []) (p _ (a4 (s.heap.objs.size+1)::us) c.kIn m) d g) λr s' a=>?_))
 cases r with
 |error e=>exact n b Z _ _ e s' c a
 |ok t =>
 cases t with
 |ret u=>obtain⟨v,q,o,i,y,j⟩:=c.after a;subst y;exact⟨i,⟨V.ref (s.heap.objs.size+1),q,o,rfl,j⟩⟩
 |next=>exact cy a
 |brk=>exact cy a
 |cont=>exact cy a
theorem Ia (M:Mk X.K C f) (F:D1 X.prog X.w X.K X.mg X.base CX k f fd ps sp) (i:zc (k+1) X.A) (o:Gl X x) (g:X.mg x=ab (.ref C)) (m:xI X.K fd ps ds) (u:wf dvs ds) (j:j9 CX X E)
  (n:PA X (e::es) t) (c:(x==("__debug__":ap))=am:=by decide) (l:aE (e::es) X.env=(am,bP e X.env)::aE es X.env:=by rfl) (b:(cv P9 (aE es X.env)).any (·.1)=am:=by rfl) :
  PE X (.Call (.Name x p) (e::es) [] P9) (T8 C sp dvs E t):=by
 intro a s Z H Q I h;refine FV (xx I o g ?_ c);refine mP (h₀:=X.base) I.ok.mod.kin M.kp (wx (n P9 a s Z H _ I h) λus v ⟨vs,y,d,r,q⟩=>⟨d.kIn,?_⟩) l b;exact Bx M F i m u j d r q
end
structure fY (N P:List ap) (sc:Scope):Prop where
 kind:sc.kind=.function
 co:sc.isCoroutine=am
 gen:sc.isGenerator=am
 nd:N.Nodup
 pre:N.take P.length=P
 par:∀x∈P,sc.names.lookup x=ab .local\/sc.names.lookup x=ab .cell
 nofree:∀y∈sc.names,y.2≠.free
theorem oY:∀{a:List (ap × aw)}{m:ap->Option aw},(∀v,(x,v)∉a)->r6 b a m x=m x
 |[],_,_=>rfl
 | (n,v)::r,m,h=>by
  unfold r6
  rw[oY λw c=>h w (z_ _ c)]
  split
  ·
   have:x≠n:=by rintro rfl;exact h v A_
   simp [this]
  ·
   rfl
theorem oZ:∀{a:List (ap × aw)}{m:ap->Option aw},(∀v,(x,v)∉a)->r9 b a m x=m x
 |[],_,_=>rfl
 | (n,v)::r,m,h=>by
  unfold r9
  rw[oZ λw c=>h w (z_ _ c)]
  split
  ·
   rfl
  ·
   have:x≠n:=by rintro rfl;exact h v A_
   simp [this]
theorem o4:∀{P:List ap}{vs:List aw}{i:Nat}{m:ap->Option aw},P.Nodup->P[i]?=ab x->vs[i]?=ab v->a x=ab .local ->
  r6 a (P.zip vs) m x=ab v
 |[],_,_,_,_,h,_,_=>by simp at h
 |_::_,[],_,_,_,_,h,_=>by simp at h
 |p::P,w::vs,0,m,nd,h1,h2,hk=>by
  simp at h1 h2;subst h1;subst h2
  show r6 a ((p,w)::P.zip vs) m p=_
  unfold r6
  rw[oY λv b=>(Y4.mp nd).1 (GV b).1,we hk]
  simp
 |p::P,w::vs,i+1,m,nd,h1,h2,hk=>by
  show r6 a ((p,w)::P.zip vs) m x=_
  unfold r6
  exact o4 (i:=i) (Y4.mp nd).2 (by simpa using h1) (by simpa using h2) hk
theorem o5:∀{P:List ap}{vs:List aw}{i:Nat}{m:ap->Option aw},P.Nodup->P[i]?=ab x->vs[i]?=ab v->a x≠ab .local ->
  r9 a (P.zip vs) m x=ab v
 |[],_,_,_,_,h,_,_=>by simp at h
 |_::_,[],_,_,_,_,h,_=>by simp at h
 |p::P,w::vs,0,m,nd,h1,h2,hk=>by
  simp at h1 h2;subst h1;subst h2
  show r9 a ((p,w)::P.zip vs) m p=_
  unfold r9
  rw[oZ λv b=>(Y4.mp nd).1 (GV b).1,wc hk]
  simp
 |p::P,w::vs,i+1,m,nd,h1,h2,hk=>by
  show r9 a ((p,w)::P.zip vs) m x=_
  unfold r9
  exact o5 (i:=i) (Y4.mp nd).2 (by simpa using h1) (by simpa using h2) hk
def start (N:List ap) (vs:List V):St:=vs.map ab++aS (N.length - vs.length) ag
def vA (CX:E5) (P:br) (w:bb) (K:a6) (mg:ap->Option aw) (base:ci) (N:List ap) (a:ap) (scope:Scope) (f:af) (c:aw) (A:dA) (QE:List tJ) (s:aI) (H:Hp) (E:XK):Cx where
 prog:=P
 w:=w
 K:=K
 mg:=mg
 base:=base
 A:=A.deeper (iX a scope s.heap.objs.size f c)
 N:=N
 s₀:=s
 H₀:=H
 env:=iX a scope s.heap.objs.size f c
 outer:=QE
 stack:=iX a scope s.heap.objs.size f c::QE
 ex:=[]
 calm:=ai
 fn:=λ_=>ai
 pn:=[]
 xe:=λe s'=>ay (aT P w) (A.deeper (iX a scope s.heap.objs.size f c)) (leaving (iX a scope s.heap.objs.size f c) e) (λ_ b=>CX QE H s E e b) (λd b=>CX QE H s E d b) s'
theorem jK {a:Scope} (h:a.names.lookup x=ab .cell):∃c,(ba n a.names []).lookup x=ab c:=by
 have q:=kS a.names n [] (.inl h);exact LG.mp q
theorem zQ {K:a6} (S:fY N ps scope) (Q:A.handled=ag) (l:Fh P w K G base A d s H) (T:vs.length=ps.length) (r:wf vs us) (x:InCallC s s.heap.objs.size (r6 (iX g scope s.heap.objs.size f F).kindOf (ps.zip us) λ_=>ag) (ba (s.heap.objs.size+1) scope.names []) (r9 (iX g scope s.heap.objs.size f F).kindOf (ps.zip us) λ_=>ag) J):
  Inv (vA CX P w K G base N g scope f F A d s H E) [] (start N vs) H J:=by
 have O:ps.length<=N.length:=by have:=YB a5 S.pre;rw[Y0] at this;omega
 obtain⟨C,tk,rfl,I⟩:=x.done;have o:∀b:af,b∉(vA CX P w K G base N g scope f F A d s H E).ex:=λb z=>wT (show b∈([]:List af) from z) wn;refine⟨⟨l.mod,S.kind,rfl,rfl,u_ _,λy z c C j=>?_,λy m=>?_,λy c _ h=>?_,λ_=>Q,Around.frames_deeper l.frames,.inr ⟨rfl,rfl⟩,λb z=>wT z (o b),l.bs,l.bsz,λb _ _=>o b,λb z=>wT z (o b),l.funs,l.frf⟩,
  rfl,l.bare,Un.kept I,⟨_,x.toInCall.ns,λi y v C j U=>?_⟩,λy c h=>⟨_,x.cell y c h⟩,l.hok.fresh (u_ _),λy c h=>?_,λp t=>wT (show p∈([]:List (af × dQ)) from t) wn,l.hok.kept I,?_⟩
 .exact name_of_addr x.apart (mem_of_lookup C) (mem_of_lookup j)
 .have m:scope.names.lookup y=ab .cell\/scope.names.lookup y=ab .free:=m;rcases m with m | m
  .exact jK m
  exact wT rfl (S.nofree _ (mem_of_lookup m))
 .exact ZC (x.above y c (mem_of_lookup h))
 .have D:i<vs.length:=by
   unfold start at j;by_cases D:i<vs.length
   .exact D
   rw[O_ (by simpa using D)] at j;rw[K0] at j;split at j <;> cases j
  have R:vs[i]?=ab v:=by
   unfold start at j;rw[YW (by simpa using D),C_] at j;cases e:vs[i]? with
   |none=>rw[e] at j;cases j
   |some a=>rw[e] at j;cases j;rfl
  obtain⟨u,L,M⟩:=r.get R;have t:ps[i]?=ab y:=by rw[<- S.pre,List.getElem?_take_of_lt uS];exact C
  have B:ps.Nodup:=by rw[<- S.pre];exact S.nd.sublist (nX _ _)
  refine⟨u,M,?_⟩;rcases S.par y (S_ t) with k | k
  .exact .inl ⟨k,o4 B t L k⟩
  obtain⟨c,e⟩:=jK (n:=s.heap.objs.size+1) k;refine .inr ⟨.inl k,c,e,?_⟩;have q:=x.cell y c e;rw[o5 B t L (by show scope.names.lookup y≠_;rw[k];decide)] at q;exact q
 .exact l.hok.fresh (ZC (x.above y c (mem_of_lookup h)))
 unfold start;show _=N.length;rw[b_,g_,Zb];omega
theorem T9 {K:a6}{dV kV C X d Y oc:aw} (lk:K.lookup f=ab ⟨oc,od,.func (mM name c g h scope dV kV C X an d Y),R⟩) (O:o1 K d c=ai) (S:fY N ps scope) (B:∀vs H Q E,sp vs H Q E->vs.length=ps.length) (l:∀(A:dA) (a:List tJ) (s:aI) (H:Hp) (vs:List V) (Q:VK) (E:XK),zc k (A.deeper (iX c scope s.heap.objs.size f d))->sp vs H Q E ->
   ∃t,AQ (vA CX P w K G base N c scope f d A a s H E) h t/\t { nx:=λ_ i=>Q .non i,rt:=Q} (start N vs) H):
  D1 P w K G base CX (k+1) f (mM name c g h scope dV kV C X an d Y) ps sp:=by
 refine⟨B,λA a s H args us vs Q E T D hb r z=>?_⟩;have hl:=B _ _ _ _ z;have U:K.In s.heap:=D.mod.kin.keeps λb o e=>(D.bs b o e).1;have L:s.heap.NoLimit:=D.mod.nolimit.keeps λb o e=>(D.bs b o e).1;have j:∀y∈ps.zip us,scope.names.lookup y.1=ab .local\/(scope.names.lookup y.1=ab .cell/\((ba (s.heap.objs.size+1) scope.names []).lookup y.1).isSome=ai):=λ⟨n,v⟩ hy=>by
  rcases S.par n (GV hy).1 with q | q
  .exact .inl q
  exact .inr ⟨q,kS _ _ _ (.inl q)⟩
 refine codeAny_call_function T.depth (U _ _ lk) rfl S.co S.gen rfl (PySem.W.codeRec_of U O) (hb _ _ _ _ ?_);refine wpAny_newFunctionEnv_cells S.kind j λenv he Z x=>?_;subst he;refine⟨L.keeps x.toInCall.keep,codeAny_func ?_⟩;obtain⟨t,ht,hq⟩:=l A a s H vs Q E (T.deeper _) z;have I:Inv (vA CX P w K G base N c scope f d A a s H E) [] (start N vs) H Z:=zQ S T.hd D hl r x;refine ZK (ht [] Z (start N vs) H _ I hq) (λfl s' m=>?_) λe s' m=>m;have p:∀{F:St} {i:Hp} {v:V} {u:aw},Inv (vA CX P w K G base N c scope f d A a s H E) [] F i s'->wl v u->Q v i->CE a P w H s Q u s' :=
  λ{F i v u} J M q=>⟨v,i,J.os,J.bare,J.base,J.hok,M,q⟩
 cases fl with
 |ret u=>obtain⟨v,F,i,J,M,q⟩:=m;exact p J M q
 |next=>obtain⟨F,i,J,q⟩:=m;exact p (v:=V.non) (u:=bE) J rfl q
 |brk=>obtain⟨_,_,_,q⟩:=m;exact cy q
 |cont =>
 obtain⟨_,_,_,q⟩:=m;exact cy q
section
variable {p P9:mi}{id T:String}
def On (r:List V->Hp->VK->Prop) (t:TA):TE:=λZ H Q=>t Z H λvs a=>r vs a Q
theorem By (n:AR X (.builtin id) r) (u:Gl X x) (f:X.mg x=ag) (j:a8 x=ab (.builtin id)) (d:PA X (e::es) t) (l:x≠"__name__":=by decide) (c:(x==("__debug__":ap))=am:=by decide)
  (o:aE (e::es) X.env=(am,bP e X.env)::aE es X.env:=by rfl) (b:(cv P9 (aE es X.env)).any (·.1)=am:=by rfl):PE X (.Call (.Name x p) (e::es) [] P9) (On r t):=by
 intro a s Z H Q I h;refine FV (gY I u f j ?_ l c);exact PyProof.Rows.callWith_builtin1 (wx (d P9 a s Z H _ I h) λus g ⟨vs,m,q,k,i⟩=>n a g Z m vs us Q q k i) o b
theorem zR (n:AR X (.type T) r) (u:Gl X x) (f:X.mg x=ag) (j:a8 x=ab (.type T)) (d:PA X (e::es) t) (l:x≠"__name__":=by decide) (c:(x==("__debug__":ap))=am:=by decide)
  (o:aE (e::es) X.env=(am,bP e X.env)::aE es X.env:=by rfl) (b:(cv P9 (aE es X.env)).any (·.1)=am:=by rfl):PE X (.Call (.Name x p) (e::es) [] P9) (On r t):=by
 intro a s Z H Q I h;refine FV (gY I u f j ?_ l c);exact Za (wx (d P9 a s Z H _ I h) λus g ⟨vs,m,q,k,i⟩=>n a g Z m vs us Q q k i) o b
end
end L2
namespace HT
open PySem PyProof.Rows
def lexLt:List Int->List Int->Bool
 |[],[]=>am
 |[],_::_=>ai
 |_::_,[]=>am
 |x::xs,y::ys=>if x=y then lexLt xs ys else decide (x<y)
theorem acB (x y:Int) (xs a:List Int):lexLt (x::xs) (y::a)=if x=y then lexLt xs a else decide (x<y):=rfl
theorem acA:lexLt [] []=am:=rfl
theorem mq (y:Int) (a:List Int):lexLt [] (y::a)=ai:=rfl
theorem my (x:Int) (xs:List Int):lexLt (x::xs) []=am:=rfl
theorem BJ (A:dA) (s:aI) (a:Int) (t:tT) (c:Int) (u:tT):∃e,gT A s (.int a t) (.int c u) e/\(e=ai↔a=c) :=
 ⟨(a==c),IL a t c u,wn⟩
theorem BK (A:dA) (s:aI) (a:Int) (t:tT) (c:Int) (u:tT) (prog:br) (w:bb) (E:aw->aI->Prop) (Q:aw->aI->Prop) (h:Q (.bool (decide (a<c))) s) :
  ay (aT prog w) A (richCompare .Lt (.int a t) (.int c u)) Q E s :=
 (PyProof.Rows.lt_int h:ay (aT prog w) A (a9 .Lt (.int a t) (.int c u)) Q E s)
section
open PySem.SeqAt
open PySem.AutoSeq1 (wpAny_loadPart')
open PySem.MeetsSeq PySem.MeetsSeq2 PySem.MeetsSeq3
theorem oE (l b:af) (i f:Array aw) (n T:Nat) (S H:Option af) (Q I:Array (Option aw)) (ns E:List Int) (K:db i.toList ns) (J:db f.toList E) :
  Meets (et.«tuple.__lt__» ⟨[.ref l,.ref b],[]⟩)
   (λ_ R s=>s.heap.get? l=ab { cls:=.type "tuple",dict:=S,data:=.seq i n,slots:=Q}/\s.heap.get? b=ab { cls:=.type "tuple",dict:=H,data:=.seq f T,slots:=I} /\
    R (.ok (.ret (.bool (lexLt ns E)))) s) :=
 .of_wp λprog w A R s h=>by
  obtain⟨F,g,d,tk,os⟩:=s;obtain⟨P,N,h⟩:=h;have V:=AutoSeq1.sub_tuple_tuple;have Y:i.size=ns.length:=by rw[<- K.length];simp
  have U:f.size=E.length:=by rw[<- J.length];simp
  wp_walk using kr P,kr N,oz _ (λwq b s'=>b.1=ag/\s'=⟨F,g,d,tk,os⟩/\∃(vs ws:List aw) (k m:List Int),wq=vs.zip ws /\
   db vs k/\db ws m/\k.length+f.size=m.length+i.size/\R (.ok (.ret (.bool (lexLt k m)))) ⟨F,g,d,tk,os⟩) _
  case turn =>
   rintro⟨y,x⟩ wq b s' ⟨B,rfl,vs,ws,k,m,o,z,p,j,r⟩
   cases z with
   |nil=>rw[List.zip_nil_left] at o;cases o
   |cons a t C =>
    cases p with
    |nil=>rw[List.zip_nil_right] at o;cases o
    |cons c u D =>
     rw[g6] at o
     injection o with hyx hrest
     injection hyx with hy hx
     subst hy hx
     rw[acB] at r
     simp only[n_] at j
     obtain⟨e,M,v⟩:=BJ A.in1 ⟨F,g,d,tk,os⟩ a t c u
     refine a_ (M prog w _ _ ?_)
     cases e with
     |true =>
      rw[we (v.mp rfl)] at r
      wp_walk
      exact⟨rfl,rfl,_,_,_,_,hrest,C,D,uS,r⟩
     |false =>
      rw[wc (λq=>wT (v.mpr q) K_)] at r
      have G:=BK A.in1 ⟨F,g,d,tk,os⟩ a t c u prog w
      wp_walk using G
      exact⟨_,rfl,by simpa using r⟩
  case fin =>
   rintro⟨X,W⟩ s' ⟨B,rfl,vs,ws,k,m,o,z,p,j,r⟩
   simp only at B
   subst B
   have L:lexLt k m=decide (i.size<f.size):=by
    cases z with
    |nil =>
     cases p with
     |nil =>
      simp only[YM] at j
      rw[acA]
      exact (m_ uS).symm
     |cons c u O =>
      simp only[YM,n_] at j
      rw[mq]
      exact (k_ uS).symm
    |cons a t L =>
     cases p with
     |nil =>
      simp only[YM,n_] at j
      rw[my]
      exact (m_ uS).symm
     |cons c u O =>
      rw[g6] at o
      cases o
   rw[L] at r
   wp_walk
   exact⟨_,rfl,by simpa [Builtin.Tuple.tupleCompareSizes] using r⟩
  case h =>
   exact⟨rfl,rfl,i.toList,f.toList,ns,E,rfl,K,J,uS,h⟩
theorem adD (v:qo s.heap l c) (u:qo s.heap b a) (B:db c.toList ns) (y:db a.toList f) (z:A.units<cc) (h:Q (.bool (lexLt ns f)) s):ay (aT prog w) A (a9 .Lt (.ref l) (.ref b)) Q E s:=by
 obtain⟨⟨t,D,r,C⟩,o,m,n,q⟩:=id v;obtain⟨⟨p,j,i,k⟩,d,e,G,g⟩:=id u;simp only at m q e g;subst m q e g;exact richCompare_meets_room (op:=.Lt) ⟨_,o,rfl⟩ ⟨_,d,rfl⟩ PySem.F.slot_tuple_lt PySem.F.entry_tuple_lt (PySem.F.args_tuple_lt_2 _ _) (oE l b c a n G D j C k ns f B y)
  ⟨o,d,show c8 (lexLt ns f)≠Value.notImplemented/\Q (.bool (lexLt ns f)) s from ⟨(λx=>nomatch x),h⟩⟩ z
theorem aez (v:qo s.heap t vs.toArray) (u:qo s.heap b ws.toArray) (p:vs≠[]) (x:ws=[]->Q (.ref t) s) (y:ws≠[]->Q (.ref s.heap.objs.size) { s with heap:=s.heap.push { cls:=.type "tuple",data:=.seq (vs++ws).toArray}}) (hsz:vs.length+ws.length<=av):ay (aT prog w) A (bt .Add (.ref t) (.ref b)) Q E s:=by
 obtain⟨⟨cls,q,data,m⟩,i,k,n,o⟩:=id v;obtain⟨⟨l,c,j,f⟩,a,d,r,g⟩:=id u;simp only at k o d g;subst k o d g;have e:vs.toArray++ws.toArray=(vs++ws).toArray:=wn
 by_cases h:ws=[]
 .exact jI ⟨_,i,rfl⟩ ⟨_,a,rfl⟩ i6 ma eK eC (MO _ _)
   (tuple_addW1 t b vs.toArray ws.toArray n r q c m f (by simpa using p) (by simp [h])) ⟨i,a,x h⟩
 refine jI ⟨_,i,rfl⟩ ⟨_,a,rfl⟩ i6 ma eK eC (MO _ _)
  (tuple_addW2 t b vs.toArray ws.toArray n r q c m f (by simpa using p) (by simpa using h) (by rw[x_,x_];exact hsz)) ⟨i,a,?_⟩
 rw[e];exact y h
def sIx (n d:Nat):Option Int->Nat
 |none=>d
 |some v=>if v<0 then (v+(n:Int)).toNat else min v.toNat n
theorem ad4 (n d:Nat):sIx n d ag=d:=rfl
theorem adM (n d k:Nat):sIx n d (ab (k:Int))=min k n:=by
 show (if (k:Int)<0 then ((k:Int)+(n:Int)).toNat else min (k:Int).toNat n)=min k n;rw[wc uS,ZP]
theorem O8 (n d:Nat) (b:d<=n) (o:Option Int):sIx n d o<=n:=by
 cases o with
 |none=>exact b
 |some v =>
  show (if v<0 then (v+(n:Int)).toNat else min v.toNat n)<=n
  by_cases a:v<0
  ·
   rw[we a];omega
  ·
   rw[wc a];exact Nat.min_le_right _ _
theorem xG (v:Int) (n d:Nat):(if v<0 then max (v+(n:Int)) 0 else min v (n:Int))=((sIx n d (ab v):Nat):Int):=by
 show (if v<0 then max (v+(n:Int)) 0 else min v (n:Int))=(((if v<0 then (v+(n:Int)).toNat else min v.toNat n):Nat):Int);by_cases a:v<0
 .simp only[we a];omega
 simp only[wc a];omega
theorem vB (b a:Option Int) (n:Nat):cf b a 1 (n:Int)=(((sIx n 0 b:Nat):Int),((sIx n n a:Nat):Int)):=by
 have c:¬((1:Int)<0):=uS
 unfold cf;simp only[c,V_];refine gX ?_ ?_
 .cases b with
  |none=>rfl
  |some v=>exact xG v n 0
 cases a with
 |none=>rfl
 |some v=>exact xG v n n
theorem vC (i j:Nat):bo (i:Int) (j:Int) 1=j - i:=by
 unfold bo;have a:(1:Int)>0:=uS
 simp only[a,if_true,oj];split <;> omega
theorem jr (p:hG v o) (h:Q o s):ay (aT prog w) A (Builtin.Slice.slicePartIndex v) Q E s:=by
 cases p with
 |none=>exact gE h
 |int i t=>exact slicePart_int h
theorem gO {Q:Int × Int × Nat->aI->Prop} (k:s.heap.IsSliceOf g f e .none) (pl:hG f a) (j:hG e b) (h:Q (((sIx n 0 a:Nat):Int),1,sIx n n b - sIx n 0 a) s):ay (aT prog w) A (da (.ref g) (ce (n:Int))) Q E s:=by
 obtain⟨os,c,i,d⟩:=id k;unfold da ic;refine a_ (a_ (Zi c d (x:=f) rfl (a_ (Zi c d (x:=e) rfl (a_ (Zi c d (x:=.none) rfl (l_ ?_)))))));refine a_ (gE ?_);show ay _ _ (if ((1:Int)==0)=ai then _ else _) _ _ s;rw[wc vS];refine a_ (jr pl (a_ (jr j (a_ (l_ ?_)))));show ay _ _ (match cf a b 1 (n:Int) with | (a,b)=>ce (a,(1:Int),bo a b 1)) _ _ s;rw[vB a b n];show ay _ _ (ce (((sIx n 0 a:Nat):Int),(1:Int),bo ((sIx n 0 a:Nat):Int) ((sIx n n b:Nat):Int) 1)) _ _ s;rw[vC];exact l_ h
theorem BL (xs : Array aw) (i k : Nat) : ((ax k).filterMap λ(m : Nat) => xs[((i : Int) + (m : Int) * 1).toNat]?).toArray = ((xs.toList.drop i).take k).toArray:=by
 have e:(λ(m:Nat)=>xs[((i:Int)+(m:Int)*1).toNat]?)=λm=>xs[i+m]?:=by
  funext m;have:((i:Int)+(m:Int)*1).toNat=i+m:=by omega
  rw[this]
 rw [e];have:=pick_run xs i k;rw [g9] at this;have a : ((λx => xs[x]?) ∘ λx => i + x) = λm => xs[i + m]?:=rfl;rw [a] at this;rw [this]
theorem acI (e:qo s.heap t a) (n:s.heap.IsSliceOf i l o .none) (pl:hG l c) (r:hG o d) (p:¬(sIx a.size 0 c=0/\sIx a.size a.size d=a.size)) (h:Q (.ref s.heap.objs.size) { s with heap:=s.heap.push { cls:=.type "tuple",data:=.seq ((a.toList.drop (sIx a.size 0 c)).take (sIx a.size a.size d - sIx a.size 0 c)).toArray}}) (hsz:a.size<=av):ay (aT prog w) A (eI (.ref t) (.ref i)) Q E s:=by
 have b:sizeOk (.seq ((a.toList.drop (sIx a.size 0 c)).take (sIx a.size a.size d - sIx a.size 0 c)).toArray):=by show ((a.toList.drop (sIx a.size 0 c)).take (sIx a.size a.size d - sIx a.size 0 c)).toArray.size<=av;rw[x_,Y0,G1,HC];omega
 have x:sIx a.size a.size d<=a.size:=O8 _ _ (u_ _) d;obtain⟨os,f,k,u⟩:=id n;have j:s.TypeIs (.ref i) "slice":=⟨os,f,k⟩;unfold eI;try with_reducible refine Zx ?_
 first | refine a_ (l_ ?_) | skip
 refine a_ (ii e.typeIs vS ?_);refine a_ (Zt (name:=dE "__getitem__") e.typeIs YK
  (Zk YK e.typeIs fR ?_ (gS _ _)))
 show ay _ _ (c_ (.ref t) >>= _) _ _ s;refine a_ (l9 e ?_);refine a_ (FL j ?_);rw[we vS];refine a_ (gO n pl r ?_);have g:¬((((sIx a.size 0 c:Nat):Int)==0&&(1:Int)==1&&(sIx a.size a.size d - sIx a.size 0 c)==a.size)=ai):=by intro q;rw[H_,H_] at q;have v:((sIx a.size 0 c:Nat):Int)=0:=eq_of_beq q.1.1;have y:sIx a.size a.size d - sIx a.size 0 c=a.size:=eq_of_beq q.2;exact p ⟨uS,uS⟩
 show ay _ _ (if (((sIx a.size 0 c:Nat):Int)==0&&(1:Int)==1&&(sIx a.size a.size d - sIx a.size 0 c)==a.size)=ai then _ else _) _ _ s;rw[wc g,BL];first
  |exact a_ (m:=bp _) (Zh (l_ ⟨_,rfl,l_ h⟩) b)
  |exact a_ (m:=bp _) (Zh (a_ (l_ (l_ ⟨_,rfl,l_ h⟩))) b)
  |exact a_ (a_ (m:=bp _) (Zh (l_ (l_ ⟨_,rfl,l_ h⟩)) b))
  |exact a_ (a_ (m:=bp _) (Zh (l_ ⟨_,rfl,l_ h⟩) b))
end
end HT
namespace L2
abbrev TO:=St->Hp->(Option Int->Hp->Prop)->Prop
def PO (X:Cx) (e:Option Expr) (t:TO):Prop :=
 ∀(a:List (af × dQ)) (s:aI) (Z:St) (H:Hp) (Q:Option Int->Hp->Prop),Inv X a Z H s->t Z H Q ->
  ay (aT X.prog X.w) X.A (evalPart e X.env) (λu s'=>∃o b,Inv X a Z b s'/\hG u o/\Q o b) X.xe s
def Ib:TO:=λ_ H Q=>Q ag H
def Ua (t:TE):TO:=λZ H Q=>t Z H λx a=>∃i,x=.int i/\Q (ab i) a
theorem z4:∀{us:List aw},wf (ns.map V.int) us->db us ns:=by
 induction ns with
 |nil=>intro us r;rw[ZX] at r;cases r;exact .nil
 |cons n ns b =>
 intro us r;rw[J_] at r;cases r with
 |cons c a =>
 obtain⟨t,e⟩:=c;subst e;exact .cons n t (b a)
section
variable {lo hi:Option Expr}
theorem Ie:PO X ag Ib:=by
 intro a s Z H Q I h;rw[mf];exact l_ ⟨ag,H,I,.none,h⟩
theorem Ig (h:PE X e te):PO X (ab e) (Ua te):=by
 intro a s Z H Q I g;rw[evalPart_some];refine wx (h a s Z H _ I g) λu j ⟨x,c,d,f,b⟩=>?_;obtain⟨i,rfl,q⟩:=b;obtain⟨t,rfl⟩:=f;exact⟨ab i,c,d,.int i t,q⟩
def EJ (X:Cx) (r:V->Option Int->Option Int->Hp->VK->Prop):Prop :=
 ∀(a:List (af × dQ)) (s:aI) (Z:St) (H:Hp) (x:V) (v e b:aw) (d c:Option Int) (f:af) (Q:VK),Inv X a Z H s->wl x v->s.heap.IsSliceOf f e b .none->hG e d->hG b c->r x d c H Q ->
  ∃T g,mx (.type T) "__getitem__"=ce (ab (.builtin g))/\s.TypeIs v T/\ay (aT X.prog X.w) X.A (eI v (.ref f)) (EP X a Z Q) X.xe s
theorem EJ.or {r e:V->Option Int->Option Int->Hp->VK->Prop}(h:EJ X r) (h':EJ X e):EJ X (λx c b H Q=>r x c b H Q\/e x c b H Q):=by
 intro a s Z H x v f d c b j Q I g k pl i q;rcases q with q | q
 .exact h a s Z H x v f d c b j Q I g k pl i q
 exact h' a s Z H x v f d c b j Q I g k pl i q
def Pi (r:V->Option Int->Option Int->Hp->VK->Prop) (te:TE) (a d:TO):TE:=λZ H Q=>te Z H λx c=>a Z c λl b=>d Z b λu H3=>r x l u H3 Q
theorem rM (G:EJ X r) (f:PE X e te) (j:PO X lo tl) (y:PO X hi th):PE X (.Subscript e (.Slice lo hi ag p2) P9) (Pi r te tl th):=by
 intro a s Z H Q I h;refine mT (wx (f a s Z H _ I h) λv p ⟨x,k,n,J,t⟩=>?_);refine wpAny_Slice (wx (j a p Z k _ n t) λc B ⟨l,o,C,pl,E⟩=>wx (y a B Z o _ C E) λd s3 ⟨u,H3,m,z,D⟩=>?_);rw[mf];refine l_ ?_;have g:Inv X a Z H3 { s3 with heap:=s3.heap.push { cls:=.type "slice",data:=.fields #[c,d,.none]}}:=m.kept (t':=s3.toks) λb M q=>e_ _ q;obtain⟨T,L,F,i,K⟩:=G a { s3 with heap:=s3.heap.push { cls:=.type "slice",data:=.fields #[c,d,.none]}} Z H3 x v c d l u s3.heap.objs.size Q g J (Heap.IsSliceOf.new ..) pl z D;show ay (aT X.prog X.w) X.A (iP e (.Slice lo hi ag p2) v (.ref s3.heap.objs.size)) (EP X a Z Q) X.xe { s3 with heap:=s3.heap.push { cls:=.type "slice",data:=.fields #[c,d,.none]}};exact tx (ops:=[.ref s3.heap.objs.size,v]) i F K (by with_unfolding_all rfl)
def rN (xs:List V) (a b:Option Int):List V:=(xs.drop (HT.sIx xs.length 0 a)).take (HT.sIx xs.length xs.length b - HT.sIx xs.length 0 a)
theorem lu (xs:List V) (b a:Option Int):(rN xs b a).length<=xs.length:=by
 unfold rN;rw[Y0,G1];omega
def Xw (K:a6):V->Option Int->Option Int->Hp->VK->Prop:=λx c b H Q=>∃a xs,x=.ref a/\yB K H a xs /\
 ¬(HT.sIx xs.length 0 c=0/\HT.sIx xs.length xs.length b=xs.length)/\∀p,H p=ag->Q (.ref p) (wS H p (.tup (rN xs c b)))
theorem NU:EJ X (Xw X.K):=by
 intro j s Z H x v u t d f w Q I l n pl m h;obtain⟨a,xs,rfl,k,p,q⟩:=h;cases l;obtain⟨e,r,g,i⟩:=I.tuple k;have c:e.toArray.size=xs.length:=by rw[x_];exact r.length.symm
 refine⟨"tuple",_,YK.lookup,g.typeIs,?_⟩;refine HT.acI g n pl m (by rw[c];exact p) ?_ (by rw[c];exact i);rw[c];refine⟨.ref s.heap.objs.size,_,I.laid (t':=s.toks) (o:=.tup (rN xs d f)) (λb y q=>e_ _ q) (u_ _) ?_,rfl,q _ (I.hok.fresh (u_ _))⟩;exact⟨R_ (lu xs d f) i,_,(r.drop (HT.sIx xs.length 0 d)).take (HT.sIx xs.length xs.length f - HT.sIx xs.length 0 d),DO.new _ _⟩
def Xx (K:a6):R2:=λx y H Q=>∃a b ns c,x=.ref a/\y=.ref b/\yB K H a (ns.map V.int)/\yB K H b (c.map V.int)/\Q (.bl (HT.lexLt ns c)) H
theorem O9 (k:X.A.units<cc):xB X (a9 .Lt) (Xx X.K):=by
 intro e s Z H x y v u Q I l m h;obtain⟨a,b,ns,f,rfl,rfl,i,n,q⟩:=h;cases l;cases m;obtain⟨d,j,p1,_⟩:=I.tuple i;obtain⟨c,g,p,_⟩:=I.tuple n;have o:db d.toArray.toList ns:=z4 j;have r:db c.toArray.toList f:=z4 g;exact HT.adD p1 p o r k ⟨.bl (HT.lexLt ns f),H,I,rfl,q⟩
def Ub (K:a6):R2:=λx y H Q=>∃a b xs c,x=.ref a/\y=.ref b/\yB K H a xs/\yB K H b c/\xs≠[]/\xs.length+c.length<=av /\
 (c=[]->Q (.ref a) H)/\(c≠[]->∀p,H p=ag->Q (.ref p) (wS H p (.tup (xs++c))))
theorem wf.nil_iff (r:wf xs us):us=[]↔xs=[]:=by
 cases r with
 |nil=>simp
 |cons _ _=>simp
theorem PR:xB X (bt .Add) (Ub X.K):=by
 intro f s Z H x y v u Q I p r h;obtain⟨a,b,xs,i,rfl,rfl,j,t,n,e,l,k⟩:=h;cases p;cases r;obtain⟨m,d,p1,_⟩:=I.tuple j;obtain⟨g,c,A,_⟩:=I.tuple t;refine HT.aez p1 A (λz=>n (d.nil_iff.mp z)) (λz=>⟨.ref a,H,I,rfl,l (c.nil_iff.mp z)⟩) (λz=>?_) (by rw[<- d.length,<- c.length];exact e);refine⟨.ref s.heap.objs.size,_,I.laid (t':=s.toks) (o:=.tup (xs++i)) (λb B q=>e_ _ q) (u_ _) ?_,rfl,k (λw=>z (c.nil_iff.mpr w)) _ (I.hok.fresh (u_ _))⟩;exact⟨by rw[b_];exact e,_,d.append c,DO.new _ _⟩
end
def AL (n:Nat) (i:Int):Option Nat:=if 0<=i then (if i<n then ab i.toNat else ag) else if -(n:Int)<=i then ab (i+n).toNat else ag
def xh {a:Type}(xs:List a) (i:Int):Option a:=(AL xs.length i).bind λj=>xs[j]?
theorem xH (h:AL n i=ab j):seqIndex? i n=ab j/\j<n /\ -(n:Int)<=i/\i<n:=by
 unfold AL at h;by_cases b:0<=i
 .rw[we b] at h;by_cases a:i<n
  .rw[we a] at h;have e:i.toNat=j:=P_ h;exact⟨by rw[qc b a,e],uS,uS,a⟩
  rw[wc a] at h;cases h
 rw[wc b] at h;by_cases a : -(n:Int)<=i
 .rw[we a] at h;have e:(i+n).toNat=j:=P_ h;exact⟨by rw[nB uS a,e],uS,a,uS⟩
 rw[wc a] at h;cases h
theorem qb {xs:List a}{v:a} (h:xh xs i=ab v):∃j,seqIndex? i xs.length=ab j/\xs[j]?=ab v/\j<xs.length /\ -(xs.length:Int)<=i/\i<xs.length:=by
 unfold xh at h;cases e:AL xs.length i with
 |none=>rw[e] at h;cases h
 |some j =>
 rw[e] at h;obtain⟨d,c,b,f⟩:=xH e;exact⟨j,d,h,c,b,f⟩
theorem bQ {xs:List a}{j:Nat}{v:a} (h:xs[j]?=ab v):xh xs (j:Int)=ab v:=by
 have b:j<xs.length:=(ZJ.mp h).1;have e:AL xs.length (j:Int)=ab j:=by unfold AL;rw[we uS,we uS];simp
 unfold xh;rw[e];exact h
theorem BP (xs:List a) (v:a):xh (xs++[v]) (-1)=ab v:=by
 have b:(xs++[v]).length=xs.length+1:=wn
 have e:AL (xs++[v]).length (-1)=ab xs.length:=by unfold AL;rw[b,wc vS,we uS];congr 1;omega
 unfold xh;rw[e];show (xs++[v])[xs.length]?=ab v;simp
def xJ (b:Expr):Prop:=∀o i,kK b am o i=operate [o,i] (eI o i)
def BU (X:Cx) (r:R2):Prop :=
 ∀(c a:Expr) (b:List (af × dQ)) (s:aI) (Z:St) (H:Hp) (x y:V) (v u:aw) (Q:VK),Inv X b Z H s->wl x v->wl y u->r x y H Q ->
  kK a am v u=operate [v,u] (eI v u)->ay (aT X.prog X.w) X.A (iP c a v u) (EP X b Z Q) X.xe s
def DM (X:Cx) (b:String) (r:V->List V->Hp->VK->Prop):Prop :=
 ∀(a:List (af × dQ)) (s:aI) (Z:St) (H:Hp) (x:V) (xs:List V) (v:aw) (us:List aw) (Q:VK),Inv X a Z H s->wl x v->wf xs us->r x xs H Q ->
  ay (aT X.prog X.w) X.A (jS (.builtin b) (v::us)) (EP X a Z Q) X.xe s
section
variable {X:Cx}{a b:Expr}
theorem BU.or (h:BU X r) (h':BU X d):BU X (λx y H Q=>r x y H Q\/d x y H Q):=by
 intro b a c s Z H x y v u Q I e f q g;rcases q with q | q
 .exact h b a c s Z H x y v u Q I e f q g
 exact h' b a c s Z H x y v u Q I e f q g
theorem Uc (i:BU X r) (k:PE X a ta) (g:PE X b tb) (m:xJ b):PE X (.Subscript a b P9) (HU r ta tb):=by
 intro c s Z H Q I h;exact mT (Ou k g I h λv u j x y d l e f q=>i a b c j Z d x y v u Q l e f q (m _ _))
def Ud (K:a6):R2:=λx y H Q=>∃p xs i v,x=.ref p/\y=.int i/\y8 K H p xs/\xh xs i=ab v/\Q v H
def Ue (K:a6):R2:=λx y H Q=>∃p xs i v,x=.ref p/\y=.int i/\yB K H p xs/\xh xs i=ab v/\Q v H
def Ug:R2:=λx y H Q=>∃z i c,x=.str z/\y=.int i/\z.length<=av/\xh z.cps.toList i=ab c/\Q (.str ⟨#[c]⟩) H
theorem Po:BU X (Ud X.K):=by
 intro d e a s Z H x y v u Q I D A h n;obtain⟨p,xs,i,z,rfl,rfl,B,o,q⟩:=h;cases D;obtain⟨t,rfl⟩:=A;obtain⟨k,r,pl,J⟩:=I.list B;obtain⟨j,c,F,M,E,G⟩:=qb o;obtain⟨w,m,g⟩:=r.get F;have C:=r.length;have L:=j7;have b:EP X a Z Q w s:=⟨z,H,I,g,q⟩;by_cases l:0<=i
 .have f:i.toNat=j:=by rw[qc l G] at c;exact P_ c
  exact item_listR pl.isList l uS (by rw[f];simpa using m) b n
 have f:(i+(k.toArray.size:Int)).toNat=j:=by rw[nB uS E] at c;rw[x_,<- C];exact P_ c
 exact jp (x:=w) pl.isList.typeIs slot_list_getitem.lookup
  (wpAny_getItem_list_neg (Q:=λr s'=>r=w/\EP X a Z Q r s') pl.isList uS (by rw[x_] <;> omega) uS (by rw[f];simpa using m) ⟨rfl,b⟩) n
theorem OY:BU X (Ue X.K):=by
 intro c d a s Z H x y v u Q I n g h B;obtain⟨p,xs,i,z,rfl,rfl,l,f,q⟩:=h;cases n;obtain⟨t,rfl⟩:=g;obtain⟨C,r,pl,D⟩:=I.tuple l;obtain⟨j,o,A,G,F,J⟩:=qb f;obtain⟨w,k,e⟩:=r.get A;have m:=r.length;have E:=j7;have b:EP X a Z Q w s:=⟨z,H,I,e,q⟩;exact jp (x:=w) pl.typeIs slot_tuple_getitem.lookup
  (getItem_tuple (j:=j) (Q:=λr s'=>r=w/\EP X a Z Q r s') pl uS uS (by rw[x_,<- m];exact o) (by simpa using k) ⟨rfl,b⟩) B
theorem Pa:BU X Ug:=by
 intro b a e s Z H x y v u Q I l n h r;obtain⟨z,i,c,rfl,rfl,B,m,q⟩:=h;obtain⟨t,rfl⟩:=l;obtain⟨t',rfl⟩:=n;obtain⟨j,d,p,A,w,o⟩:=qb m;have k:z.cps.toList.length=z.length:=by simp [Str.length]
 rw[k] at d w o;have C:=j7;exact tx (rj s z t) slot_str_getitem.lookup (getItem_str (c:=c) (by
  have f:decide (i < -(2^63:Int))=am:=m_ uS
  have g:decide (i ≥ 2^63)=am:=m_ uS
  rw[f,g,mr]) (by rw[d];simpa using p) ⟨.str ⟨#[c]⟩,H,I.tok _,⟨_,rfl⟩,q⟩) r
def NN (K:a6):R2:=λx y H Q=>Ud K x y H Q\/Ue K x y H Q\/Ug x y H Q
theorem Pb:BU X (NN X.K):=Po.or (OY.or Pa)
theorem vD (a:List aw) (n j:Nat) (u:aw):bS (·.setIfInBounds j u) { cls:=.type "list",data:=.seq a.toArray n}={ cls:=.type "list",data:=.seq (a.set j u).toArray n}:=by
 simp [bS]
theorem Inv.lst {b:List (af × dQ)}{Z:St}{H:Hp}{s:aI}{p:af}{xs:List V}(I:Inv X b Z H s) (h:H p=ab (.lst xs)) :
  ∃(a:List aw) (n:Nat),wf xs a/\s.heap.get? p=ab { cls:=.type "list",data:=.seq a.toArray n}/\xs.length<=av:=by
 obtain⟨z,a,n,r,e⟩:=I.hok p _ h;exact⟨a,n,r,e,z⟩
theorem Inv.lstUpd {a:List (af × dQ)}{Z:St}{c its':List aw} (I:Inv X a Z H s) (h:H p=ab (.lst xs)) (k:s.heap.get? p=ab { cls:=.type "list",data:=.seq c.toArray n}) (i:f { cls:=.type "list",data:=.seq c.toArray n}={ cls:=.type "list",data:=.seq its'.toArray g}) (r:wf d its') (j:d.length<=av) (t:Nat):
  Inv X a Z (wS H p (.lst d)) { s with heap:=s.heap.update p f,toks:=t}:=by
 have e:(s.heap.update p f).get? p=ab { cls:=.type "list",data:=.seq its'.toArray g}:=by rw[eW f k (by rw[i] <;> rfl),i]
 refine I.write (x:=p) (e:=p) (by rw[h];trivial) (.inl rfl) (λb u l q=>(LJ _ _ (a7 l)).trans q) ⟨_,e⟩ ?_;exact⟨j,its',g,r,e⟩
def Uh:V->V->V->Hp->(Hp->Prop)->Prop:=λo i v H Q=>∃p xs k j,o=.ref p/\i=.int k/\H p=ab (.lst xs)/\AL xs.length k=ab j/\Q (wS H p (.lst (xs.set j v)))
theorem C4:FS X Uh:=by
 intro b s Z H o i v F E u Q I B z A h;obtain⟨p,xs,k,j,rfl,rfl,m,C,q⟩:=h;cases B;obtain⟨t,rfl⟩:=z;obtain⟨a,n,r,e,y⟩:=I.lst m;obtain⟨c,G,w,l⟩:=xH C;have d:=r.length;have D:=j7;have x:Inv X b Z (wS H p (.lst (xs.set j v))) { s with heap:=s.heap.update p (bS (·.setIfInBounds j u))} :=
  I.lstUpd m e (vD a n j u) (r.set A j) (by rw[kz];exact y) s.toks
 by_cases g:0<=k
 .have f:k.toNat=j:=by rw[qc g l] at c;exact P_ c
  exact PySem.W.ki_setAt e g uS (by rw[x_,<- d];exact l) (by rw[f];exact⟨_,x,q⟩)
 have f:(k+(a.toArray.size:Int)).toNat=j:=by rw[nB uS w] at c;rw[x_,<- d];exact P_ c
 exact PySem.W.ki_setBack e uS (by rw[x_,<- d];exact w) uS (by rw[f];exact⟨_,x,q⟩)
theorem qd (b a:Option Int) (n:Nat):(ez b a ag n).1=((HT.sIx n 0 b:Nat):Int)/\(ez b a ag n).2.1=((HT.sIx n n a:Nat):Int)/\(ez b a ag n).2.2=1:=by
 refine⟨?_,?_,rfl⟩
 .cases b with
  |none=>simp [ez,HT.sIx]
  |some i =>
  simp only[ez,HT.sIx,o3,show (1:Int)>0 by decide,if_true];by_cases h:i<0
  .simp only[h,if_true] <;> omega
  simp only[h,V_] <;> omega
 cases a with
 |none=>simp [ez,HT.sIx]
 |some i =>
 simp only[ez,HT.sIx,o3,show (1:Int)>0 by decide,if_true];by_cases h:i<0
 .simp only[h,if_true] <;> omega
 simp only[h,V_] <;> omega
theorem oF (a:List aw) (b c:Option Int):slicePick a.toArray b c ag=((a.drop (HT.sIx a.length 0 b)).take (HT.sIx a.length a.length c - HT.sIx a.length 0 b)).toArray:=by
 obtain⟨f,e,d⟩:=qd b c a.toArray.size;unfold slicePick;rw[f,e,d];simp only[sliceRange_one,pick_run,x_] <;> rfl
def Xy (K:a6):V->Option Int->Option Int->Hp->VK->Prop:=λx c b H Q=>∃a xs,x=.ref a/\y8 K H a xs/\∀p,H p=ag->Q (.ref p) (wS H p (.lst (rN xs c b)))
theorem OP:EJ X (Xy X.K):=by
 intro g s Z H x v t p d e u Q I l n pl m h;obtain⟨a,xs,rfl,k,q⟩:=h;cases l;obtain⟨i,r,f,j⟩:=I.list k;have c:=r.length;refine⟨"list",_,slot_list_getitem.lookup,f.isList.typeIs,?_⟩;refine wpAny_getItem_list_slice f.isList n pl m .none wn ?_ (by rw[x_] <;> omega);rw[oF,<- c];refine⟨.ref s.heap.objs.size,_,I.laid (t':=s.toks) (o:=.lst (rN xs d e)) (λb w q=>e_ _ q) (u_ _) ?_,rfl,q _ (I.hok.fresh (u_ _))⟩;exact⟨R_ (lu xs d e) j,_,0,(r.drop (HT.sIx xs.length 0 d)).take (HT.sIx xs.length xs.length e - HT.sIx xs.length 0 d),E_ _ rfl⟩
theorem OI:AR X (.builtin "len") (λxs H Q=>∃p b,xs=[.ref p]/\(y8 X.K H p b\/yB X.K H p b)/\Q (.int b.length) H):=by
 intro f s Z H xs us Q I r h;obtain⟨p,b,rfl,c,q⟩:=h;obtain⟨u,rfl,i⟩:=xz r;cases i;have j:=j7;rcases c with c | c
 .obtain⟨e,d,pl,g⟩:=I.list c;have a:=d.length;exact Calls.call_len_list pl.isList (by simp only[x_] <;> omega) ⟨.int b.length,H,I.tok _,⟨s.toks+1,by rw[x_,a]⟩,q⟩
 obtain⟨e,d,pl,g⟩:=I.tuple c;have a:=d.length;exact len_tuple pl (by simp only[x_] <;> omega) ⟨.int b.length,H,I.tok _,⟨s.toks+1,by rw[x_,a]⟩,q⟩
theorem qe:AR X (.builtin "len") (λxs H Q=>∃z,xs=[.str z]/\z.length<=av/\Q (.int z.length) H):=by
 intro a s Z H xs us Q I r h;obtain⟨z,rfl,b,q⟩:=h;obtain⟨u,rfl,t,rfl⟩:=xz r;have c:=j7;exact len_str uS ⟨.int z.length,H,I.tok _,⟨_,rfl⟩,q⟩
theorem AR.or {r b:List V->Hp->VK->Prop} (h:AR X f r) (h':AR X f b):AR X f (λxs H Q=>r xs H Q\/b xs H Q):=by
 intro a s Z H xs us Q I c q;rcases q with q | q
 .exact h a s Z H xs us Q I c q
 exact h' a s Z H xs us Q I c q
theorem qg:AR X (.type "list") (λxs H Q=>∃p c,xs=[.ref p]/\(y8 X.K H p c\/yB X.K H p c)/\∀l,H l=ag->Q (.ref l) (wS H l (.lst c))):=by
 intro t s Z H xs us Q I r h;obtain⟨p,c,rfl,m,q⟩:=h;obtain⟨u,rfl,A⟩:=xz r;cases A;have j:∀(a:List aw),wf c a->c.length<=av->∀(h':ci) (f:Nat),(∀b z,s.heap.get? b=ab z->h'.get? b=ab z) ->
   h'.get? s.heap.objs.size=ab { cls:=.type "list",dict:=ag,data:=.seq a.toArray f,slots:=#[]}->EP X t Z Q (.ref s.heap.objs.size) { s with heap:=h'}:=λa d k h' f i e =>
  ⟨.ref s.heap.objs.size,_,I.laid (t':=s.toks) i (u_ _) (show y4 X.prog X.w _ h' _ (.lst c) from ⟨k,a,f,d,e⟩),rfl,q _ (I.hok.fresh (u_ _))⟩
 rcases m with m | m
 .obtain⟨a,d,pl,k⟩:=I.list m;have g:=d.length;obtain⟨o,x,v,n,y⟩:=pl.isList;exact sL p (.inl rfl) x v y (λh' f i e=>j a d k h' f i e) (by simp only[x_] <;> omega)
 obtain⟨a,d,pl,k⟩:=I.tuple m;have g:=d.length;obtain⟨o,x,v,n,y⟩:=pl;exact sL p (.inr rfl) x v y (λh' f i e=>j a d k h' f i e) (by simp only[x_] <;> omega)
theorem oG:AR X (.type "tuple") (λxs H Q=>∃p d,xs=[.ref p]/\((y8 X.K H p d/\∀l,H l=ag->Q (.ref l) (wS H l (.tup d)))\/(yB X.K H p d/\Q (.ref p) H))):=by
 intro a s Z H xs us Q I r h;obtain⟨p,d,rfl,h⟩:=h;obtain⟨u,rfl,n⟩:=xz r;cases n;rcases h with ⟨g,q⟩ | ⟨g,q⟩
 .obtain⟨c,f,pl,j⟩:=I.list g;have i:=f.length;refine call_tuple_list pl.isList (λh' m=>?_) (by simp only[x_] <;> omega);have k:Inv X a Z H { s with heap:=h'}:=I.kept (t':=s.toks) m;have t:Inv X a Z (wS H h'.objs.size (.tup d)) { s with heap:=h'.push { cls:=.type "tuple",data:=.seq c.toArray}} :=
   k.laid (t':=s.toks) (λb o e=>e_ _ e) (u_ _) (show y4 X.prog X.w _ _ _ (.tup d) from ⟨j,c,f,DO.new _ _⟩)
  exact⟨.ref h'.objs.size,_,t,rfl,q _ (k.hok.fresh (u_ _))⟩
 obtain⟨c,f,pl,j⟩:=I.tuple g;exact call_tuple_same pl ⟨.ref p,H,I,rfl,q⟩
def Lc (K:a6) (T:String) (x:V) (H:Hp):Prop:=match x with
 |.str _=>T="str"
 |.int _=>T="int"
 |.ref p=>(T="list"/\∃xs,y8 K H p xs)\/(T="tuple"/\∃xs,yB K H p xs) \/
   (T="dict"/\((∃kvs,H p=ab (.dK kvs))\/∃kvs,H p=ab (.dT kvs)))\/(T="set"/\∃S n,H p=ab (.set S n))
 |_=>False
theorem BR {Z:St} (I:Inv X g Z H s) (r:wl x v) (h:Lc X.K T x H):
  s.TypeIs v T/\∀a,v=.ref a->∃q,s.heap.get? a=ab q/\q.dict=ag:=by
 cases x with
 |str z=>obtain⟨t,rfl⟩:=r;cases (show T="str" from h);exact⟨rj s z t,λ_ e=>nomatch e⟩
 |int i=>obtain⟨t,rfl⟩:=r;cases (show T="int" from h);exact⟨rk s i t,λ_ e=>nomatch e⟩
 |ref p =>
  cases r;rcases h with ⟨rfl,xs,w⟩ | ⟨rfl,xs,b⟩ | ⟨rfl,b⟩ | ⟨rfl,S,n,b⟩
  .obtain⟨f,_,pl,_⟩:=I.list w;refine⟨pl.isList.typeIs,λa e=>?_⟩;cases e;obtain⟨o,n,e,c,j,_⟩:=pl;exact⟨o,e,j⟩
  .rcases b with b | ⟨o,f,n,b,l,j,_⟩
   .obtain⟨_,f,r,o,m,l,n,j,u⟩:=b.ok I.hok;refine⟨⟨o,m,l⟩,λa e=>?_⟩;cases e;exact⟨o,m,u⟩
   refine⟨⟨o,I.kIn p o b,l⟩,λa e=>?_⟩;cases e;exact⟨o,I.kIn _ o b,j⟩
  .have z:∃o,s.heap.get? p=ab o/\o.ExactDict:=by
    rcases b with ⟨kvs,b⟩ | ⟨kvs,b⟩
    .obtain⟨_,_,_,_,o,_,_,e,d,_⟩:=I.hok p _ b;exact⟨o,e,d⟩
    obtain⟨_,_,_,_,o,_,_,e,d,_⟩:=I.hok p _ b;exact⟨o,e,d⟩
   obtain⟨o,e,d⟩:=z;refine⟨⟨o,e,d.1⟩,λa k=>?_⟩;cases k;exact⟨o,e,d.2.1⟩
  obtain⟨o,_,_,_,e,d,_⟩:=I.hok p _ b;refine⟨⟨o,e,d.1⟩,λa k=>?_⟩;cases k;exact⟨o,e,d.2.1⟩
 |_=>exact cy h
def Xz (K:a6) (T:String) (r:V->List V->Hp->VK->Prop) (b:TE):TE:=λZ H Q=>b Z H λx a=>Lc K T x a/\r x [] a Q
def P4 (K:a6) (T:String) (r:V->List V->Hp->VK->Prop) (c:TE) (t:TA):TE:=λZ H Q=>c Z H λx a=>Lc K T x a/\t Z a λxs b=>r x xs b Q
variable {Qr Qb:mi}{T id:String}
theorem Pg (p:nh T) (d:Slot T name id) (e:tN (.builtin id)=ce (.type "method_descriptor")) (k:DM X id r) (m:PE X o to)
  (b:dP o name X.env (bP o X.env)=bP o X.env:=by rfl) (c:(Qr.endLine==Qb.line)=ai:=by rfl):PE X (.Call (.Attribute o name Qr) [] [] Qb) (Xz X.K T r to):=by
 intro a s Z H Q I h;refine wpAny_Call_method0_late b c (wx (m a s Z H _ I h) λv i ⟨x,l,g,f,n,j⟩=>?_);obtain⟨t,q⟩:=BR g f n;exact⟨T,id,p,d,e,t,q,kg rfl (PySem.evalArgs_none (k a i Z l x [] v [] Q g f .nil j))⟩
theorem Ui (D:nh T) (f:Slot T name id) (i:tN (.builtin id)=ce (.type "method_descriptor")) (A:DM X id r) (q:PE X o to) (n:PA X (e::es) t)
  (c:dP o name X.env (bP o X.env)=bP o X.env:=by rfl)
  (g:((cv Qb (aE (e::es) X.env)).all (λx=>!x.1)&&(r_ Qb (kQ [] X.env)).all (λx=>x.1.isSome)
   && decide ((e::es).length+([]:List tw).length+(if ([]:List tw).isEmpty then 0 else 1)<30))=ai:=by rfl)
  (d:(Qr.endLine==Qb.line)=ai:=by rfl) (G:aE (e::es) X.env=(am,bP e X.env)::aE es X.env:=by rfl) (b:(cv Qb (aE es X.env)).any (·.1)=am:=by rfl) :
  PE X (.Call (.Attribute o name Qr) (e::es) [] Qb) (P4 X.K T r to t):=by
 intro a s Z H Q I h;refine wpAny_Call_method_late c g d rfl (wx (q a s Z H _ I h) λv z ⟨x,p,j,l,u,B⟩=>?_);obtain⟨w,E⟩:=BR j l u;refine⟨T,id,D,f,i,w,E,?_⟩;have k:=n Qb a z Z p _ j B;rw[G] at k |-;refine kg (by show (am||(cv Qb (aE es X.env)).any (·.1))=am;rw[b] <;> rfl) (Calls.evalArgs_plain ?_);exact wx k λus C ⟨vs,y,F,m,J⟩=>A a C Z y x vs v us Q F l m J
end
def Lo (X:Cx) (b:String) (r:V->List V->Hp->VK->Prop):Prop :=
 ∀(a:List (af × dQ)) (s:aI) (Z:St) (H:Hp) (x:V) (xs:List V) (v:aw) (us:List aw) (Q:VK),Inv X a Z H s->wl x v->wf xs us->r x xs H Q ->
  ay (aT X.prog X.w) X.A (jS (.builtin b) (v::us)) (EP X a Z Q) X.xe s
theorem wf.one (r:wf [x] us):∃u,us=[u]/\wl x u:=xz r
theorem wf.zero:∀{us:List aw},wf [] us->us=[]
 |_,.nil=>rfl
theorem wf.dropLast (h:wf xs us):wf xs.dropLast us.dropLast:=by
 induction h with
 |nil=>exact .nil
 |cons r t a =>
 cases t with
 |nil=>exact .nil
 |cons q t'=>exact .cons r a
theorem wf.reverse (h:wf xs us):wf xs.reverse us.reverse:=by
 induction h with
 |nil=>exact .nil
 |cons r t a=>rw[iE,iE];exact wf.append a (.cons r .nil)
theorem wf.rep (h:wf xs us):∀k:Nat,wf (aS k xs).flatten (aS k us).flatten
 |0=>.nil
 |k+1=>by
  rw[Zc,Zc,ZQ,ZQ]
  exact wf.append h (wf.rep h k)
theorem vG {d:Type}(l:List d):l.eraseIdx (l.length - 1)=l.dropLast:=by
 induction l with
 |nil=>rfl
 |cons a r c =>
 cases r with
 |nil=>rfl
 |cons b r =>
  have e:(a::b::r).length - 1=((b::r).length - 1)+1:=by
   have g:(a::b::r).length=r.length+2:=rfl
   have f:(b::r).length=r.length+1:=rfl
   omega
  rw[e,List.eraseIdx_cons_succ,c]
  all_goals rfl
theorem AI (a:List aw):∀(k:Nat) (b:List aw),
  sk (λc f=>c++f) b.toArray (aS k a.toArray)=(b++(aS k a).flatten).toArray
 |0,b=>by simp
 |k+1,b=>by
  have e:b.toArray++a.toArray=(b++a).toArray:=wn
  have d:(b++a)++(aS k a).flatten=b++(aS (k+1) a).flatten:=by
   rw[Zc,ZQ,ZR]
  rw[<- d,<- AI a k (b++a),<- e,Zc,fz]
section
variable {X:Cx}{P8:List (af × dQ)}{Z:St}
theorem Inv.lset {a its':List aw} (I:Inv X P8 Z H s) (h:H l=ab (.lst xs)) (e:s.heap.get? l=ab { cls:=.type "list",data:=.seq a.toArray n}) (g:f a.toArray=its'.toArray) (b:wf ys its') (c:ys.length<=av):
  Inv X P8 Z (wS H l (.lst ys)) { s with heap:=s.heap.update l (bS f),toks:=t'}:=by
 have q:=PySem.IsL.update e f;rw[g] at q;refine I.write (x:=l) (e:=l) (by rw[h];exact trivial) (.inl rfl) (λj u i d=>(LJ s.heap (bS f) (a7 i)).trans d) ⟨_,q⟩ ?_;exact⟨c,its',_,b,q⟩
theorem Inv.lnew (I:Inv X P8 Z H s) (c:wf ys a) (b:ys.length<=av):
  Inv X P8 Z (wS H s.heap.objs.size (.lst ys)) { s with heap:=s.heap.push { cls:=.type "list",data:=.seq a.toArray},toks:=t'} :=
 I.laid (λ_ _ q=>e_ _ q) (u_ _) ⟨b,a,0,c,E_ _ rfl⟩
theorem Inv.fresh (I:Inv X P8 Z H s):H s.heap.objs.size=ag:=I.hok.fresh (u_ _)
theorem Inv.lstM (I:Inv X P8 Z H s) (b:H l=ab (.lst xs)):xs.length<=av/\∃(a:List aw) (n:Nat),wf xs a/\xs.length=a.length/\s.heap.get? l=ab { cls:=.type "list",data:=.seq a.toArray n}:=by
 obtain⟨z,a,n,r,e⟩:=I.hok l _ b;exact⟨z,a,n,r,r.length,e⟩
theorem rO (h:n<=av):dy n=am:=by
 unfold dy;exact m_ uS
def Ih:V->List V->Hp->VK->Prop:=λx vs H Q=>∃l xs y,x=.ref l/\vs=[y]/\H l=ab (.lst xs)/\xs.length<av/\Q .non (wS H l (.lst (xs++[y])))
theorem zT:Lo X "list.append" Ih:=by
 intro c s Z H x vs v us Q I f d h;obtain⟨l,xs,y,rfl,rfl,b,i,q⟩:=h;cases f;obtain⟨u,rfl,g⟩:=d.one;obtain⟨z,a,n,r,j,e⟩:=I.lstM b;refine EQ nv ⟨_,e,rfl⟩ l7 (lc _ _) (list_append l a.toArray n u (by rw[x_];omega)) ⟨e,?_⟩;refine⟨.non,_,I.lset (its':=a++[u]) b e wn (r.append (.cons g .nil)) ?_,rfl,q⟩;rw[b_,t_];omega
def Ii:V->List V->Hp->VK->Prop:=λx vs H Q=>∃l b xs a,x=.ref l/\vs=[.ref b]/\H l=ab (.lst xs)/\H b=ab (.lst a)/\xs.length+a.length<=av/\Q .non (wS H l (.lst (xs++a)))
theorem zU:Lo X "list.extend" Ii:=by
 intro g s Z H x vs v us Q I m j h;obtain⟨l,b,xs,B,rfl,rfl,f,t,y,q⟩:=h;cases m;obtain⟨u,rfl,w⟩:=j.one;cases w;obtain⟨z,c,n,r,A,e⟩:=I.lstM f;obtain⟨C,a,o,i,p,k⟩:=I.lstM t;have hsz:c.toArray.size+a.toArray.size<=av:=by rw[x_,x_];omega
 have d:¬(!c.toArray.isEmpty&&dy (c.toArray.size+a.toArray.size))=ai:=by rw[rO hsz,lf];exact K_
 refine EQ F.slot_list_extend ⟨_,e,rfl⟩ F.entry_list_extend (F.args_list_extend_2 _ _)
  (AutoSeq1.list_extend_list_list_0 l c.toArray n b a.toArray o d (by rw[x_];omega) uS) ⟨e,k,?_⟩
 refine⟨.non,_,I.lset (its':=c++a) f e wn (r.append i) ?_,rfl,q⟩;rw[b_];omega
def XC:V->List V->Hp->VK->Prop:=λx vs H Q=>∃l xs y,x=.ref l/\vs=[]/\H l=ab (.lst xs)/\xs[xs.length - 1]?=ab y/\Q y (wS H l (.lst xs.dropLast))
theorem Ph:Lo X "list.pop" XC:=by
 intro f s Z H x vs v us Q I m i h;obtain⟨l,xs,y,rfl,rfl,d,g,q⟩:=h;cases m;have b:=i.zero;subst b;obtain⟨z,a,n,r,k,e⟩:=I.lstM d;obtain⟨u,j,o⟩:=r.get g;have c:a.toArray[a.toArray.size - 1]?=ab u:=by show a.toArray[a.length - 1]?=ab u;rw[<- Kn,<- k];exact j
 refine EQ F.slot_list_pop ⟨_,e,rfl⟩ F.entry_list_pop (F.args_list_pop_1 _) (MeetsSeq.list_pop_last l a.toArray n u c (by rw[x_];omega)) ⟨e,?_⟩;refine⟨y,_,I.lset (its':=a.dropLast) d e ?_ r.dropLast ?_,o,q⟩
 .show a.toArray.eraseIdxIfInBounds (a.toArray.size - 1)=a.dropLast.toArray;rw[x_,List.eraseIdxIfInBounds_toArray,vG]
 rw[fg];omega
def BV:V->List V->Hp->VK->Prop:=λx vs H Q=>∃l xs,x=.ref l/\vs=[]/\H l=ab (.lst xs)/\Q .non (wS H l (.lst xs.reverse))
theorem vH:Lo X "list.reverse" BV:=by
 intro d s Z H x vs v us Q I g f h;obtain⟨l,xs,rfl,rfl,c,q⟩:=h;cases g;have b:=f.zero;subst b;obtain⟨z,a,n,r,i,e⟩:=I.lstM c;refine EQ F.slot_list_reverse ⟨_,e,rfl⟩ F.entry_list_reverse (F.args_list_reverse_1 _) (AutoSeq1.list_reverse_list_0 l a.toArray n (by rw[x_];omega)) ⟨e,?_⟩;refine⟨.non,_,I.lset (its':=a.reverse) c e wn r.reverse ?_,rfl,q⟩;rw[Zo];omega
def XD:R2:=λx y H Q=>∃l b xs a,x=.ref l/\y=.ref b/\H l=ab (.lst xs)/\H b=ab (.lst a)/\xs.length+a.length<=av/\∀p,H p=ag->Q (.ref p) (wS H p (.lst (xs++a)))
theorem Pw:xB X (bt .Add) XD:=by
 intro d s Z H x y v u Q I k m h;obtain⟨l,b,xs,A,rfl,rfl,j,p,t,q⟩:=h;cases k;cases m;obtain⟨z,c,n,r,w,e⟩:=I.lstM j;obtain⟨C,a,B,f,o,i⟩:=I.lstM p;refine PySem.P.add_list e i ?_ (by rw[x_,x_];omega);have g:c.toArray++a.toArray=(c++a).toArray:=wn
 rw[g];exact⟨.ref _,_,I.lnew (t':=s.toks) (r.append f) (by rw[b_];omega),rfl,q _ I.fresh⟩
def XF:R2:=λx y H Q=>∃l k xs,x=.ref l/\y=.int k/\H l=ab (.lst xs) /\ -(2^63)<=k/\k<2^63/\xs.length*k.toNat<=av /\
 ∀p,H p=ag->Q (.ref p) (wS H p (.lst (aS k.toNat xs).flatten))
theorem D8 {b:Type}(xs:List b) (k:Nat):(aS k xs).flatten.length=k*xs.length:=by
 induction k with
 |zero=>simp
 |succ k a=>rw[Zc,ZQ,b_,a,Nat.succ_mul,Nat.add_comm]
theorem Pj:xB X (bt .Mult) XF:=by
 intro w s Z H x y v u Q I D E h;obtain⟨l,k,xs,rfl,rfl,C,J,G,p,q⟩:=h;cases D;obtain⟨t,rfl⟩:=E;obtain⟨z,b,n,r,B,e⟩:=I.lstM C;have d:b.toArray.size*k.toNat<=av:=by rw[x_,<- B];exact p
 have g:¬b.toArray.size*k.toNat>(2^63 - 1) / 8:=by
  have:(av:Nat)<=(2^63 - 1) / 8:=by decide
  omega
 have f:¬(!Builtin.List.listFitsIndex k)=ai:=by rw[fitsIndex_both J G];exact K_
 have c:¬dy (b.toArray.size*k.toNat)=ai:=by rw[rO d];exact K_
 have i:sk (λj o=>j++o) #[] (aS (if b.toArray.isEmpty=ai then 0 else k.toNat) b.toArray)=(aS k.toNat b).flatten.toArray:=by
  have A:∀m:Nat,sk (λj o=>j++o) #[] (aS m b.toArray)=(aS m b).flatten.toArray:=λm=>by have:=AI b m [];rw[IH] at this;exact this
  rw[A];cases b with
  |nil=>simp
  |cons a K=>rw[wc wn]
 refine wpAny_binaryOp_repeat_ref (T:="list") (U:="int") vS ⟨_,e,rfl⟩ (λs'=>rk s' k t) noFill_list_mul F.fills_int_mul ra repeat_list F.slot_int_index.lookup
  (EQ ra (rk s k t) F.entry_int_rmul (F.args_int_rmul_2 _ _) (int___rmul___int_list k t l b.toArray n)
   ⟨e,rfl,⟨_,e,rfl⟩,EQ F.slot_list_mul ⟨_,e,rfl⟩ F.entry_list_mul (F.args_list_mul_2 _ _) (AutoListH.list___mul___list_int_3 l b.toArray n k t f g c) ⟨e,?_⟩⟩)
 rw[i];exact⟨.ref _,_,I.lnew (t':=s.toks) (r.rep k.toNat) (by rw[D8,Nat.mul_comm];exact p),rfl,q _ I.fresh⟩
set_option maxRecDepth 100000 in
end
section
variable {κ:Type}[DecidableEq κ]
def jt (kvs:List (κ × V)) (k:κ):Option V:=(kvs.find? λa=>decide (a.1=k)).map (·.2)
def xD (kvs:List (κ × V)) (k:κ) (v:V):List (κ × V) :=
 if (kvs.any λa=>decide (a.1=k))=ai then kvs.map (λa=>if a.1=k then (a.1,v) else a) else kvs++[(k,v)]
theorem iC {k:κ} (e:p.1=k):jt (p::r) k=ab p.2:=by simp [jt,EA,e]
theorem iD {k:κ} (e:¬p.1=k):jt (p::r) k=jt r k:=by simp [jt,EA,e]
theorem rP (k:κ):∀kvs:List (κ × V),(kvs.any λa=>decide (a.1=k))=(jt kvs k).isSome
 |[]=>rfl
 |p::r=>by
  rw[HI]
  by_cases e:p.1=k
  ·
   simp only[iC e,k_ e,ot,GW]
  ·
   rw[iD e,m_ e,IA];exact rP k r
theorem iG (kvs:List (κ × V)) (k:κ) (v:V):(xD kvs k v).length<=kvs.length+1:=by
 unfold xD;split
 .rw[g_];omega
 rw[b_,n_,YM];omega
theorem AV.isSome_eq (r:AV o u):o.isSome=u.isSome:=by
 cases o with
 |none=>cases u with
  |none=>rfl
  |some _=>exact (show False from r).elim
 |some _=>cases u with
  |none=>exact (show False from r).elim
  |some _=>rfl
theorem KV.val (r:KV kvs vs) (k:κ):AV (jt kvs k) (li vs k):=by
 unfold KV at r;induction r with
 |nil=>exact cx
 |@cons p q ps c h t f =>
 obtain⟨d,g⟩:=h;by_cases e:p.1=k
 .have a:q.1=k:=d.symm.trans e;have b:li (q::c) k=ab q.2:=by simp [li,EA,a]
  rw[iC e,b];exact g
 have a:¬q.1=k:=λz=>e (d.trans z);have b:li (q::c) k=li c k:=by simp [li,EA,a]
 rw[iD e,b];exact f
theorem KV.any (r:KV kvs vs) (k:κ):(kvs.any λa=>decide (a.1=k))=vs.any λa=>decide (a.1=k):=by
 unfold KV at r;induction r with
 |nil=>rfl
 |cons h t b=>rw[HI,HI,b,h.1]
theorem KV.repl (r:KV kvs vs) (k:κ) (d:wl y u):
  KV (kvs.map λa=>if a.1=k then (a.1,y) else a) (vs.map λa=>if a.1=k then (a.1,u) else a):=by
 unfold KV at r |-;induction r with
 |nil=>exact .nil
 |@cons p q ps g h t c =>
 rw[J_,J_];refine .cons ?_ c;obtain⟨b,f⟩:=h;by_cases e:p.1=k
 .rw[we e,we (b.symm.trans e)];exact⟨b,d⟩
 rw[wc e,wc (λz=>e (b.trans z))];exact⟨b,f⟩
theorem KV.put (r:KV kvs vs) (k:κ) (a:wl y u):KV (xD kvs k y) (stored vs k u):=by
 unfold xD stored;rw[r.any k];by_cases e:(vs.any λb=>decide (b.1=k))=ai
 .rw[we e,we e];exact r.repl k a
 rw[wc e,wc e];exact F8 r ⟨rfl,a⟩
theorem KV.length {vs:List (κ × aw)} (r:KV kvs vs):kvs.length=vs.length:=EK r
end
theorem o6 (r:wl (kV k) u):(bO P w).is k u=ai:=by
 cases k with
 |inl i=>obtain⟨t,e⟩:=(show ∃t,u=de i t from r);subst e;exact rE P w i t
 |inr x=>obtain⟨t,e⟩:=(show ∃t,u=lS x t from r);subst e;exact rF P w x t
theorem o7:∀{ks:List xb}{us:List aw},wf (ks.map kV) us->ItemsAre (bO P w) ks us
 |[],_,r=>by rw[ZX] at r;cases r;exact .nil
 |k::ks,_,r=>by
  rw[J_] at r
  cases r with
  |cons h t=>exact .cons (o6 h) (o7 t)
abbrev KT (H:Hp):List (List xb × V)->List (List xb × af × aw)->Prop:=fm λp q=>p.1=q.1/\H q.2.1=ab (.tup (p.1.map kV))/\wl p.2 q.2.2
theorem KT.val (r:KT H kvs xs) (k:List xb):AV (jt kvs k) ((mh xs k).map (·.2)):=by
 induction r with
 |nil=>exact cx
 |@cons p q ps c h t f =>
 obtain⟨d,_,g⟩:=h;by_cases e:p.1=k
 .have a:q.1=k:=d.symm.trans e;have b:mh (q::c) k=ab q.2:=by simp [mh,EA,a]
  rw[iC e,b];exact g
 have a:¬q.1=k:=λz=>e (d.trans z);have b:mh (q::c) k=mh c k:=by simp [mh,EA,a]
 rw[iD e,b];exact f
theorem KT.repl (r:KT H kvs xs) (k:List xb) (g:wl y u):
  KT H (kvs.map λb=>if b.1=k then (b.1,y) else b) (xs.map (putAt k u)):=by
 induction r with
 |nil=>exact .nil
 |@cons p q ps i h t f =>
 rw[J_,J_];refine .cons ?_ f;obtain⟨a,c,d⟩:=h;unfold putAt;by_cases e:p.1=k
 .rw[we e,we (a.symm.trans e)];exact⟨a,c,g⟩
 rw[wc e,wc (λz=>e (a.trans z))];exact⟨a,c,d⟩
theorem KT.put (r:KT H kvs xs) (k:List xb) (c:H b=ab (.tup (k.map kV))) (a:wl y u):
  KT H (xD kvs k y) (js xs k b u):=by
 have e:(kvs.any λd=>decide (d.1=k))=(mh xs k).isSome:=by rw[rP,(r.val k).isSome_eq,G2]
 unfold xD js;rw[e];by_cases q:(mh xs k).isSome=ai
 .rw[we q,we q];exact r.repl k a
 rw[wc q,wc q];exact F8 r ⟨rfl,c,a⟩
theorem KT.keeps (r:KT H kvs xs) (c:∀b ys,H b=ab (.tup ys)->a b=ab (.tup ys)):KT a kvs xs :=
 Paired.mapP r λ_ _ z=>⟨z.1,c _ _ z.2.1,z.2.2⟩
section
variable {P:br}{w:bb}
theorem Le (b:yT P w H h) (e:Rd H a u):y4 P w H h a u:=e.ok b
theorem o8 (b:yT P w H h) (e:Rd H a (.dK kvs)):kvs.length<=av/\(a==dn)=am/\∃vs,KV kvs vs/\h.DictOf (bO P w) a vs :=
 show y4 P w H h a (.dK kvs) from Le b e
theorem Lf (b:yT P w H h) (e:H a=ab (.dK kvs)):kvs.length<=av/\(a==dn)=am/\∃vs,KV kvs vs/\h.DictOf (bO P w) a vs:=o8 b (.inl e)
theorem mz (d:yT P w H h) (e:H a=ab (.tup (ks.map kV))):(lj (bO P w)).is h ks a:=by
 obtain⟨_,b,r,o,g,f,n,c,_⟩:=(show y4 P w H h a (.tup (ks.map kV)) from d a _ e);exact⟨o,b.toArray,n,g,f,c,by simpa using o7 r⟩
theorem rQ (f:yT P w H h) (e:Rd H a (.dT kvs)):kvs.length<=av/\(a==dn)=am /\
  ∃xs,KT H kvs xs/\h.DictOfH (lj (bO P w)) a xs:=by
 obtain⟨z,y,xs,r,o,n,ep,s,k,g,u,j⟩:=(show y4 P w H h a (.dT kvs) from Le f e);refine⟨z,y,xs,r,o,n,ep,s,k,g,u,λx b=>?_,j⟩;have c:∀{l:List (List xb × V)} {m:List (List xb × af × aw)},KT H l m->∀x∈m,(lj (bO P w)).is h x.1 x.2.1:=by
  intro l m q;induction q with
  |nil=>intro x b;exact nomatch b
  |@cons p q ps v d t i =>
  intro x b;rcases y_.mp b with e | b
  .subst e;exact mz f (by rw[<- d.1];exact d.2.1)
  exact i x b
 exact c r x b
theorem Uj (b:yT P w H h) (e:H a=ab (.dT kvs)):kvs.length<=av/\(a==dn)=am /\
  ∃xs,KT H kvs xs/\h.DictOfH (lj (bO P w)) a xs:=rQ b (.inl e)
end
def B6 (H:Hp) (a:af) (y:V) (r:Option V):Prop :=
 (∃kvs k,Rd H a (.dK kvs)/\y=kV k/\r=jt kvs k)\/∃kvs k b,Rd H a (.dT kvs)/\y=.ref b/\H b=ab (.tup (k.map kV))/\r=jt kvs k
def ET (H:Hp) (a:af) (y v:V) (c:Hp):Prop :=
 (∃kvs k,H a=ab (.dK kvs)/\y=kV k/\kvs.length<av/\c=wS H a (.dK (xD kvs k v))) \/
 ∃kvs k b,H a=ab (.dT kvs)/\y=.ref b/\H b=ab (.tup (k.map kV))/\kvs.length<av/\c=wS H a (.dT (xD kvs k v))
theorem B6.k {k:xb} (e:H a=ab (.dK kvs)):B6 H a (kV k) (jt kvs k):=.inl ⟨kvs,k,.inl e,rfl,rfl⟩
theorem B6.t {k:List xb} (e:H a=ab (.dT kvs)) (c:H b=ab (.tup (k.map kV))):B6 H a (.ref b) (jt kvs k):=.inr ⟨kvs,k,b,.inl e,rfl,c,rfl⟩
theorem ET.k {k:xb} (e:H a=ab (.dK kvs)) (b:kvs.length<av):ET H a (kV k) v (wS H a (.dK (xD kvs k v))):=.inl ⟨kvs,k,e,rfl,b,rfl⟩
theorem ET.t {k:List xb} (e:H a=ab (.dT kvs)) (d:H b=ab (.tup (k.map kV))) (c:kvs.length<av):
  ET H a (.ref b) v (wS H a (.dT (xD kvs k v))):=.inr ⟨kvs,k,b,e,rfl,d,c,rfl⟩
section
variable {X:Cx}{P8:List (af × dQ)}{Z:St}
theorem Inv.big (I:Inv X P8 Z H s):dn<s.heap.objs.size:=by
 have h:bv<s.heap.objs.size:=(I.mod.glob.keeps I.bk).lt;exact YX vS h
theorem zV (x:A.units+1<cc) (I:Inv X P8 Z H s) (g:B6 H a y (ab v)) (q:wl y u) (h:∀f s',Inv X P8 Z H s'->wl v f->Q f s'):
  ay (aT X.prog X.w) A (eI (.ref a) u) Q E s:=by
 rcases g with ⟨kvs,k,e,m,l⟩ | ⟨kvs,k,b,e,m,t,l⟩
 .subst m;obtain⟨z,B,vs,d,j⟩:=o8 I.hok e;obtain⟨f,n,c⟩:=AV.some_of (v:=v) (o:=li vs k) (by rw[l];exact d.val k);exact wpAny_getItem_of (o6 q) j.mapOf n (h f _ (I.tok _) c)
 subst m;cases (show u=a4 b from q);obtain⟨z,B,xs,d,j⟩:=rQ I.hok e;obtain⟨f,n,c⟩:=AV.some_of (v:=v) (o:=(mh xs k).map (·.2)) (by rw[l];exact d.val k);obtain⟨p,r,i⟩:=IN.mp n;refine wpAny_getItem_heap (Kk x) (mz I.hok t) j r ?_;rw[i];exact h f _ (I.tok _) c
theorem XH (n:A.units+1<cc) (I:Inv X P8 Z H s) (g:B6 H a y o) (j:wl y u) (h:∀s',Inv X P8 Z H s'->Q (.bool o.isSome) s'):
  ay (aT X.prog X.w) A (a9 .In u (.ref a)) Q E s:=by
 rcases g with ⟨kvs,k,e,f,l⟩ | ⟨kvs,k,b,e,f,m,l⟩
 .subst f;obtain⟨z,i,vs,c,d⟩:=o8 I.hok e;refine wpAny_in_of (o6 j) i d.mapOf ?_;rw[<- (c.val k).isSome_eq,<- l];exact h _ (I.tok _)
 subst f;cases (show u=a4 b from j);obtain⟨z,i,xs,c,d⟩:=rQ I.hok e;refine sA (Kk n) (mz I.hok m) i d ?_;have q:=(c.val k).isSome_eq;rw[G2] at q;rw[<- q,<- l];exact h _ (I.tok _)
theorem Ij (n:A.units+1<cc) (I:Inv X P8 Z H s) (g:B6 H a y o) (j:wl y u) (h:∀s',Inv X P8 Z H s'->Q (.bool (!o.isSome)) s'):
  ay (aT X.prog X.w) A (a9 .NotIn u (.ref a)) Q E s:=by
 rcases g with ⟨kvs,k,e,f,l⟩ | ⟨kvs,k,b,e,f,m,l⟩
 .subst f;obtain⟨z,i,vs,c,d⟩:=o8 I.hok e;refine wpAny_notIn_of (o6 j) i d.mapOf ?_;rw[<- (c.val k).isSome_eq,<- l];exact h _ (I.tok _)
 subst f;cases (show u=a4 b from j);obtain⟨z,i,xs,c,d⟩:=rQ I.hok e;refine oy (Kk n) (mz I.hok m) i d ?_;have q:=(c.val k).isSome_eq;rw[G2] at q;rw[<- q,<- l];exact h _ (I.tok _)
theorem qi (I:Inv X P8 Z H s) (mu:Fa (H a)) (h:cE a s.heap h') (f:∃q,h'.get? a=ab q) (d:y4 X.prog X.w (wS H a c) h' a c):
  Inv X P8 Z (wS H a c) { s with heap:=h',toks:=t'} :=
 I.write (x:=a) (e:=a) mu (.inl rfl) (λb q g z=>(h.2 b g).trans z) f d
theorem BW (z:kvs.length<=av) (d:(a==dn)=am) (b:KV kvs vs) (c:h'.DictOf (bO P w) a vs):
  y4 P w e h' a (.dK kvs):=⟨z,d,vs,b,c⟩
theorem zW (M:A.units+1<cc) (I:Inv X P8 Z H s) (g:ET H a y v G) (C:wl y u) (F:wl v r) (h:∀s',Inv X P8 Z G s'->Q () s'):
  ay (aT X.prog X.w) A (tf (.ref a) u r) Q E s:=by
 rcases g with ⟨kvs,k,e,m,l,x⟩ | ⟨kvs,k,b,e,m,B,l,x⟩
 .subst m x;obtain⟨z,o,vs,d,t⟩:=Lf I.hok e;have j:vs.length<=av:=by rw[<- d.length];exact z
  have n:(xD kvs k v).length<=av:=by have:=iG kvs k v;omega
  refine wpAny_setItem_pairs (hsz:=j) (o6 C) t λh' f p=>h _ ?_;have K:∃q,h'.get? a=ab q:=let ⟨q,_,_,i,_⟩:=f;⟨q,i⟩;exact qi I (by rw[e];exact cx) p K (BW n o (d.put k F) f)
 subst m x;cases (show u=a4 b from C);obtain⟨z,o,xs,d,t⟩:=Uj I.hok e;have j:xs.length<=av:=by rw[<- EK d];exact z
 have n:(xD kvs k v).length<=av:=by have:=iG kvs k v;omega
 refine wpAny_setItem_heap (hsz:=j) (Kk M) (mz I.hok B) t λh' f p=>h _ ?_;obtain⟨q,O,ep,i,N,P,L,_,J⟩:=f;refine qi I (by rw[e];exact cx) p ⟨q,i⟩ ⟨n,o,_,(d.put k B F).keeps λc R D=>?_,q,O,ep,i,N,P,L,J⟩;rw[bz (Tf D e (λz=>nomatch z))];exact D
end
def Pk (i:Expr):Prop:=∀b a,kK i am b a=operate [b,a] (eI b a)
theorem Ik (p:mx (.type T) "__getitem__"=ce (ab (.builtin n))) (q:Pk a) (h:ay (aT prog w) A (bP b env) (λo f=>ay (aT prog w) A (bP a env) (λi c=>c.TypeIs o T/\ay (aT prog w) A (eI o i) Q E c) E f) E s):
  ay (aT prog w) A (bP (.Subscript b a l) env) Q E s:=by
 refine mT (ZK h (λo f k=>ZK k (λi c d=>?_) λ_ _ x=>x) λ_ _ x=>x);obtain⟨m,d⟩:=d;unfold iP;refine a_ ?_;rw[getitemInPython_of_ne m.not_modules];refine a_ (Fc m p ?_);have g:ay (aT prog w) A (kK a am o i) (λr e=>ay (aT prog w) A (letTemporaryGo b o r >>= λ_=>ce r) Q E e) E c:=by rw[q o i];exact wpAny_operating (ZK d (λr e j=>a_ (wpAny_letTemporaryGo (l_ j))) λ_ _ x=>x)
 first
  |exact l_ (a_ g)
  |exact a_ (l_ (a_ g))
  |exact a_ g
theorem rR {Z:St} (I:Inv X c Z H s) (g:B6 H a y o):s.TypeIs (.ref a) "dict":=by
 rcases g with ⟨kvs,k,e,_,_⟩ | ⟨kvs,k,b,e,_,_,_⟩
 .obtain⟨_,_,vs,_,d⟩:=o8 I.hok e;exact d.typeIs
 obtain⟨_,_,xs,_,d⟩:=rQ I.hok e;exact d.typeIs
def Uk (e d:TE):TE:=λZ H Q=>e Z H λx c=>d Z c λy b=>∃a v,x=.ref a/\B6 b a y (ab v)/\Q v b
def XJ (d e:TE):TE:=λZ H Q=>d Z H λy c=>e Z c λx b=>∃a o,x=.ref a/\B6 b a y o/\Q (.bl o.isSome) b
def Il (d e:TE):TE:=λZ H Q=>d Z H λy c=>e Z c λx b=>∃a o,x=.ref a/\B6 b a y o/\Q (.bl (!o.isSome)) b
def Ul (g f c:TE):TS:=λD Z H=>c Z H λv e=>g Z e λx d=>f Z d λy H3=>∃a b,x=.ref a/\ET H3 a y v b/\D.nx Z b
theorem Im (t:X.A.units+1<cc) (k:PE X o td) (w:PE X i ty) (z:Pk i):PE X (.Subscript o i P9) (Uk td ty):=by
 intro b s Z H Q I h;refine Ik PySem.F.slot_dict_getitem.lookup z (wx (k b s Z H _ I h) λu q ⟨x,j,n,l,r⟩=>wx (w b q Z j _ n r) λC G ⟨y,p,d,e,a,v,f,g,B⟩=>?_);subst f;obtain rfl:u=a4 a:=l;exact⟨rR d g,zV t d g e λD E m c=>⟨v,p,m,c,B⟩⟩
theorem Pn (r:X.A.units+1<cc) (t:PE X i ty) (f:PE X o td):PC X .In i o (XJ ty td):=by
 intro b s Z H Q I h;refine wx (t b s Z H _ I h) λz p ⟨y,e,l,c,q⟩=>wx (f b p Z e _ l q) λu C ⟨x,m,v,j,a,n,d,g,w⟩=>?_;subst d;obtain rfl:u=a4 a:=j;exact XH r v g c λB k=>⟨.bl n.isSome,m,k,rfl,w⟩
theorem zX (r:X.A.units+1<cc) (t:PE X i ty) (f:PE X o td):PC X .NotIn i o (Il ty td):=by
 intro b s Z H Q I h;refine wx (t b s Z H _ I h) λz p ⟨y,e,l,c,q⟩=>wx (f b p Z e _ l q) λu C ⟨x,m,v,j,a,n,d,g,w⟩=>?_;subst d;obtain rfl:u=a4 a:=j;exact Ij r v g c λB k=>⟨.bl (!n.isSome),m,k,rfl,w⟩
theorem xK (w:X.A.units+1<cc) (j:PE X o td) (z:PE X i ty) (G:PE X value tv) (E:dL value (ab (.Subscript o i QA)) P9.line X.env=ce am) :
  PS X (.Assign [.Subscript o i QA] value P9) (Ul td ty tv):=by
 intro b s Z H D I h;refine wpAny_Assign_Subscript (wx (G b s Z H _ I h) λr q ⟨v,f,m,n,t⟩=>wx (j b q Z f _ m t) λu B ⟨x,p,C,k,J⟩=>wx (z b B Z p _ C J) λL M ⟨y,H3,l,c,a,K,d,g,F⟩=>?_) E;subst d;obtain rfl:u=a4 a:=k;exact zW w l g c n λN e=>⟨Z,K,e,F⟩
theorem rT (h:ci) (a:dn<h.objs.size):y4 P w H (h.push { cls:=.type "dict",data:=.dict #[]}) h.objs.size (.dK []) :=
 ⟨Y5 _,Y6.mpr (a7 (L_ a)),[],.nil,Heap.DictOf.new h⟩
def Pq:TE:=λ_ H Q=>∀p,H p=ag->Q (.ref p) (wS H p (.dK []))
theorem rW:PE X (.Dict [] [] P9) Pq:=λb s Z H Q I h =>
 wpAny_Dict_empty ⟨.ref s.heap.objs.size,_,I.laid (a:=s.heap.objs.size) (o:=.dK []) (t':=s.toks) (λ_ _ q=>e_ _ q) (u_ _) (rT s.heap I.big),rfl,h _ (I.hok.fresh (u_ _))⟩
def vI:List (TE × TE)->St->Hp->(List (V × V)->Hp->Prop)->Prop
 |[],_,H,Q=>Q [] H
 | (tk,tv)::r,Z,H,Q=>tk Z H λx b=>tv Z b λy a=>vI r Z a λps H3=>Q ((x,y)::ps) H3
abbrev VV:List (V × V)->List (aw × aw)->Prop:=fm λp q=>wl p.1 q.1/\wl p.2 q.2
def LX (X:Cx) (e:mi) (c:List (Option Expr)) (a:List Expr) (d:List (TE × TE)):Prop :=
 ∀(b:List (af × dQ)) (s:aI) (Z:St) (H:Hp) (Q:List (V × V)->Hp->Prop),Inv X b Z H s->vI d Z H Q ->
  ay (aT X.prog X.w) X.A (evalPairs (pairTrees c a X.env e)) (λvs s'=>∃ps f,Inv X b Z f s'/\VV ps vs/\Q ps f) X.xe s
theorem Io:LX X a [] [] []:=λb s Z H Q I h=>pairTrees_nil_walk ⟨[],H,I,.nil,h⟩
theorem BX (m:PE X k tk) (w:PE X v e) (A:LX X c ks vs b):
  LX X c (ab k::ks) (v::vs) ((tk,e)::b):=λa s Z H Q I h =>
 pairTrees_cons_walk (wx (m a s Z H _ I h) λu o ⟨x,g,l,i,p⟩=>wx (w a o Z g _ l p) λC q ⟨y,n,r,f,z⟩ =>
  wx (A a q Z n _ r z) λws B ⟨ps,H3,j,d,t⟩=>⟨(x,y)::ps,H3,j,.cons ⟨i,f⟩ d,t⟩)
def kh (kvs a:List (xb × V)):List (xb × V):=a.foldl (λb c=>xD b c.1 c.2) kvs
theorem KV.merge:∀{a:List (xb × V)}{b:List (xb × aw)}{kvs:List (xb × V)}{vs:List (xb × aw)},KV a b->KV kvs vs->KV (kh kvs a) (merged vs b):=by
 intro a b kvs vs r;unfold KV at r;induction r generalizing kvs vs with
 |nil=>intro q;exact q
 |@cons p q ps f h t c =>
 intro d;have e:KV (xD kvs p.1 p.2) (stored vs q.1 q.2):=by have:=d.put p.1 h.2;rw[<- h.1];exact this
 exact c e
theorem jo:∀(a kvs:List (xb × V)),(kh kvs a).length<=kvs.length+a.length
 |[],kvs=>by show kvs.length<=kvs.length+0;omega
 |p::r,kvs=>by
  have c:=jo r (xD kvs p.1 p.2)
  have b:=iG kvs p.1 p.2
  show (kh (xD kvs p.1 p.2) r).length<=_
  rw[n_];omega
theorem mC:∀{kvs:List (xb × V)}{ws:List (aw × aw)},VV (kvs.map λe=>(kV e.1,e.2)) ws->∃d,Carries (bO P w) ws d/\KV kvs d
 |[],_,r=>by rw[ZX] at r;cases r;exact⟨[],cx,.nil⟩
 |p::kvs,_,r=>by
  rw[J_] at r
  cases r with
  |@cons a b i j h t =>
   obtain⟨d,c,q⟩:=mC (P:=P) (w:=w) t
   obtain⟨g,f⟩:=b
   exact⟨(p.1,f)::d,⟨o6 h.1,rfl,c⟩,.cons ⟨rfl,h.2⟩ q⟩
def Um (a:List (TE × TE)):TE:=λZ H Q=>∀p,H p=ag->vI a Z (wS H p (.dK [])) λps b=>b p=ab (.dK [])/\∃kvs:List (xb × V),ps=kvs.map (λc=>(kV c.1,c.2))/\kvs.length<=15/\Q (.ref p) (wS b p (.dK (kh [] kvs)))
theorem Ip (h:LX X i b d g) (f:b.all (·.isSome)=ai) (y:b.length=d.length) (u:b≠[]) (l:b.length<=15):PE X (.Dict b d i) (Um g):=by
 intro k s Z H Q I q;have t:=I.hok.fresh (u_ s.heap.objs.size);have A:=I.laid (a:=s.heap.objs.size) (o:=.dK []) (h':=s.heap.push { cls:=.type "dict",data:=.dict #[]}) (t':=s.toks) (λ_ _ q=>e_ _ q) (u_ _) (rT s.heap I.big);refine wpAny_Dict_walk (knd:=bO X.prog X.w) f y u l (wx (h k _ Z _ _ A (q _ t)) λws M ⟨ps,L,n,m,e,kvs,ep,K,F⟩=>?_);subst ep;obtain⟨G,c,x⟩:=mC (P:=X.prog) (w:=X.w) m;obtain⟨z,D,p,B,J⟩:=Lf n.hok e;cases B;refine⟨G,c,J,λh' j E=>⟨.ref s.heap.objs.size,_,?_,rfl,F⟩⟩;have r:(kh [] kvs).length<=av:=by have C:=jo kvs [];rw[YM] at C;rw[Fk];omega
 have v:∃q,h'.get? s.heap.objs.size=ab q:=let ⟨q,_,_,hq,_⟩:=j;⟨q,hq⟩;exact qi n (by rw[e];exact cx) E v (BW r D (x.merge .nil) j)
end L2
namespace Att
open PySem PySem.W PySem.Calls PyProof.Rows
theorem lH:∀(ns:List Int) (vs:List aw),WellAll P h vs (ns.map WData.int)->db vs ns:=by
 intro ns;induction ns with
 |nil=>intro vs w;rw[ZX] at w;cases w;exact .nil
 |cons n ns c =>
 intro vs w;rw[J_] at w;cases w with
 |cons a b =>
 cases a;exact .cons _ _ (c _ b)
theorem zY {l:OpenLaw} (p:l.most=ab n) (c:l.row.toRowW.claim.pre args=ai) (j:WellAll P h b args):
  ∃a vs ns,b=[a4 a]/\args=[WData.list (ns.map WData.int)]/\h.get? a=ab { cls:=.type "list",data:=.seq vs.toArray}/\db vs ns/\ns.length<=n:=by
 have k:WShape.hasAll [] args [.list .int]=ai:=(pre_splitW c).1;have m:l.pre.holds [] { args:=args}=ai:=(pre_splitW c).2;obtain⟨d,r,rfl,x,w⟩:=hasAllW_cons k;obtain rfl:=hasAllW_nil w;obtain⟨xs,rfl,o⟩:=hasW_list x;obtain⟨ns,rfl⟩:=items_int o;have e:ns.length<=n:=by
  unfold OpenLaw.pre at m;have i:(WTm.not (.lt (.lit (.int (n:Int))) (.len (.arg 0)))).holds [] { args:=[.list (ns.map .int)]}=ai:=by have i:=(holds_andW m).1;rw[p] at i;exact i
  have g:=condW_of i (w_not (w_lt w_lit (w_len_list (w_arg rfl))));rw[g_] at g;refine pb λq=>?_;have t:(n:Int)<((ns.length:Nat):Int):=uS
  first
   | (rw[k_ t] at g;exact wT g vS)
   | (simp at g;omega)
 cases j with
 |cons v u =>
 cases u;cases v with
 |list s f=>exact⟨_,_,ns,rfl,rfl,s,lH ns _ f,e⟩
theorem zZ (l:OpenLaw) (args:List WData):l.row.toRowW.claim.post args (.bool ai) args=ai :=
 postW_of (r:=l.row.toRowW) (X:=(ai==ai))
  (show WShape.has [] (.bool ai) .bool=ai by first | rfl | decide | simp [WShape.has,WShape.arms,WShape.armsAll])
  (show (WTm.eq .res (.lit (.bool ai))).value [] { args:=args,res:=ab (.bool ai),after:=args}=ab (.bool (ai==ai)) from w_eq_bool (w_res rfl) w_lit) rfl
theorem ado {l:OpenLaw} (E:l.most=ab n) (t:d.params.defaults=[]) (j:∀(w:bb) (c b:aI) (s z:ap->Option aw) (i:af) (o:dQ) (v p g:aw) (a:af) (vs:List aw) (ns:List Int),
   Ground q loose [] XP w c s z b.heap->YP w b.heap ->
   b.heap.get? i=ab o->o.data=.func (docDef d.name d.params d.body d.scope v p g)->b.heap.CodeRec p d.name->s d.name=ab (.ref i) ->
   b.heap.get? a=ab { cls:=.type "list",data:=.seq vs.toArray}->db vs ns->ns.length<=n->b.gens=#[] ->
   eJ (aT l.prog w) lI (.call (.ref i) ⟨[.ref a],[]⟩) (λr s'=>r=.ok (.ret (.bool ai))/\OldK b.heap s'.heap/\s'.os=b.os/\iL s'.gens) b):
  WalkO q loose XP YP l.row.toRowW d [] (λf vs=>sf f vs):=by
 intro w c b s z G Y i o v p g dV kV I M x A y P B C Q m D F u J;obtain rfl:dV=.none:=Dflts.none A t;obtain rfl:kV=.none:=Dflts.noKw A;obtain⟨a,vs,ns,rfl,rfl,h,e,k⟩:=zY E m u;refine enter_call (f8 (j w c b s z i o v p g a vs ns G Y I (fd_plain M) x y h e k P) λr s' H=>?_);obtain⟨rfl,N,O,K⟩:=H;exact⟨.inl ⟨.bool ai,.bool ai,[],rfl,λ_=>rfl,.bool ai,zZ l _,λ_=>⟨iF,λ_ L=>(nomatch L)⟩⟩,N,O,K⟩
def MS (h : ci) (L d : af) : List (af × dQ):=(ax h.objs.size).filterMap λa => if a = L \/ a = d then ag else (h.get? a).map λo => (a,o)
end Att
namespace L2
theorem o9:∀{vs:List aw}{ns:List Int},db vs ns->wf (ns.map V.int) vs
 |_,_,.nil=>.nil
 |_,_,.cons n t h=>.cons ⟨t,rfl⟩ (o9 h)
def FI (H:Hp):Prop:=∀b,H b=ag\/∃o xs,H b=ab (.frz o (.lst xs))
theorem BZ {K:a6} (W:K.In c.heap) (G:c.heap.Ns bv I) (g:c.heap.Ns mS T) (R:∀x:ap,x≠"__name__"->T x=a8 x) (C:c.heap.NoLimit) (hg:c.gens=#[]) (J:c.heap.get? a=ab { cls:=.type "list",data:=.seq vs.toArray}) (hi:db vs ns) (X:ns.length<=av) (hr:zc k lI) (F:∀base:ci,K.In base->base.Ns bv I->D1 P w K I base CX k N U [x] sp) (l:∀(s:aI) (u:aw),ow s U ⟨[u],[]⟩ [(x,u)]) (L:∀H:Hp,FI H->y8 K H a (ns.map V.int)->sp [.ref a] H (λv _=>v=.bl ai) λ_ _ _=>False) (S:∀H e s',CX [] H c (λ_ _ _=>False) e s'->False):
  eJ (aT P w) lI (.call (.ref N) ⟨[.ref a],[]⟩) (λr s'=>r=.ok (.ret (.bool ai))/\OldK c.heap s'.heap/\s'.os=c.os/\iL s'.gens) c:=by
 have rv:=o9 hi;have A:=hi.length
 have j:∀H:Hp,FI H->y8 K H a (ns.map V.int)->yT P w H c.heap->(∀b,H b≠ag->b=a)->(H a≠ag->K.lookup a=ag) ->
   eJ (aT P w) lI (.call (.ref N) ⟨[.ref a],[]⟩) (λr s'=>r=.ok (.ret (.bool ai))/\OldK c.heap s'.heap/\s'.os=c.os/\iL s'.gens) c:=by
  intro H hO hS D Z hK
  have f:∀{b:af} {o:dQ},c.heap.get? b=ab o->H b=ag->(pZ c.heap H).get? b=ab o:=λe n=>Bj e n
  have O:∀{b:af} {o:dQ} {E:Array qa} {ep:Nat},c.heap.get? b=ab o->o.data=.dict E ep->H b=ag:=λ{b o E ep} e d=>by
   cases q:H b with
   |none=>rfl
   |some u =>
    have M:b=a:=Z b (by rw[q];simp)
    subst M
    rw[J] at e;cases e
    have d':Data.seq vs.toArray _=Data.dict E ep:=d
    cases d'
  have i:∀{b:af} {m:ap->Option aw},c.heap.Ns b m->(pZ c.heap H).Ns b m:=λ{b m} ⟨o,E,ep,e,d,r⟩=>⟨o,E,ep,f e (O e d),d,r⟩
  have t:K.In (pZ c.heap H):=λb o e=>f (W b o e) (by
   cases q:H b with
   |none=>rfl
   |some u =>
    have M:b=a:=Z b (by rw[q];simp)
    subst M
    rw[hK (by rw[q];simp)] at e;cases e)
  have hM:Mod K I (pZ c.heap H):=⟨t,i G,⟨T,i g,R⟩,let ⟨mc,h1,h2⟩:=C;⟨mc,i h1,h2⟩⟩
  have e0:Fh P w K I (pZ c.heap H) lI [] c H:=⟨rfl,hM,λb o e=>Ho e,FX (zG _ _),wo,λb g=>wT (show b∈([]:List af) from g) wn,D,.of_eq hg⟩
  refine f8 ((F _ t (i G)).run lI [] c H ⟨[.ref a],[]⟩ [.ref a] [.ref a] _ _ hr e0 (l c (.ref a)) (.cons rfl .nil) (L H hO hS)) λr s' h=>?_
  cases r with
  |error e=>exact (S H e s' h).elim
  |ok fl =>
   cases fl with
   |next=>exact cy h
   |brk=>exact cy h
   |cont=>exact cy h
   |ret u =>
    obtain⟨v,H',os,y,Y,B,r',q⟩:=h
    have q':v=.bl ai:=q
    subst q'
    obtain rfl:u=c8 ai:=r'
    refine⟨rfl,OldK.of_keep λb o e=>?_,os,y⟩
    cases q:H b with
    |none=>exact Y.keep b o e q (by intro z;exact wT (show b∈([]:List af) from z) wn) wn
    |some u =>
     rcases hO b with z | ⟨ob,xs,z⟩
     ·
      rw[q] at z;cases z
     ·
      have z2:=Y.frzs b ob _ z
      obtain⟨e1,_⟩:=D b _ z
      obtain⟨e2,_⟩:=B b _ z2
      rw[e] at e1;cases e1
      exact e2
 cases Q:K.lookup a with
 |some o =>
  have e:=W a o Q
  rw[J] at e
  cases e
  refine j (λ_=>ag) (λ_=>.inl rfl) (.inr ⟨_,vs.toArray,_,Q,rfl,rfl,rfl,by rw[x_,A];exact X,by simpa using rv⟩) (λb u z=>by have p:(ag:Option HO)=ab u:=z;cases p) (λb z=>wT rfl z) λz=>wT rfl z
 |none =>
 refine j (λb=>if b=a then ab (.frz { cls:=.type "list",data:=.seq vs.toArray} (.lst (ns.map V.int))) else ag) (λb=>?_) (.inl (.inr ⟨{ cls:=.type "list",data:=.seq vs.toArray},we rfl⟩)) (λb u z=>?_) (λb z=>?_) λ_=>Q
 .by_cases g:b=a
  .exact .inr ⟨_,_,we g⟩
  exact .inl (wc g)
 .by_cases g:b=a
  .have p:=(we g).symm.trans z;cases p;subst g;exact⟨J,by rw[g_];exact X,vs,_,rv,J⟩
  have p:=(wc g).symm.trans z;cases p
 by_cases g:b=a
 .exact g
 exact wT (wc g) z
abbrev KOf {K:a6}{h:ci}(_:K.In h):a6:=K
theorem aeq {l:PySem.W.OpenLaw}{K:nk->a6}{CX:bb->E5}{sp:bb->Sp} (I:l.most=ab n) (A:n<=av) (y:d.params.defaults=[]) (R:zc k lI) (M:∀(w:bb) (h:ci),YP w h->(K w.params).In h) (F:∀(w:bb) (j:ap->Option aw) (r:af) (h:ci),(K w.params).In h->h.Ns bv j->j d.name=ab (.ref r) ->
   ∃t:dk,(∀(s:aI) (u:aw),ow s t ⟨[u],[]⟩ [(x,u)]) /\
    ∀base:ci,(K w.params).In base->base.Ns bv j->D1 l.prog w (K w.params) j base (CX w) k r t [x] (sp w)) (z:∀(w:bb) (H:Hp) (a:af) (ns:List Int),ns.length<=n->FI H->y8 (K w.params) H a (ns.map V.int)->sp w [.ref a] H (λv _=>v=.bl ai) λ_ _ _=>False) (B:∀(w:bb) (H:Hp) (s:aI) (e:aw) (s':aI),CX w [] H s (λ_ _ _=>False) e s'->False):
  sN q loose XP YP l.row.toRowW d [] (λf vs=>sf f vs):=by
 refine Att.ado I y λw E p j mb r o X cd L a vs ns G Y U Z O C m i c S=>?_;have D:=M w _ Y;obtain⟨t,J,N⟩:=F w j r _ D G.T.g C;exact BZ D G.T.g G.T.b G.T.builtins G.T.nolimit S m i (R_ c A) R N J (λH Q P=>z w H a ns c Q P) λH e s'=>B w H p e s'
end L2
namespace L2
abbrev E8:E5:=λ_ _ _ _ _ _=>False
abbrev E0:XK:=λ_ _ _=>False
theorem Ca:j9 E8 X E0:=λ_ _ _ _ _ _ _ h=>h.elim
structure DD (K:a6) (x qual:ap) (st:ef) (f:af) (fd:dk):Prop where
 ex:∃(oc:aw) (od:Option af) (kV doc pm:aw) (an:Option af) (cdv ct:aw) (osl:Array (Option aw)),
  fd=mM x qual (dh st) (cP st) (aC st) .none kV doc pm an cdv ct/\K.lookup f=ab ⟨oc,od,.func fd,osl⟩/\o1 K cdv qual=ai
 kp:jv K (.ref f)=ai
section
variable {P:br}{w:bb}{K:a6}
theorem DD.ok {st:ef} (F:DD K x b st f j) (S:fY N ps (aC st)) (i:∀vs H Q E,sp vs H Q E->vs.length=ps.length) (d:∀(c:aw) (A:dA) (a:List tJ) (s:aI) (H:Hp) (vs:List V) (Q:VK) (E:XK),zc k (A.deeper (iX b (aC st) s.heap.objs.size f c))->sp vs H Q E ->
   ∃t,AQ (vA E8 P w K mg base N b (aC st) f c A a s H E).nox (cP st) t/\t { nx:=λ_ H'=>Q .non H',rt:=Q} (start N vs) H):D1 P w K mg base E8 (k+1) f j ps sp:=by
 obtain⟨y,r,kV,n,v,u,c,p,m,rfl,l,g⟩:=F.ex;refine T9 l g S i λA a s H vs Q E o e=>?_;obtain⟨t,h,q⟩:=d c A a s H vs Q E o e;exact⟨t,h.nox,q⟩
theorem DD.binds {st:ef} (F:DD K x a st f i) (h:∀(kV c e:aw) (g:Option af) (b d:aw) (us:List aw),us.length=ps.length->cS (mM x a (dh st) (cP st) (aC st) .none kV c e g b d) ⟨us,[]⟩=ce (ps.zip us)):xI K i ps []:=by
 obtain⟨n,m,kV,c,e,g,b,d,k,rfl,l,j⟩:=F.ex;exact .all (h kV c e g b d)
theorem Cd {st:ef}{kV d h b g:aw} (l:K.lookup f=ab ⟨m,j,.func (mM x a (dh st) (cP st) (aC st) .none kV d h i b g),e⟩) (c:o1 K b a=ai) (k:jv K (.ref f)=ai):DD K x a st f (mM x a (dh st) (cP st) (aC st) .none kV d h i b g):=⟨⟨m,j,kV,d,h,i,b,g,e,rfl,l,c⟩,k⟩
variable {X:Cx}
theorem pv (i:Nat) {b:mi} (e:X.N[i]?=ab x:=by rfl) (c:Jn X.env.scope x:=by first | exact j3 rfl | exact fq (j3 rfl) | exact fq (fq rfl)) (d:(x==("__debug__":ap))=am:=by decide) (a:(x==("__classdict__":ap))=am:=by decide):PE X (.Name x b) (Tg i):=NZ e c d a
end
theorem XM {A B:Prop}(h:B):if am=ai then A else B:=by
 rw[wc K_];exact h
theorem XN {A B:Prop}(h:A):if ai=ai then A else B:=by
 rw[we rfl];exact h
section
variable {κ:Type}[DecidableEq κ]
theorem gD:∀{l:List κ}{k:κ},l.Nodup->¬k∈l->(l++[k]).Nodup
 |[],k,_,_=>by simp
 |a::r,k,h,hk=>by
  obtain⟨c,b⟩:=Y4.mp h
  show (a::(r++[k])).Nodup
  refine Y4.mpr ⟨λm=>?_,gD b λm=>hk (y_.mpr (fq m))⟩
  rcases q_.mp m with q | q
  ·
   exact c q
  ·
   exact hk (y_.mpr (j3 (j_.mp q).symm))
end
abbrev NK:=Int × List ap
section
variable {s:aI}
def rY (ns:List ap):List xb:=ns.map cq
theorem mD:∀{a b:List ap},rY a=rY b->a=b
 |[],[],_=>rfl
 |x::a,y::b,h=>by
  injection h with h1 h2
  rw[io h1,mD (a:=a) (b:=b) h2]
def AS (prog:br) (w:bb) (h:ci) (k:NK) (a:af):Prop:=∃o t b n,h.get? a=ab o/\o.cls=.type "tuple"/\o.data=.seq #[.int k.1 t,.ref b] n/\sv (bO prog w) h (rY k.2) b
def vJ (w:bb) (k:NK):Int:=mB (ib [Nz w (.inl k.1),mB (ib ((rY k.2).map (Nz w)))])
theorem AS.ty (x:AS prog w s.heap k a):s.TypeIs (.ref a) "tuple":=let ⟨o,_,_,_,ho,hc,_⟩:=x;⟨o,ho,hc⟩
theorem AS.inj (j:AS prog w h x a) (g:AS prog w h y a):x=y:=by
 obtain⟨o,t,b,n,k,_,p,i⟩:=j;obtain⟨A,t',s,u,d,_,c,f⟩:=g;rw[k] at d;cases d;rw[p] at c;obtain⟨z,q⟩:=x;obtain⟨v,m⟩:=y;simp at c;obtain⟨⟨⟨r,_⟩,l⟩,_⟩:=c;subst r l;have e:q=m:=mD (i.inj f);rw[e]
theorem Ce (h:Q (mB z) s):ay (aT prog w) A (pyHashByItsType.reduced z) Q E s:=by
 show ay _ _ (if (decide (-(2:Int)^63<=z)&&decide (z<2^63))=ai then _ else _) Q E s;unfold mB at h;by_cases c:(decide (-(2:Int)^63<=z)&&decide (z<2^63))=ai
 .rw[we c] at h |-;exact l_ h
 rw[wc c] at h |-;exact a_ (gx (l_ h))
theorem Ir (f:A.units+1<cc) (d:AS prog w s.heap k a) (h:Q (vJ w k) { s with toks:=s.toks+(k.2.length+3)}):ay (aT prog w) A (pyHash (.ref a)) Q E s:=by
 have c:=d.ty;obtain⟨o,t,b,n,i,_,j,g⟩:=d;unfold pyHash;first | unfold pyHashByItsType | skip
 first | refine a_ (wpAny_cRoomFor_or (.inr uS) ?_) | skip
 refine a_ (Fc c LD.lookup ?_);show ay _ _ (if (ab (i3 "tuple.__hash__")==ab bE)=ai then _ else _) Q E s;rw[wc (by rw[beq_builtin_none];exact K_)];refine a_ (Fc c LD.lookup ?_);show ay _ _ (callSpecialIfBoundUnlessNone? (.ref a) "__hash__" _ >>= _) Q E s;refine a_ (wpAny_callSpecialIfBoundUnlessNone?_slot c LD (Zk LD c F.entry_tuple_hash ?_ (F.args_tuple_hash_1 _)));show ay _ _ (c_ (.ref a) >>= _) _ _ s;refine a_ (gv i j (a_ ?_));rw[<- hJ];show ay _ _ (forIn [de k.1 t,a4 b] _ _) _ _ _;rw[ZZ];refine a_ (a_ ((bO prog w).pyHash (k:=.inl k.1) (oV k.1 t) (l_ ?_)));dsimp only;rw[ZZ];refine a_ (a_ (wpAny_pyHash_tuple (s:={ s with toks:=s.toks+1}) f g (l_ ?_)));dsimp only;rw[F7];refine l_ (wpAny_ret_mkInt ?_);refine Ce ?_;have e:k.2.length+3=1+((rY k.2).length+1)+1:=by unfold rY;rw[g_];omega
 rw[e,<- sP,<- sP] at h;exact h
theorem Pu (m:A.units<cc) (u:AS prog w s.heap x a) (j:AS prog w s.heap y b) (h:R (.done (.ret (.bool (decide (x=y))))) s):ay (aT prog w) A (et.«tuple.__eq__» ⟨[.ref a,.ref b],[]⟩) R E s:=by
 have l:=j.ty;obtain⟨o,t,c,n,v,_,C,k⟩:=u;obtain⟨G,t',q,F,i,_,g,d⟩:=j;show ay _ _ (rV (.ref b) (.type "tuple") >>= _) _ _ s;refine a_ (IF l eS ?_);simp only[Zy,v_,V_];refine a_ (gv v C (a_ (gv i g (a_ ?_))));show ay _ _ (forIn [(de x.1 t,de y.1 t'),(a4 c,a4 q)] _ _) _ _ _;rw[ZZ];refine a_ (a_ (oC ?_));obtain⟨r,D⟩:=x;obtain⟨p,B⟩:=y;dsimp only at h k d |-;by_cases e:r=p
 .subst e;rw[wc wn];refine l_ ?_;dsimp only;rw[ZZ];refine a_ (a_ (wpAny_eqBool_tuple m k d ?_));by_cases f:D=B
  .subst f;rw[k_ rfl] at h;rw[k_ rfl,wc vS];refine l_ ?_;dsimp only;rw[F7];exact l_ (l_ h)
  rw[m_ (λz=>f (mD z)),we vS];rw[m_ (λz=>f (Gc z).2)] at h;exact a_ (l_ (l_ (l_ (l_ h))))
 rw[we (by simp [e])];rw[m_ (λz=>e (Gc z).1)] at h;exact a_ (l_ (l_ (l_ (l_ h))))
theorem Uo (f:A.units+1<cc) (c:AS prog w s.heap x a) (d:AS prog w s.heap y b) (h:Q (decide (x=y)) s):ay (aT prog w) A (eqBool (.ref a) (.ref b)) Q E s:=by
 unfold eqBool;try with_reducible refine Zx ?_
 show ay _ _ (if (a4 a==a4 b)=ai then _ else _) Q E s;by_cases e:(a4 a==a4 b)=ai
 .rw[we e];have g:a=b:=by have:=eq_of_beq e;injection this
  subst g;obtain rfl:=AS.inj c d;exact a_ (gx (l_ (by simpa using h)))
 rw[wc e];exact a_ (wpAny_richCompare_same_room (op:=.Eq) c.ty d.ty qV (Zk qV c.ty F.entry_tuple_eq (Pu f c d ⟨_,rfl,(λe=>nomatch e),Zg h⟩) (F.args_tuple_eq_2 _ _)) uS)
theorem Cg (x:AS prog w h k a) (g:h.get? d=ab o) (i:o.data=.dict es ep) (j:cE d h h'):AS prog w h' k a:=by
 obtain⟨l,t,b,n,e,p,c,m⟩:=x;have f:a≠d:=by rintro rfl;rw[e] at g;cases g;rw[i] at c;cases c
 exact⟨l,t,b,n,(j.2 a f).trans e,p,c,m.keeps g i j⟩
theorem Px (g:sv (bO prog w) s.heap ks a) (h:Q ai s):ay (aT prog w) A (oT 7 (.ref a)) Q E s:=by
 have e:=g.typeIs;obtain⟨o,c,n,j,_,k,i⟩:=g;unfold oT;refine a_ (Fc e F.slot_tuple_eq.lookup ?_);show ay _ _ (rV (.ref a) (.type "tuple") >>= _) _ _ s;refine a_ (IF e eS ?_);simp only[Zy,v_,V_];refine a_ (Zv j k (a_ ?_));show ay _ _ (forIn c _ _) _ _ s;rw[<- hJ];refine oz _ (λwq r s'=>r.1=ag/\s'=s/\∀v∈wq,carriedByValue v=ai) _ ?_ ?_ _ _ ⟨rfl,rfl,i.byValue⟩
 .rintro v wq r s' ⟨f,rfl,b⟩;rw[nL _ (b v A_)];refine a_ (l_ ?_);simp only[Zy,v_,V_];exact l_ ⟨rfl,rfl,λu d=>b u (z_ _ d)⟩
 rintro⟨m,l⟩ s' ⟨f,rfl,_⟩;cases f;exact l_ h
theorem Ci (d:AS prog w s.heap k a) (h:Q ai s):ay (aT prog w) A (oT 8 (.ref a)) Q E s:=by
 have c:=d.ty;obtain⟨o,t,b,n,f,_,g,e⟩:=d;unfold oT;refine a_ (Fc c F.slot_tuple_eq.lookup ?_);show ay _ _ (rV (.ref a) (.type "tuple") >>= _) _ _ s;refine a_ (IF c eS ?_);simp only[Zy,v_,V_];refine a_ (Zv f g (a_ ?_));show ay _ _ (forIn (#[de k.1 t,a4 b]:Array aw) _ _) _ _ s;rw[<- hJ];show ay _ _ (forIn [de k.1 t,a4 b] _ _) _ _ s;rw[ZZ,nL _ rfl];refine a_ (a_ (l_ ?_));rw[wc vS];refine l_ ?_;dsimp only;rw[ZZ];refine a_ (a_ (Px e ?_));rw[wc vS];refine l_ ?_;dsimp only;rw[F7];exact l_ (l_ h)
end
def fj (prog:br) (w:bb):HeapKind prog w NK where
 is:=AS prog w
 hash:=vJ w
 draws:=λk=>k.2.length+3
 room:=λA=>A.units+1<cc
 inj:=λc a=>AS.inj c a
 keeps:=λx e f g=>Cg x e f g
 pyHash:=λb d h=>Ir b d h
 eqBool:=λb c a h=>Uo b c a h
 quiet:=λd h=>Ci d h
def KA (ks:List (NK × af × V)) (xs:List (NK × af × aw)):Prop:=fm (λp q=>p.1=q.1/\p.2.1=q.2.1/\wl p.2.2 q.2.2) ks xs
def fJ (ks:List (NK × af × V)) (k:NK):Option V:=(ks.find? λx=>decide (x.1=k)).map (·.2.2)
def Cj (ks:List (NK × af × V)) (k:NK) (b:af) (v:V):List (NK × af × V):=if (fJ ks k).isSome then ks.map (λx=>if x.1=k then (x.1,x.2.1,v) else x) else ks++[(k,b,v)]
theorem KA.look (r:KA ks xs) (k:NK):AV (fJ ks k) ((mh xs k).map (·.2)):=by
 induction r with
 |nil=>exact trivial
 |@cons p q l m h t a =>
 obtain⟨p1,g,c⟩:=p;obtain⟨f,d,i⟩:=q;obtain⟨rfl,rfl,b⟩:=h;unfold fJ mh at a |-;rw[EA,EA];by_cases e:p1=k
 .rw[k_ (by exact e)];exact b
 rw[m_ (by exact e)];exact a
theorem KA.put (r:KA ks xs) (k:NK) (b:af) (a:wl v u):KA (Cj ks k b v) (js xs k b u):=by
 have e:=(r.look k).isSome_eq;rw[G2] at e;unfold Cj js;rw[e];split
 .rename_i c;clear e c;induction r with
  |nil=>exact .nil
  |@cons p q l m h t d =>
  obtain⟨p1,n,f⟩:=p;obtain⟨j,g,o⟩:=q;obtain⟨rfl,rfl,i⟩:=h;refine .cons ?_ d;unfold putAt;dsimp only;split <;> exact⟨rfl,rfl,by assumption⟩
 exact F8 r ⟨rfl,rfl,a⟩
def NS (w:bb) (a:af) (ks:List (NK × af × V)) (h:ci):Prop:=ks.length<=av/\(a==dn)=am/\∃xs,KA ks xs/\∃o b ep,h.get? a=ab o/\o.ExactDict/\o.data=.dict b ep/\b.toList=xs.map (λx=>⟨vJ w x.1,.ref x.2.1,x.2.2⟩)/\(xs.map (·.1)).Nodup
def C5 (w:bb) (a:af) (ks:List (NK × af × V)):HO:=.ext (NS w a ks)
theorem C5.ok (x:NS w a ks h):y4 P c H h a (C5 w a ks) :=
 ⟨x,let ⟨_,_,_,_,o,_,_,e,_⟩:=x;⟨o,e⟩,λ_ _ ⟨z,y,xs,r,o,b,ep,e,q⟩ k=>⟨z,y,xs,r,o,b,ep,k o e,q⟩⟩
def BF (K:a6) (H:Hp) (k:NK) (a:af):Prop:=∃b,yB K H a [.int k.1,.ref b]/\yB K H b (k.2.map V.str)
def z6 (K:a6) (H:Hp) (ks:List (NK × af × V)):Prop:=∀x∈ks,BF K H x.1 x.2.1
section
variable {X:Cx}{P8:List (af × dQ)}{Z:St}
theorem rZ:∀{ns:List ap}{a:List aw},wf (ns.map V.str) a->ItemsAre (bO X.prog X.w) (rY ns) a
 |[],_,.nil=>.nil
 |n::ns,_,.cons h t=>by
  obtain⟨t',rfl⟩:=h
  exact .cons (oW n t') (rZ t)
theorem BF.is (I:Inv X P8 Z H s) (h:BF X.K H k a):(fj X.prog X.w).is s.heap k a:=by
 obtain⟨b,p,u⟩:=h;obtain⟨f,r,⟨o,j,i,n,q⟩,_⟩:=I.tuple p;obtain⟨its',e,⟨l,v,m,g,d⟩,_⟩:=I.tuple u;cases r with
 |cons p1 t=>cases t with
  |cons c t=>cases t with
   |nil =>
    obtain⟨t,rfl⟩:=p1
    cases (show _=a4 b from c)
    exact⟨o,t,b,n,j,i,q,l,_,g,v,m,d,by simpa using rZ e⟩
theorem Lg (I:Inv X P8 Z H s) (e:H a=ab (C5 X.w a ks)) (n:z6 X.K H ks):ks.length<=av/\(a==dn)=am/\∃xs,KA ks xs/\s.heap.DictOfH (fj X.prog X.w) a xs:=by
 obtain⟨z,A,xs,r,o,u,ep,v,t,g,h,p⟩:=(show y4 X.prog X.w H s.heap a (C5 X.w a ks) from I.hok a _ e).1;refine⟨z,A,xs,r,o,u,ep,v,t,g,h,λx b=>?_,p⟩;have d:∀{l:List (NK × af × V)} {m:List (NK × af × aw)},KA l m->∀x∈m,∃y∈l,y.1=x.1/\y.2.1=x.2.1:=λq=>by
  induction q with
  |nil=>intro x b;exact nomatch b
  |cons f _ i =>
  intro x b;rcases y_.mp b with rfl | b
  .exact⟨_,.head _,f.1,f.2.1⟩
  obtain⟨y,c,z⟩:=i x b;exact⟨y,.tail _ c,z⟩
 obtain⟨y,c,k,j⟩:=d r x b;have:=(n y c).is I
 rwa [k,j] at this
theorem XQ (g:A.units+30<cc) (I:Inv X P8 Z H s) (e:H a=ab (C5 X.w a ks)) (n:z6 X.K H ks) (c:BF X.K H k b) (h:∀s',Inv X P8 Z H s'->Q (.bool (fJ ks k).isSome) s'):ay (aT X.prog X.w) A (a9 .In (.ref b) (.ref a)) Q E s:=by
 obtain⟨z,d,xs,r,f⟩:=Lg I e n;refine sA (knd:=fj X.prog X.w) (show A.units+1+1<cc by omega) (c.is I) d f ?_;have q:=(r.look k).isSome_eq;rw[G2] at q;rw[<- q];exact h _ (I.tok _)
theorem Iu (g:A.units+30<cc) (I:Inv X P8 Z H s) (e:H a=ab (C5 X.w a ks)) (n:z6 X.K H ks) (c:BF X.K H k b) (h:∀s',Inv X P8 Z H s'->Q (.bool (!(fJ ks k).isSome)) s'):ay (aT X.prog X.w) A (a9 .NotIn (.ref b) (.ref a)) Q E s:=by
 obtain⟨z,d,xs,r,f⟩:=Lg I e n;refine oy (knd:=fj X.prog X.w) (show A.units+1+1<cc by omega) (c.is I) d f ?_;have q:=(r.look k).isSome_eq;rw[G2] at q;rw[<- q];exact h _ (I.tok _)
end
theorem lw {F:ap × eM->ap × eM} (b:∀p,(F p).1=p.1):∀{a:List (ap × eM)},a.lookup x=ab k->(a.map F).lookup x=ab (F (x,k)).2
 |[],h=>by cases h
 | (m,q)::r,h=>by
  have c:=b (m,q)
  rw[J_,show F (m,q)=(m,(F (m,q)).2) from gX c rfl]
  by_cases e:x=m
  ·
   subst e
   rw[List.lookup_cons_self] at h |-
   cases h
   rfl
  ·
   have d:(x==m)=am:=Y6.mpr e
   simp only[d3,d] at h |-
   exact lw b h
theorem jl {env:tJ}{a:List (ap × eM)} (h:a.lookup x=ab .free):
  (a.map λ(n,k)=>if (k==cK&&env.scope.kind==.function&&env.kindOf n==ab .cell) then (n,ej) else (n,k)).lookup x=ab .cell \/
  (a.map λ(n,k)=>if (k==cK&&env.scope.kind==.function&&env.kindOf n==ab .cell) then (n,ej) else (n,k)).lookup x=ab .free:=by
 rw[lw (F:=λ(n,k)=>if (k==cK&&env.scope.kind==.function&&env.kindOf n==ab .cell) then (n,ej) else (n,k)) (λp=>by dsimp only;split <;> rfl) h];dsimp only;split
 .exact .inl rfl
 exact .inr rfl
theorem mF (h:∀y∈scope.names,y.2=.free->∃c,env.cells.lookup y.1=ab c):
  ∃d,closureFor scope env=ce d/\(∀x c,d.lookup x=ab c->env.cells.lookup x=ab c)/\∀y∈scope.names,y.2=.free->∃c,d.lookup y.1=ab c:=by
 have key:∀(b:List (ap × eM)) (g:List (ap × af)),(∀y∈b,y.2=.free->∃c,env.cells.lookup y.1=ab c)->(∀x c,g.lookup x=ab c->env.cells.lookup x=ab c) ->
   ∃d:List (ap × af),(forIn b g (λ(x:ap × eM) (r:List (ap × af))=>(do
    if x.2==.free then do
     let a <- tr env x.1
     ce (cp ((x.1,a)::r))
    else ce (cp r):Sem (ForInStep (List (ap × af))))):Sem (List (ap × af)))=ce d/\(∀x c,d.lookup x=ab c->env.cells.lookup x=ab c) /\
    (∀x c,g.lookup x=ab c->∃o,d.lookup x=ab o)/\∀y∈b,y.2=.free->∃c,d.lookup y.1=ab c:=by
  intro b
  induction b with
  |nil=>intro g _ u;exact⟨g,rfl,u,λx c e=>⟨c,e⟩,λy f=>nomatch f⟩
  |cons y r z =>
   intro g v u
   obtain⟨n,k⟩:=y
   by_cases w:k=.free
   ·
    subst w
    obtain⟨c,A⟩:=v (n,.free) A_ rfl
    have i:tr env n=ce c:=by unfold tr;rw[A]
    obtain⟨d,e,s,p,l⟩:=z ((n,c)::g) (λy f=>v y (z_ _ f)) (λx o q=>by
     simp only[ZF] at q
     cases j:x==n with
     |true=>rw[j] at q;cases q;rw[eq_of_beq j];exact A
     |false=>rw[j] at q;exact u x o q)
    refine⟨d,?_,s,λx o q=>?_,λy f t=>?_⟩
    ·
     rw[ZZ]
     show ((if (cK==cK)=ai then (tr env n >>= λa=>ce (cp ((n,a)::g))) else ce (cp g)) >>= _)=_
     rw[i]
     exact e
    ·
     cases j:x==n with
     |true=>exact p x c (by simp only[ZF,j])
     |false=>exact p x o (by simp only[ZF,j];exact q)
    ·
     rcases y_.mp f with rfl | f
     ·
      exact p n c (by simp [ZF])
     ·
      exact l y f t
   ·
    obtain⟨d,e,s,p,l⟩:=z g (λy f=>v y (z_ _ f)) u
    have B:(k==cK)=am:=by simpa using w
    refine⟨d,?_,s,p,λy f t=>?_⟩
    ·
     rw[ZZ]
     show ((if (k==cK)=ai then (tr env n >>= λa=>ce (cp ((n,a)::g))) else ce (cp g)) >>= _)=_
     rw[B]
     exact e
    ·
     rcases y_.mp f with rfl | f
     ·
      exact wT t w
     ·
      exact l y f t
 obtain⟨d,e,s,_,l⟩:=key scope.names [] h (λx c q=>by simp at q);refine⟨d,?_,s,l⟩;unfold closureFor;exact YB (λm=>m >>= λr=>ce r) e
def cu (X:Cx) (N':List ap) (scope:Scope) (b:List (ap × af)) (a:List (af × dQ)) (s:aI) (H:Hp) (C:af) (c:List af):Cx where
 prog:=X.prog
 w:=X.w
 K:=X.K
 mg:=X.mg
 base:=X.base
 A:=X.A
 N:=N'
 s₀:=s
 H₀:=H
 env:=compEnvC scope b C X.env
 outer:=X.stack
 stack:=X.stack
 ex:=c
 fn:=λx=>scope.names.lookup x==ab .cell
 calm:=X.calm
 pn:=X.pn++a
 xe:=λ_ _=>False
def F9 (X:Cx) (b:List Expr) (t:TT):Prop :=
 ∀(a:List (af × dQ)) (s:aI) (Z:St) (H:Hp) (Q:Bool->Hp->Prop),Inv X a Z H s->t Z H Q ->
  ay (aT X.prog X.w) X.A (forIn b ai λc r=>if r=ai then do let d <- isTrue c X.env (bP c X.env);ce (cp d) else ce (cp r)) (TP X a Z Q) X.xe s
def XR:TT:=λ_ H Q=>Q ai H
theorem Iv:F9 X [] XR:=λ_ _ _ H _ I h=>wpAny_tests_nil ⟨H,I,h⟩
theorem Iw (h:PT X c t):F9 X [c] t:=λa s Z H Q I b=>wpAny_tests_one (h a s Z H Q I b)
theorem qj (I:Nat->aI->Prop) (z:∀n s,I n s->ay (aT prog w) A (kM it) (λr d=>match r with | .none=>R (.ok .next) d | .some v=>ay (aT prog w) A (fk a it v) (λ_ e=>ay (aT prog w) A (gN a env v) (λ_ o=>ay (aT prog w) A (forIn u ai λc r=>if r=ai then do let D <- isTrue c env (bP c env);ce (cp D) else ce (cp r)) (λD b=>if D=ai then ay (aT prog w) A (bP t env) (λx k=>ay (aT prog w) A (jS (.builtin "list.append") [q,x]) (λ_ i=>∃m,m<n/\I m i) (λ_ _=>False) k) (λ_ _=>False) b else ∃m,m<n/\I m b) (λ_ _=>False) o) (λ_ _=>False) e) (λ_ _=>False) d) (λ_ _=>False) s) (n:Nat) (h:I n s):eJ (aT prog w) A (.compLoop (.ListComp t [⟨a,p,u,0⟩] scope E) 0 it q env) R s:=by
 refine codeAny_loop rfl I (λj g G=>?_) n h;show ay _ A ((compTurn (.ListComp t [⟨a,p,u,0⟩] scope E) 0 it q env).onRaise (λx=>do noteFrame x env;theTreesLotGoes x)) _ _ g;refine wpAny_noted ?_;rw[compTurn_list];refine a_ (l8 (a_ (ZK (z j g G) (λr d l=>?_) λ_ _ h'=>h'.elim)));cases r with
 |none=>exact l_ l
 |some v =>
 refine a_ (ZK l (λ_ e y=>?_) λ_ _ h'=>h'.elim);refine a_ (ZK y (λ_ o C=>a_ (ZK C (λD b f=>?_) λ_ _ h'=>h'.elim)) λ_ _ h'=>h'.elim);cases D with
 |false=>exact (l_ (And.intro rfl f))
 |true =>
 exact a_ (a_ (ZK f (λx k F=>a_ (ZK F (λ_ i B=>l_ (l_ ⟨rfl,B⟩)) λ_ _ h'=>h'.elim)) λ_ _ h'=>h'.elim))
def xM (J:It) (g:TG) (tt:TT) (te:TE) (h:List V->Hp->Prop) (c:St) (e:Hp):Prop :=
 ∃W:Nat->Nat->List V->St->Hp->Prop,(∃m,W 0 m [] c e)/\∀i m a Z H,W i m a Z H ->
  (J.stop i H/\a.length<=av/\h a H) \/
  (J.go i H/\∀x j,J.yld i H x j->g x Z j λf k=>tt f k λb H3=>if b=ai then te f H3 λy l=>a.length<av/\∃d,d<m/\W (i+1) d (a++[y]) f l else ∃d,d<m/\W (i+1) d a f H3)
def oH (nt:Nat) (cap:List Nat) (Z:St):St:=aS nt ag++cap.map λj=>(Z[j]?).getD ag
structure EW (X:Cx) (N':List ap) (nt:Nat) (cap:List Nat) (scope:Scope):Prop where
 kind:scope.kind=.function
 cells:∀y∈scope.names,y.2=.cell->scope.names.lookup y.1=ab .cell
 names:∀x∈scope.names,x.2=.local->scope.names.lookup x.1=ab .local
 free:∀y∈scope.names,y.2=.free->X.env.kindOf y.1=ab .cell\/X.env.kindOf y.1=ab .free
 len:N'.length=nt+cap.length
 caps:∀(j:Nat) (x:ap),N'[nt+j]?=ab x->∃i,cap[j]?=ab i/\X.N[i]?=ab x/\scope.names.lookup x=ab .free
theorem lJ (e:s.heap.get? l=ab { cls:=.type "list",data:=.seq a.toArray n}) (f:a.length<av) (h:∀h' n',h'.get? l=ab { cls:=.type "list",data:=.seq (a++[u]).toArray n'}->(∀b o,b≠l->s.heap.get? b=ab o->h'.get? b=ab o)->Q .none { s with heap:=h'}):
  ay (aT P w) A (jS (.builtin "list.append") [.ref l,u]) Q E s:=by
 refine EQ nv ⟨_,e,rfl⟩ l7 (lc _ _) (list_append l a.toArray n u (by rw[x_];omega)) ⟨e,?_⟩;have q:=PySem.IsL.update e (·.push u);rw[List.push_toArray] at q;exact h _ _ q (λb o d c=>(LJ s.heap _ (a7 d)).trans c)
theorem cB:∀(a:List (ap × eM)) (n:Nat) (b:List (ap × af)),ba n a b=ba n a []++b
 |[],_,_=>rfl
 | (x,k)::r,n,b=>by
  unfold ba
  split
  ·
   rw[cB r (n+1) ((x,n)::b),cB r (n+1) [(x,n)],ZR]
   rfl
  ·
   exact cB r n b
theorem eO {a:Type}(x:ap):∀(l m:List (ap × a)),(l++m).lookup x=(l.lookup x).or (m.lookup x)
 |[],_=>rfl
 | (y,v)::r,m=>by
  rw[LA,ZF,ZF,eO x r m]
  cases x==y <;> rfl
theorem ig (h:(ba n a b).lookup x=ab c):(ba n a []).lookup x=ab c\/((ba n a []).lookup x=ag/\b.lookup x=ab c):=by
 rw[cB,eO] at h;cases e:(ba n a []).lookup x with
 |some d=>rw[e] at h;exact .inl h
 |none=>rw[e] at h;exact .inr ⟨rfl,h⟩
theorem ju:∀{a:List (ap × eM)}{n:Nat}{b:List (ap × af)},(x,c)∈ba n a b->(x,ej)∈a\/(x,c)∈b
 |[],_,_,h=>.inr h
 | (y,k)::r,n,b,h=>by
  unfold ba at h
  split at h
  ·
   rename_i d
   rcases ju h with q | q
   ·
    exact .inl (z_ _ q)
   ·
    rcases y_.mp q with q | q
    ·
     cases q
     have:k=.cell:=by simpa using d
     subst this
     exact .inl A_
    ·
     exact .inr q
  ·
   rcases ju h with q | q
   ·
    exact .inl (z_ _ q)
   ·
    exact .inr q
theorem Iz (f:Q (newEnv scope s.heap.objs.size a (ba (s.heap.objs.size+1) scope.names b) c ag .none (ab env) mS) { s with heap:=ly (s.heap.push { cls:=.type "dict",data:=.dict #[]}) scope.names}):
  ay M A (kP scope a b [] c ag .none (ab env)) Q E s:=by
 simp only[kP,GW,if_true];refine a_ (wpAny_alloc ?_);refine a_ (wpAny_layCells _ (λname kind e=>by cases d:kind==ej <;> simp [d]) _ _ _ _ ?_);rw[show ({ s with heap:=s.heap.push { cls:=.type "dict",data:=.dict #[]}}:aI).heap.objs.size=s.heap.objs.size+1 from EX ..];refine a_ ?_;rw[F7];exact l_ (l_ f)
theorem Ck {Z:St}{V:List af}{C:af} (S:EW X N' nt cap scope) (I:Inv X g Z H s) (L:∀x c,B.lookup x=ab c->X.env.cells.lookup x=ab c) (E:∀y∈scope.names,y.2=.free->∃c,B.lookup y.1=ab c) (hf:∀b∈V,lY X g H b) (M:∀b∈V,b<s.heap.objs.size) (w:s.heap.objs.size<C) (hn:h'.Ns C λ_=>ag) (G:∀b o,s.heap.get? b=ab o->h'.get? b=ab o) (hp:∀p∈pl,h'.get? p.1=ab p.2/\s.heap.objs.size=p.1/\∀v,p.2.data≠.cell v) (r:CellsOk h' (C+1) (ba (C+1) scope.names [])):
  Inv (cu X N' scope (ba (C+1) scope.names B) g s H C V) pl (oH nt cap Z) H { s with heap:=h',toks:=tk}:=by
 have h:∀x c,(ba (C+1) scope.names B).lookup x=ab c->(C+1<=c/\(ba (C+1) scope.names []).lookup x=ab c)\/X.env.cells.lookup x=ab c:=λx c e=>by
  rcases ig e with q | q
  .exact .inl ⟨(r.empty x c (mem_of_lookup q)).2,q⟩
  exact .inr (L x c q.2)
 have O:∀x c,X.env.cells.lookup x=ab c->c<s.heap.objs.size:=λx c e=>by obtain⟨v,q⟩:=I.cell x c e;exact q.lt
 have hok:(cu X N' scope (ba (C+1) scope.names B) g s H C V).Ok:=by
  refine⟨I.ok.mod,S.kind,I.ok.glob,I.ok.blt,ZC w,λx y c e1 A=>?_,λx hx=>?_,λx c z e=>?_,I.ok.hd,I.ok.frames,.inl rfl,λb t=>?_,I.bs,R_ I.ok.bsz I.sz,λb o e t=>?_,λb t z=>?_,I.stack,I.stkFree⟩
  .rcases h x c e1 with ⟨U,p1⟩ | U
   .rcases h y c A with ⟨K,p2⟩ | K
    .exact name_of_addr r.apart (mem_of_lookup p1) (mem_of_lookup p2)
    exact wT (Yz (ZS (YX (O y c K) w)) U) (YQ _)
   rcases h y c A with ⟨K,p2⟩ | K
   .exact wT (Yz (ZS (YX (O x c U) w)) K) (YQ _)
   exact I.ok.inj x y c U K
  .have hx':(tj scope X.env).names.lookup x=ab .cell\/(tj scope X.env).names.lookup x=ab .free:=hx;have hm:∃k,(x,k)∈(tj scope X.env).names/\(k=.cell\/k=.free):=by
    rcases hx' with z | z
    .exact⟨_,mem_of_lookup z,.inl rfl⟩
    exact⟨_,mem_of_lookup z,.inr rfl⟩
   obtain⟨k,hm,G⟩:=hm;obtain⟨⟨n,T⟩,N,e⟩:=o_.mp hm;have D:(if (T==cK&&X.env.scope.kind==.function&&X.env.kindOf n==ab .cell)=ai then (n,ej) else (n,T))=(x,k):=e;by_cases J:T=.free
   .subst J;have en:n=x:=by split at D <;> exact YB Prod.fst D
    subst en;obtain⟨c,Y⟩:=E (n,.free) N rfl;show ∃c,(ba (C+1) scope.names B).lookup n=ab c;rw[cB,eO,Y];cases (ba (C+1) scope.names []).lookup n with
    |none=>exact⟨c,rfl⟩
    |some d=>exact⟨d,rfl⟩
   have t:(T==cK)=am:=by simpa using J
   rw[t] at D;simp only[Zu,v_,V_] at D;cases D;rcases G with rfl | rfl
   .obtain⟨c,Y⟩:=jK (n:=C+1) (S.cells _ N rfl);refine⟨c,?_⟩;show (ba (C+1) scope.names B).lookup _=ab c;rw[cB,eO,Y];rfl
   exact wT rfl J
  .have z':scope.names.lookup x=ab .cell:=by simpa [cu] using z
   obtain⟨d,ed⟩:=jK (n:=C+1) z';have D:(ba (C+1) scope.names B).lookup x=ab c:=e;rw[cB,eO,ed] at D;cases D;have:=(r.empty x _ (mem_of_lookup ed)).2;show s.heap.objs.size<=_;omega
  .obtain⟨f0,f1,f2,W,f4,f5⟩:=hf b t;refine⟨λz=>wT (M b t) (EZ.mpr (by rw[show b=C from z];exact ZC w)),λx c e=>?_⟩;rcases h x c e with ⟨q,_⟩ | q
   .intro z;rw[z] at q;exact wT (Yz (ZS (YX (M b t) w)) q) (YQ _)
   exact f4 x c q
  .obtain⟨f0,f1,f2,W,f4,f5⟩:=hf b t;rcases W with q | q
   .exact I.ok.noex b o e q
   exact wT (F_ (I.ok.bs b o e).1) (EZ.mpr q)
  obtain⟨f0,f1,f2,W,f4,f5⟩:=hf b t;rcases y_.mp (I.stkSub b z) with q | q
  .exact f1 q
  exact f2 q
 obtain⟨m,hnm,hl⟩:=id I.loc;refine⟨hok,rfl,I.bare,Un.kept G,⟨_,hn,λi x v e1 A e3=>?_⟩,λx c e=>?_,I.hok.fresh (ZC w),λx c e=>?_,λp hp'=>?_,I.hok.kept G,?_⟩
 ·-- a name of the block: one that it takes from around
  unfold oH at A;by_cases hi:i<nt
  .rw[YW (by simpa using hi),K0] at A;split at A <;> cases A
  obtain⟨j,rfl⟩:∃j,i=nt+j:=⟨i - nt,uS⟩;obtain⟨k,ck,hN,f⟩:=S.caps j x e1;rw[O_ wn,Zb,Nat.add_sub_cancel_left,C_,ck] at A;have l:(Z[k]?).getD ag=ab v:=P_ A;have Q:Z[k]?=ab (ab v):=by
   cases q:Z[k]? with
   |none=>rw[q] at l;cases l
   |some z=>rw[q] at l;exact YB ab l
  have P:=S.free (x,.free) (mem_of_lookup f) rfl;obtain⟨u,ru,lk⟩:=hl k x v hN Q (.inr P);refine⟨u,ru,.inr ⟨jl f,?_⟩⟩;rcases lk with ⟨kl,_⟩ | ⟨_,c,hc,F⟩
  .rcases P with z | z <;> (rw[kl] at z;cases z)
  obtain⟨c',R⟩:=E (x,.free) (mem_of_lookup f) rfl;have e:=L x c' R;rw[hc] at e;cases e;obtain⟨o,ho,hd⟩:=F;refine⟨c,?_,o,G _ _ ho,hd⟩;show (ba (C+1) scope.names B).lookup x=ab c;rw[cB,eO];cases q:(ba (C+1) scope.names []).lookup x with
  |none=>exact R
  |some d =>
  rcases ju (mem_of_lookup q) with z | z
  .have:=S.cells _ z rfl;rw[f] at this;cases this
  cases z
 .rcases h x c e with ⟨_,q⟩ | q
  .exact⟨ag,(r.empty x c (mem_of_lookup q)).1⟩
  obtain⟨v,o,ho,hd⟩:=I.cell x c q;exact⟨v,o,G _ _ ho,hd⟩
 .rcases h x c e with ⟨q,_⟩ | q
  .exact I.hok.fresh (ZC (Yz (ZS w) q))
  exact I.freeC x c q
 .rcases q_.mp hp' with z | z
  .obtain⟨e,n,n1,n2,d⟩:=I.pin p z;refine⟨G _ _ e,n,λq=>?_,λq=>?_,d⟩
   .exact wT (F_ e) (EZ.mpr (by rw[show p.1=C from q];exact ZC w))
   rcases y_.mp (I.stkSub p.1 q) with q | q
   .exact n1 q
   exact n2 q
  obtain⟨e,n,d⟩:=hp p z;refine⟨e,I.hok.fresh uS,λq=>?_,λq=>?_,d⟩
  .exact wT (n.trans (show p.1=C from q)) (L_ w)
  have:=I.stkSub p.1 q;rcases y_.mp this with q | q
  .exact wT I.lt (EZ.mpr (by rw[<- q,n];exact u_ _))
  exact I.nofs uS q
 unfold oH;show _=N'.length;rw[b_,Zb,g_,S.len]
theorem yT.track (x:yT P w H h) (g:H a=ag) (l:H C=ag) (k:∀b u,b≠C->h.get? b=ab u->h'.get? b=ab u) (f:y4 P w (wS H a o) h' a o):yT P w (wS H a o) h':=λb u e=>by
 by_cases i:b=a
 .subst i;rw[cI] at e;cases e;exact f
 rw[bz i] at e;have j:∀c z,H c=ab z->c≠C:=λc z q r=>by rw[r,l] at q;cases q
 refine (x b u e).stay (λc v d q=>k c v ?_ q) (λc q=>by rw[bz (cM q g)];exact q) λc xs q=>by rw[bz (cM q g)];exact q
 rcases d with rfl | d
 .exact j c u e
 exact j c _ d
theorem sr {Z:St}{RR:aw->af->Result->aI->Prop} (hc:X.calm=ai) (S:EW X N' nt cap scope) (QY:∀x c,L.lookup x=ab c->X.env.cells.lookup x=ab c) (hclh:∀y∈scope.names,y.2=.free->∃c,L.lookup y.1=ab c) (hX:∀L a s H C l,PG (cu X N' scope L a s H C l) tg g/\F9 (cu X N' scope L a s H C l) ifs tt/\PE (cu X N' scope L a s H C l) elt te) (I:Inv X a Z f s₂) (T:BO X.prog X.w X.K tg J l it tn) (st:tn 0 s₂.heap) (hf:∀b∈l,lY X a f b) (hw:xM J g tt te fin (oH nt cap Z) f) (hRR:∀(D C:af) (s₄:aI) (m:ap->Option aw) (U:List V) (Y:Hp),s₄.heap.Ns C m->s₂.heap.objs.size<=D->s₂.heap.objs.size<=C->C≠D->Y D=ag->Y C=ag->U.length<=av->fin U Y ->
   (∀h',(∀b o,b≠C->s₄.heap.get? b=ab o->h'.get? b=ab o)->Inv X a Z (wS Y D (.lst U)) { s₄ with heap:=h'})->RR (.ref D) C (.ok .next) s₄):
  ay (aT X.prog X.w) X.A (tm []) (λacc F=>ay (aT X.prog X.w) X.A (kP scope X.env.globals L [] X.env.qual ag .none (ab X.env)) (λcenv s₄ =>
   eJ (aT X.prog X.w) X.A (.compStart (.ListComp elt [⟨tg,iter,ifs,0⟩] scope P9) 0 (.ref it) acc { cenv with scope:=tj scope X.env}) (RR acc cenv.locals) s₄) E F) E s₂:=by
 refine Zh (Iz ?_);dsimp only;generalize hH2:s₂.heap.push { cls:=.type "list",dict:=ag,data:=.seq ([]:List aw).toArray}=B;generalize hD:s₂.heap.objs.size=D;have hB:B.objs.size=D+1:=by rw[<- hH2,EX,hD]
 have G:CellsOk (ly (B.push { cls:=.type "dict",data:=.dict #[]}) scope.names) (B.objs.size+1) (ba (B.objs.size+1) scope.names []):=by have:=cellsFrom_ok scope.names (B.push { cls:=.type "dict",data:=.dict #[]}) (B.objs.size+1) [] ⟨λ_ _ hm=>(nomatch hm),iF⟩ (by rw[EX];exact u_ _);rw[EX] at this;exact this
 have t:(ly (B.push { cls:=.type "dict",data:=.dict #[]}) scope.names).Ns B.objs.size λ_=>ag:=(Heap.Ns.new B (.type "dict")).keeps (qq _ _);have M:∀b o,B.get? b=ab o->(ly (B.push { cls:=.type "dict",data:=.dict #[]}) scope.names).get? b=ab o:=λb o e=>qq _ _ b o (e_ _ e);generalize hCe:B.objs.size=C at t G |-;generalize ly (B.push { cls:=.type "dict",data:=.dict #[]}) scope.names=O at t G M |-;have hCD:C=D+1:=hCe.symm.trans hB;have hDC:D≠C:=by rw[hCD];exact L_ (ZD _)
 have Q:s₂.heap.objs.size<C:=by rw[hD,hCD];exact ZD _
 have below:∀b o,s₂.heap.get? b=ab o->b≠C/\b≠D:=λb o e=>by have:=F_ e;rw[hD] at this;exact⟨by rw[hCD];exact L_ (ZS this),L_ this⟩
 have old:∀b o,s₂.heap.get? b=ab o->O.get? b=ab o:=λb o e=>M b o (hH2▸e_ _ e);have hacc:O.get? D=ab { cls:=.type "list",data:=.seq ([]:List aw).toArray 0}:=M _ _ (hH2▸hD▸E_ _ rfl);have N:tn 0 O:=T.keep _ _ _ st λb j o e=>old b o e;have hfl:∀b∈l,b<s₂.heap.objs.size:=λb j=>by obtain⟨o,e,_⟩:=T.obj _ _ st b j;exact F_ e
 obtain⟨W,⟨m0,w0⟩,turn⟩:=hw;obtain⟨hg,hi,he⟩:=hX (ba (C+1) scope.names L) a s₂ f C l;have stat:∀{Y:Hp} {k:Nat} {h:List aw},(∀b∈l,Y b=ag)->∀b∈l,lY (cu X N' scope (ba (C+1) scope.names L) a s₂ f C l) [(D,{ cls:=.type "list",data:=.seq h.toArray k})] Y b:=λ{Y k h} hn b j=>by
  obtain⟨f0,f1,f2,f3,f4,f5⟩:=hf b j;have hlt:=hfl b j;refine⟨hn b j,λz=>?_,λz=>?_,.inl j,λx c e=>?_,λp hp=>?_⟩
  .rw[show b=C from z] at hlt;exact wT hlt (EZ.mpr (ZC Q))
  .rcases y_.mp (I.stkSub b z) with q | q
   .exact f1 q
   exact f2 q
  .rcases ig e with q | q
   .have:=(G.empty x c (mem_of_lookup q)).2;intro z;rw[z] at this;exact wT (Yz (ZS (YX hlt Q)) this) (YQ _)
   exact f4 x c (QY x c q.2)
  rcases q_.mp hp with z | z
  .exact f5 p z
  rw[j_.mp z];intro e;rw[<- (show D=b from e),hD] at hlt;exact YQ _ hlt
 have loop:∀F:aI,F={ s₂ with heap:=O}->eJ (aT X.prog X.w) X.A (.compLoop (.ListComp elt [⟨tg,iter,ifs,0⟩] scope P9) 0 (.ref it) (.ref D) (compEnvC scope (ba (C+1) scope.names L) C X.env)) (RR (.ref D) C) F:=by
  rintro F rfl;refine qj (λn s'=>∃i U h k Z' Y,Inv (cu X N' scope (ba (C+1) scope.names L) a s₂ f C l) [(D,{ cls:=.type "list",data:=.seq h.toArray k})] Z' Y s'/\wf U h/\tn i s'.heap/\(∀b∈l,Y b=ag)/\W i n U Z' Y/\U.length<=av) ?_ m0
   ⟨0,[],[],0,oH nt cap Z,f,Ck (tk:=s₂.toks) S I QY hclh hf hfl Q t old (λp hp=>?_) G,.nil,N,λb j=>(hf b j).1,w0,Y5 _⟩
  .rintro n s3 ⟨i,U,h,k,Z3,H3,I3,rv,st3,fr3,w3,hz⟩;have pD:=I3.pin (D,{ cls:=.type "list",data:=.seq h.toArray k}) (X_ _ (j_.mpr rfl));rcases turn i n U Z3 H3 w3 with ⟨stop,hz',hfin⟩ | ⟨go,step⟩
   .refine wx (T.done (cu X N' scope (ba (C+1) scope.names L) a s₂ f C l) rfl rfl rfl hc i _ s3 Z3 H3 (λ_ _=>False) I3 (stat fr3) st3 stop) λr s4 ⟨hr,I4⟩=>?_;subst hr;obtain⟨m4,hn4,_⟩:=I4.loc;have pD4:=I4.pin (D,{ cls:=.type "list",data:=.seq h.toArray k}) (X_ _ (j_.mpr rfl));refine hRR D C s4 m4 U H3 hn4 (by rw[hD];exact u_ _) (ZC Q) (a7 hDC) pD4.2.1 I4.free hz' hfin λh' k'=>?_;have nD:∀b u,H3 b=ab u->b≠D:=λb u e z=>by rw[z,pD4.2.1] at e;cases e
    have nDs:∀b o,s₂.heap.get? b=ab o->b≠D/\b≠C:=λb o e=>⟨(below b o e).2,(below b o e).1⟩;have B4:=I4.base;refine I.call' (s':={ s4 with heap:=h'}) (ch:=l) I4.os ⟨λb o e n j hx=>k' b o (nDs b o e).2 (B4.keep b o e n j hx),λb o e n j hx=>?_,λb o e n hx=>?_,λb o e hx=>?_,λb xs e=>?_,λb o u e=>?_,λb ps e=>?_⟩ ?_ I4.bare λb j=>?_
    .obtain⟨sl,q⟩:=B4.slot b o e n j hx;exact⟨sl,k' b _ (nDs b o e).2 q⟩
    .rw[bz (nDs b o e).1];exact B4.free b o e n hx
    .obtain⟨o',q⟩:=B4.there b o e hx;exact⟨o',k' b _ (nDs b o e).2 q⟩
    .have q:=B4.tups b xs e;rw[bz (nD _ _ q)];exact q
    .have q:=B4.frzs b o u e;rw[bz (nD _ _ q)];exact q
    .obtain⟨more,q⟩:=B4.tbls b ps e;exact⟨more,by rw[bz (nD _ _ q)];exact q⟩
    .exact I4.hok.track pD4.2.1 I4.free k' ⟨hz',h,k,rv,k' D _ hDC pD4.1⟩
    obtain⟨f0,f1,f2,f3,f4,f5⟩:=hf b j;exact⟨f3,f1,f4,f5⟩
   refine wx (T.item (cu X N' scope (ba (C+1) scope.names L) a s₂ f C l) rfl rfl rfl hc i _ s3 Z3 H3 (λ_ _=>False) I3 (stat fr3) st3 go) λr s4 ⟨u,hr,h4⟩=>?_;subst hr;refine wx h4 λ_ s5 ⟨x,H5,I5,r5,y5,st5,fr5⟩=>?_;have I5':=I5.pinned (stat fr5) (T.obj _ _ st5);refine wx (hg _ s5 Z3 H5 x u _ I5' r5 (step x H5 y5)) λ_ s6 ⟨Z6,H6,I6,q6⟩=>?_;refine wx (hi _ s6 Z6 H6 _ I6 q6) λok s7 ⟨H7,I7,q7⟩=>?_;have P:∀{Z8:St} {H8:Hp} {s8:aI},Inv (cu X N' scope (ba (C+1) scope.names L) a s₂ f C l) ([(D,{ cls:=.type "list",data:=.seq h.toArray k})]++lZ l s5.heap) Z8 H8 s8->tn (i+1) s8.heap/\∀b∈l,H8 b=ag:=λ{Z8 H8 s8} I8 =>
    ⟨T.keep _ _ _ st5 λb j o e=>(I8.pin (b,o) (X_ _ (X_ _ (gZ j e)))).1,λb j=>by
     obtain⟨o,e,d⟩:=T.obj _ _ st5 b j
     exact (I8.pin (b,o) (X_ _ (X_ _ (gZ j e)))).2.1⟩
   cases ok with
   |false=>rw[wc K_] at q7 |-;obtain⟨m',hm,w7⟩:=q7;exact⟨m',hm,i+1,U,h,k,Z6,H7,I7.unpinned,rv,(P I7).1,(P I7).2,w7,hz⟩
   |true =>
   rw[we rfl] at q7 |-;refine wx (he _ s7 Z6 H7 _ I7 q7) λuy s8 ⟨y,H8,I8,ry,hz8,m',hm,w8⟩=>?_;have R:=I8.pin (D,{ cls:=.type "list",data:=.seq h.toArray k}) (X_ _ (YC _ (j_.mpr rfl)));have hl:=rv.length;refine lJ R.1 uS λh' k' e' kk=>?_;have I9:Inv (cu X N' scope (ba (C+1) scope.names L) a s₂ f C l) [] Z6 H8 { s8 with heap:=h'}:=by
    refine Inv.turned (t':=s8.toks) (it:=D) (I8.pins_of (pins':=[]) (λp hp=>nomatch hp)) (λb o j e=>kk b o j e) R.2.1 R.2.2.1 (.inr (by show s₂.heap.objs.size<=D;rw[hD];exact u_ _)) (λx c e z=>?_) (λp hp z=>?_)
    .rcases ig e with q | q
     .have:=(G.empty x c (mem_of_lookup q)).2;rw[z,hCD] at this;omega
     obtain⟨v,q⟩:=I.cell x c (QY x c q.2);have:=q.lt;rw[z,hD] at this;exact YQ _ this
    rw[YH] at hp;have:=F_ (I.pin p hp).1;rw[z,hD] at this;exact YQ _ this
   refine⟨m',hm,i+1,U++[y],h++[uy],k',Z6,H8,I9.pins_of λp hp=>?_,rv.append (.cons ry .nil),?_,(P I8).2,w8,?_⟩
   .rw[j_.mp hp];exact⟨e',R.2.1,R.2.2.1,R.2.2.2.1,λv z=>by cases z⟩
   .refine T.keep _ _ _ (P I8).1 λb j o e=>kk b o (λz=>?_) e;have:=hfl b j;rw[z,hD] at this;exact YQ _ this
   rw[b_,t_];omega
  rw[j_.mp hp];exact⟨hacc,hD,λv z=>by cases z⟩
 exact codeAny_compStart_list (loop _ rfl) (T.self _ 0 _ _ _ N (loop _ rfl))
def Uq (d:TI) (g:TG) (tt:TT) (te:TE) (nt:Nat) (cap:List Nat):TE:=λZ H Q=>d Z H λJ c=>xM J g tt te (λb a=>∀p,a p=ag->Q (.ref p) (wS a p (.lst b))) (oH nt cap Z) c
theorem IK (L:X.calm=ai) (S:EW X N' nt cap scope) (V:PI X B c E) (O:∀n a s H C p,PG (cu X N' scope n a s H C p) B g/\F9 (cu X N' scope n a s H C p) l tt/\PE (cu X N' scope n a s H C p) f te) (Y:∀x,df c X.env x=ce x:=by intro _;rfl):PE X (.ListComp f [⟨B,c,l,0⟩] scope u) (Uq E g tt te nt cap):=by
 intro a s Z H Q I h;rw[eval_ListComp];obtain⟨n,d,q,j⟩:=mF (scope:=scope) (env:=X.env) λy F U=>I.ok.has y.1 (S.free y F U);refine iO (use:=ag) rfl Y d S.kind S.names (wx (V a s Z H _ I h) λv s1 R=>wx R λG s2 h2=>?_);obtain⟨it,p,tn,J,H2,rfl,I2,T,z,W,N⟩:=h2;refine sr (RR:=λr C=>compPost (aT X.prog X.w) X.A X.xe ag (EP X a Z Q) r C) L S q j O I2 T z W N λD C s4 m ys H' K hD hC P nD nC hz i k=>?_;refine⟨m,K,λh' t=>?_⟩;exact⟨.ref D,_,k h' λb o M e=>t.extBut b o M e,rfl,i D nD⟩
def Cm (d:TI) (g:TG) (tt:TT) (te:TE) (nt:Nat) (cap:List Nat) (i:Nat):TS:=λD Z H=>d Z H λJ c=>xM J g tt te (λb a=>∀p,a p=ag->D.nx (Z.set i (ab (.ref p))) (wS a p (.lst b))) (oH nt cap Z) c
theorem IV {u f r:mi} (hc:X.calm=ai) (hN:X.N.Nodup) (V:X.N[i]?=ab x) (hx:E1 X.env.scope x) (S:EW X N' nt cap scope) (hi:PI X L j wi) (hX:∀O d s H C P,PG (cu X N' scope O d s H C P) L g/\F9 (cu X N' scope O d s H C P) n tt/\PE (cu X N' scope O d s H C P) l te) (Y:dL (.ListComp l [⟨L,j,n,0⟩] scope u) (ab (.Name x f)) r.line X.env=ce ai:=by rfl) (hs:∀x,df j X.env x=ce x:=by intro _;rfl) (hf:X.fn x=ai\/X.env.scope.names.lookup x=ab .local:=by first | exact .inl rfl | exact .inr rfl | assumption):
  PS X (.Assign [.Name x f] (.ListComp l [⟨L,j,n,0⟩] scope u) r) (Cm wi g tt te nt cap i):=by
 intro d s Z H Dn I h;rw[exec_Assign_Name_used _ _ _ _ Y];obtain⟨O,t,R,F⟩:=mF (scope:=scope) (env:=X.env) λy hy hf=>I.ok.has y.1 (S.free y hy hf);refine a_ (l8 (a_ ?_));show ay _ X.A (do let _ <- comprehension (.ListComp l [⟨L,j,n,0⟩] scope u) scope X.env _ (tm []) am (bP j X.env) (ab (gN (.Name x f) X.env))) _ _ s;refine a_ (ZK (iO (use:=ab (gN (.Name x f) X.env)) (Q:=λ_ s'=>SP X d Dn .next s') rfl hs t S.kind S.names
  (wx (hi d s Z H _ I h) λv s1 h1=>wx h1 λitv s2 h2=>?_)) (λ_ s' hq=>l_ (l_ hq)) λ_ _ e=>e)
 obtain⟨it,P,tn,J,H2,rfl,K,T,st2,f2,hw⟩:=h2;refine sr (RR:=λU C=>compPost (aT X.prog X.w) X.A X.xe (ab (gN (.Name x f) X.env)) (λ_ s'=>SP X d Dn .next s') U C) hc S R F hX K T st2 f2 hw λD C s4 m ys H' hn hD M W nD nC hz B k=>?_;show ay _ X.A (gN (.Name x f) X.env (.ref D)) _ _ s4;have I4:=k s4.heap λb o _ e=>e;have G:C≠X.env.locals:=λz=>by have:=K.lt;rw[<- z] at this;exact wT this (EZ.mpr M)
 have E:∀y c,X.env.cells.lookup y=ab c->c≠C:=λy c e z=>by obtain⟨v,q⟩:=K.cell y c e;have:=q.lt;rw[z] at this;exact wT this (EZ.mpr M)
 refine ny (oX I4 hN V hx (show wl (.ref D) (.ref D) from rfl) (λs5 I5 ⟨a,sb,ha⟩=>?_) hf);have nCa:C≠a:=by
  rcases ha with rfl | ha
  .exact G
  exact λz=>E x a ha z.symm
 refine⟨m,hn.sameBut sb nCa,λh' hs'=>⟨_,_,Inv.turned (t':=s5.toks) (it:=C) I5 (λb o hb e=>hs'.extBut b o hb e) (by rw[bz W];exact nC) G (.inr (R_ K.sz M)) E (λp hp z=>?_),B D nD⟩⟩;have:=F_ (K.pin p hp).1;rw[z] at this;exact wT this (EZ.mpr M)
def Pv (e C:af) (d:Option af) (a:Bool) (h:ci):Prop:=∃vs b,h.get? e=ab ⟨.ref C,d,.fields vs,b⟩/\(a=ai->vs[1]?=ab .none)
def Pc (e C:af) (d:Option af) (a:Bool):HO:=.ext (Pv e C d a)
def OQ (c:af) (b:List (ap × V)) (h:ci):Prop:=∃a,h.Ns1 c a/\(∀f,AV (b.lookup f) (a f))/\j2 a (b.map (·.1))
def Pf (b:af) (a:List (ap × V)):HO:=.ext (OQ b a)
end L2
set_option maxHeartbeats 1000000
namespace L3
open L2
inductive T where
 |non | bl (b:Bool) | int (i:Int) | str (x:ap) | tup (ts:List T) | ref (a:af) | ty (n:String)
mutual
def wr (K:a6) (H:Hp):T->V->Prop
 |.non,v=>v=.non
 |.bl b,v=>v=.bl b
 |.int i,v=>v=.int i
 |.str x,v=>v=.str x
 |.tup ts,v=>∃a xs,v=.ref a/\yB K H a xs/\ql K H ts xs
 |.ref a,v=>v=.ref a
 |.ty n,v=>v=.ty n
def ql (K:a6) (H:Hp):List T->List V->Prop
 |[],xs=>xs=[]
 |t::ts,xs=>∃x r,xs=x::r/\wr K H t x/\ql K H ts r
end
def Pr (K:a6) (H b:Hp):Prop:=∀a xs,yB K H a xs->yB K b a xs
theorem Pr.refl {K:a6}:Pr K H H:=λ_ _ h=>h
theorem Pr.trans {K:a6} (a:Pr K H e) (b:Pr K e d):Pr K H d:=λc xs h=>b c xs (a c xs h)
mutual
def wr.mono {K:a6} (b:Pr K H c):∀{t:T}{v:V},wr K H t v->wr K c t v
 |.non,_,h=>by simp only[wr] at h |-;exact h
 |.bl _,_,h=>by simp only[wr] at h |-;exact h
 |.int _,_,h=>by simp only[wr] at h |-;exact h
 |.str _,_,h=>by simp only[wr] at h |-;exact h
 |.ref _,_,h=>by simp only[wr] at h |-;exact h
 |.ty _,_,h=>by simp only[wr] at h |-;exact h
 |.tup ts,_,h=>by
  simp only[wr] at h |-
  obtain⟨a,xs,e,s,r⟩:=h
  exact⟨a,xs,e,b a xs s,ql.mono b r⟩
def ql.mono {K:a6} (c:Pr K H d):∀{ts:List T}{xs:List V},ql K H ts xs->ql K d ts xs
 |[],_,h=>by simp only[ql] at h |-;exact h
 |t::ts,_,h=>by
  simp only[ql] at h |-
  obtain⟨x,r,e,a,b⟩:=h
  exact⟨x,r,e,wr.mono c a,ql.mono c b⟩
end
section
variable {K:a6}
def ql.nil:ql K H [] []:=by simp only[ql]
def ql.cons (a:wr K H t v) (b:ql K H ts vs):ql K H (t::ts) (v::vs):=by simp only[ql];exact⟨v,vs,rfl,a,b⟩
def ql.inv (h:ql K H (t::ts) vs):∃v r,vs=v::r/\wr K H t v/\ql K H ts r:=by simp only[ql] at h;exact h
def ql.inv0 (h:ql K H [] vs):vs=[]:=by simp only[ql] at h;exact h
def ql.length:∀{ts:List T}{vs:List V},ql K H ts vs->ts.length=vs.length
 |[],_,h=>by rw[h.inv0];rfl
 |t::ts,_,h=>by obtain⟨v,r,rfl,_,b⟩:=h.inv;simp [ql.length b]
def ql.get:∀{ts:List T}{vs:List V}{i:Nat}{t:T},ql K H ts vs->ts[i]?=ab t->∃v,vs[i]?=ab v/\wr K H t v
 |[],_,_,_,_,e=>by simp at e
 |a::ts,_,0,t,h,e=>by obtain⟨v,r,rfl,q,_⟩:=h.inv;simp at e;subst e;exact⟨v,rfl,q⟩
 |a::ts,_,i+1,t,h,e=>by obtain⟨v,r,rfl,_,b⟩:=h.inv;simpa using ql.get b (by simpa using e)
def ql.get':∀{ts:List T}{vs:List V}{i:Nat}{v:V},ql K H ts vs->vs[i]?=ab v->∃t,ts[i]?=ab t/\wr K H t v
 |[],_,_,_,h,e=>by rw[h.inv0] at e;simp at e
 |a::ts,_,0,v,h,e=>by obtain⟨x,r,rfl,q,_⟩:=h.inv;simp at e;subst e;exact⟨a,rfl,q⟩
 |a::ts,_,i+1,v,h,e=>by obtain⟨x,r,rfl,_,b⟩:=h.inv;simpa using ql.get' b (by simpa using e)
def ql.append:∀{ts us:List T}{xs c:List V},ql K H ts xs->ql K H us c->ql K H (ts++us) (xs++c)
 |[],_,_,_,h,h'=>by rw[h.inv0];exact h'
 |t::ts,_,_,_,h,h'=>by obtain⟨v,r,rfl,a,b⟩:=h.inv;exact .cons a (ql.append b h')
def ql.take:∀{ts:List T}{xs:List V}(n:Nat),ql K H ts xs->ql K H (ts.take n) (xs.take n)
 |[],_,n,h=>by rw[h.inv0];simp only[sQ];exact .nil
 |t::ts,_,0,h=>.nil
 |t::ts,_,n+1,h=>by obtain⟨v,r,rfl,a,b⟩:=h.inv;exact .cons a (ql.take n b)
def ql.drop:∀{ts:List T}{xs:List V}(n:Nat),ql K H ts xs->ql K H (ts.drop n) (xs.drop n)
 |[],_,n,h=>by rw[h.inv0];simp only[List.drop_nil];exact .nil
 |t::ts,_,0,h=>h
 |t::ts,_,n+1,h=>by obtain⟨v,r,rfl,a,b⟩:=h.inv;exact ql.drop n b
def ql.set:∀{ts:List T}{xs:List V}{t:T}{v:V}(n:Nat),ql K H ts xs->wr K H t v->ql K H (ts.set n t) (xs.set n v)
 |[],_,_,_,n,h,r=>by rw[h.inv0];exact .nil
 |t::ts,_,_,_,0,h,q=>by obtain⟨v,r,rfl,a,b⟩:=h.inv;exact .cons q b
 |t::ts,_,_,_,n+1,h,q=>by obtain⟨v,r,rfl,a,b⟩:=h.inv;exact .cons a (ql.set n b q)
def ql.reverse (h:ql K H ts xs):ql K H ts.reverse xs.reverse:=by
 induction ts generalizing xs with
 |nil=>rw[h.inv0];exact .nil
 |cons t ts c=>obtain⟨v,r,rfl,a,b⟩:=h.inv;simp only[iE];exact (c b).append (.cons a .nil)
def wr.non (h:wr K H .non v):v=.non:=by simp only[wr] at h;exact h
def wr.bl (h:wr K H (.bl b) v):v=.bl b:=by simp only[wr] at h;exact h
def wr.int (h:wr K H (.int i) v):v=.int i:=by simp only[wr] at h;exact h
def wr.str (h:wr K H (.str x) v):v=.str x:=by simp only[wr] at h;exact h
def wr.ref (h:wr K H (.ref a) v):v=.ref a:=by simp only[wr] at h;exact h
def wr.ty (h:wr K H (.ty n) v):v=.ty n:=by simp only[wr] at h;exact h
def wr.tup (h:wr K H (.tup ts) v):∃a xs,v=.ref a/\yB K H a xs/\ql K H ts xs:=by simp only[wr] at h;exact h
def wr.ofNon:wr K H .non .non:=by simp only[wr]
def wr.ofBl:wr K H (.bl b) (.bl b):=by simp only[wr]
def wr.ofInt:wr K H (.int i) (.int i):=by simp only[wr]
def wr.ofStr:wr K H (.str x) (.str x):=by simp only[wr]
def wr.ofRef:wr K H (.ref a) (.ref a):=by simp only[wr]
def wr.ofTy:wr K H (.ty n) (.ty n):=by simp only[wr]
def wr.ofTup (h:yB K H a xs) (r:ql K H ts xs):wr K H (.tup ts) (.ref a):=by simp only[wr];exact⟨a,xs,rfl,h,r⟩
end
inductive O3 where
 |lst (ts:List T) | rol (ts:List T) | dct (kvs:List (ap × T)) | dcp (kvs:List (List xb × T))
 |exc (C:af) (d:Option af) | xdt (fs:List (ap × T))
 |dci (kvs:List (Int × T)) | dif (o:dQ) (kvs:List (Int × T)) | ins (C:af) (fs:List (ap × T)) | dcn (w:bb) (kvs:List (NK × T))
abbrev gV:=af->Option O3
def eH (H:gV) (a:af) (o:O3):gV:=λb=>if b=a then ab o else H b
theorem aq:eH H a o a=ab o:=by unfold eH;rw[we rfl]
theorem aH (h:b≠a):eH H a o b=H b:=by unfold eH;rw[wc h]
theorem qm:eH (eH H a o) a u=eH H a u:=by funext b;unfold eH;split <;> rfl
def CA (K:a6) (H:Hp):List (ap × T)->List (xb × V)->Prop:=fm λ(p:ap × T) (q:xb × V)=>q.1=cq p.1/\wr K H p.2 q.2
def L0 (K:a6) (H:Hp):List (List xb × T)->List (List xb × V)->Prop:=fm λ(p:List xb × T) (q:List xb × V)=>q.1=p.1/\wr K H p.2 q.2
def D2 (K:a6) (H:Hp):List (ap × T)->List (ap × V)->Prop:=fm λ(p:ap × T) (q:ap × V)=>q.1=p.1/\wr K H p.2 q.2
def CI (K:a6) (H:Hp):List (Int × T)->List (xb × V)->Prop:=fm λ(p:Int × T) (q:xb × V)=>q.1=dS p.1/\wr K H p.2 q.2
def AO (K:a6) (H:Hp):List (NK × T)->List (NK × af × V)->Prop:=fm λ(p:NK × T) (q:NK × af × V)=>q.1=p.1/\BF K H q.1 q.2.1/\wr K H p.2 q.2.2
def Kx (K:a6) (H:Hp) (a:af):O3->Prop
 |.lst ts=>∃xs,H a=ab (.lst xs)/\ql K H ts xs
 |.rol ts=>∃xs,Rd H a (.lst xs)/\ql K H ts xs
 |.dct kvs=>∃vs,H a=ab (.dK vs)/\CA K H kvs vs
 |.dcp kvs=>∃vs,H a=ab (.dT vs)/\L0 K H kvs vs
 |.exc C d=>H a=ab (Pc a C d am)
 |.xdt b=>∃vs,H a=ab (Pf a vs)/\D2 K H b vs
 |.dci kvs=>∃vs,H a=ab (.dK vs)/\CI K H kvs vs
 |.dif o kvs=>∃vs,H a=ab (.frz o (.dK vs))/\CI K H kvs vs
 |.ins C b=>∃c vs,H a=ab (.ins C c vs)/\D2 K H b vs
 |.dcn w kvs=>∃ks,H a=ab (C5 w a ks)/\AO K H kvs ks
def My (K:a6) (H3:gV) (H:Hp):Prop:=∀a o,H3 a=ab o->Kx K H a o
abbrev xv:=List (Option T)
structure zt (K:a6) (H:Hp) (Z3:xv) (Z:L2.St):Prop where
 len:Z3.length=Z.length
 at':∀(i:Nat) (t:T),Z3[i]?=ab (ab t)->∃v,Z[i]?=ab (ab v)/\wr K H t v
section
variable {K:a6}{H3:gV}
def zt.mono (s:zt K H Z3 Z) (a:Pr K H H'):zt K H' Z3 Z:=⟨s.len,λi t e=>let ⟨v,e',r⟩:=s.at' i t e;⟨v,e',r.mono a⟩⟩
def zt.set (s:zt K H Z3 Z) (r:wr K H t v):zt K H (Z3.set i (ab t)) (Z.set i (ab v)):=by
 refine⟨by simp [s.len],λj u e=>?_⟩;by_cases b:i=j
 .subst b;by_cases a:i<Z3.length
  .rw[KW a] at e;have c:t=u:=P_ (P_ e);subst c;exact⟨v,by rw[KW (by rw[<- s.len];exact a)],r⟩
  rw[U_ (by simpa using a)] at e;cases e
 rw[KL b] at e;rw[KL b];exact s.at' j u e
theorem CA.mono (h:CA K H kvs vs) (c:Pr K H H'):CA K H' kvs vs:=Paired.mapP h λ_ _ ⟨a,b⟩=>⟨a,b.mono c⟩
theorem D2.mono (h:D2 K H kvs vs) (c:Pr K H H'):D2 K H' kvs vs:=Paired.mapP h λ_ _ ⟨a,b⟩=>⟨a,b.mono c⟩
theorem CI.mono (h:CI K H kvs vs) (c:Pr K H H'):CI K H' kvs vs:=Paired.mapP h λ_ _ ⟨a,b⟩=>⟨a,b.mono c⟩
theorem L0.mono (h:L0 K H kvs vs) (c:Pr K H H'):L0 K H' kvs vs:=Paired.mapP h λ_ _ ⟨a,b⟩=>⟨a,b.mono c⟩
theorem BF.mono (h:BF K H k a) (c:Pr K H H'):BF K H' k a:=let ⟨b,h1,h2⟩:=h;⟨b,c _ _ h1,c _ _ h2⟩
theorem AO.mono (h:AO K H kvs ks) (d:Pr K H H'):AO K H' kvs ks:=Paired.mapP h λ_ _ ⟨a,b,c⟩=>⟨a,BF.mono b d,c.mono d⟩
theorem NC (h:H3 a=ab o) (h':H3 b=ab u) (d:o≠u):a≠b:=by
 intro e;subst e;rw[h] at h';exact d (P_ h')
theorem bF (h:H3 a=ab o) (h':H3 b=ag):a≠b:=by
 intro e;subst e;rw[h] at h';cases h'
theorem aQ (b:H p=ag):Pr K H (wS H p o):=λa xs h=>by
 rcases h with (h | ⟨c,h⟩) | h
 .exact .inl (.inl (by rw[bz (cM h b)];exact h))
 .exact .inl (.inr ⟨c,by rw[bz (cM h b)];exact h⟩)
 exact .inr h
theorem cJ (b:Fa (H p)):Pr K H (wS H p o):=λa xs h=>by
 have key:∀u,H a=ab u->¬Fa (ab u)->a≠p:=λu e nm z=>by subst z;rw[e] at b;exact nm b
 rcases h with (h | ⟨c,h⟩) | h
 .exact .inl (.inl (by rw[bz (key _ h λz=>z)];exact h))
 .exact .inl (.inr ⟨c,by rw[bz (key _ h λz=>z)];exact h⟩)
 exact .inr h
theorem Kx.stay (h:Kx K H a o) (c:Pr K H H') (b:∀u,H a=ab u->H' a=ab u):Kx K H' a o:=by
 cases o with
 |lst ts=>obtain⟨xs,e,r⟩:=h;exact⟨xs,b _ e,r.mono c⟩
 |rol ts =>
  obtain⟨xs,e,r⟩:=h;refine⟨xs,?_,r.mono c⟩;rcases e with e | ⟨g,e⟩
  .exact .inl (b _ e)
  exact .inr ⟨g,b _ e⟩
 |dct kvs=>obtain⟨vs,e,r⟩:=h;exact⟨vs,b _ e,r.mono c⟩
 |dcp kvs=>obtain⟨vs,e,r⟩:=h;exact⟨vs,b _ e,r.mono c⟩
 |exc C d=>exact b _ h
 |xdt f=>obtain⟨vs,e,r⟩:=h;exact⟨vs,b _ e,r.mono c⟩
 |dci kvs=>obtain⟨vs,e,r⟩:=h;exact⟨vs,b _ e,r.mono c⟩
 |dif o kvs=>obtain⟨vs,e,r⟩:=h;exact⟨vs,b _ e,r.mono c⟩
 |ins C f=>obtain⟨d,vs,e,r⟩:=h;exact⟨d,vs,b _ e,r.mono c⟩
 |dcn w f=>obtain⟨vs,e,r⟩:=h;exact⟨vs,b _ e,r.mono c⟩
theorem My.new (s:My K H3 H) (b:H p=ag):My K H3 (wS H p o):=λa u e =>
 (s a u e).stay (aQ b) λw q=>by rw[bz (cM q b)];exact q
theorem My.fresh (s:My K H3 H) (a:H p=ag):H3 p=ag:=by
 cases e:H3 p with
 |none=>rfl
 |some o =>
  have q:=s p o e
  cases o with
  |lst ts=>obtain⟨xs,z,_⟩:=q;rw[a] at z;cases z
  |dct ts=>obtain⟨xs,z,_⟩:=q;rw[a] at z;cases z
  |dcp ts=>obtain⟨xs,z,_⟩:=q;rw[a] at z;cases z
  |exc C b=>have z:H p=_:=q;rw[a] at z;cases z
  |xdt ts=>obtain⟨xs,z,_⟩:=q;rw[a] at z;cases z
  |dci ts=>obtain⟨xs,z,_⟩:=q;rw[a] at z;cases z
  |dif o ts=>obtain⟨xs,z,_⟩:=q;rw[a] at z;cases z
  |ins C ts=>obtain⟨b,xs,z,_⟩:=q;rw[a] at z;cases z
  |dcn w ts=>obtain⟨xs,z,_⟩:=q;rw[a] at z;cases z
  |rol ts =>
   obtain⟨xs,z,_⟩:=q
   rcases z with z | ⟨c,z⟩
   ·
    rw[a] at z;cases z
   ·
    rw[a] at z;cases z
end
abbrev wv:=T->gV->Prop
abbrev wE:=xv->gV->wv->Prop
abbrev A1:=xv->gV->(Bool->gV->Prop)->Prop
abbrev AK:=xv->gV->(List T->gV->Prop)->Prop
structure MQ where
 nx:xv->gV->Prop
 rt:wv
 bk:xv->gV->Prop:=λ_ _=>False
 ct:xv->gV->Prop:=λ_ _=>False
abbrev zo:=MQ->xv->gV->Prop
abbrev B5:=T->xv->gV->(xv->gV->Prop)->Prop
abbrev mG:=List T->xv->gV->(xv->gV->Prop)->Prop
abbrev R3:=T->T->gV->wv->Prop
section
variable (K:a6)
def C7 (H:Hp) (Q3:wv) (Q:VK):Prop:=∀v b t a,Pr K H b->My K a b->wr K b t v->Q3 t a->Q v b
def DF (H:Hp) (e:xv->gV->Prop) (N:L2.St->Hp->Prop):Prop:=∀d c b a,Pr K H c->zt K c b d->My K a c->e b a->N d c
def DA (b:wE):TE:=λZ H Q=>∃a H3 Q3,zt K H a Z/\My K H3 H/\b a H3 Q3/\C7 K H Q3 Q
def z7 (e:A1):TT:=λZ H Q=>∃d H3 Q3,zt K H d Z/\My K H3 H/\e d H3 Q3/\∀b c a,Pr K H c->My K a c->Q3 b a->Q b c
def XS (d:AK):TA:=λZ H Q=>∃c H3 Q3,zt K H c Z/\My K H3 H/\d c H3 Q3/\∀vs b ts a,Pr K H b->My K a b->ql K b ts vs->Q3 ts a->Q vs b
def Ur (c:zo):TS:=λD Z H=>∃b H3 a,zt K H b Z/\My K H3 H/\c a b H3/\DF K H a.nx D.nx/\C7 K H a.rt D.rt/\DF K H a.bk D.bk/\DF K H a.ct D.ct
def IW (b:B5):TG:=λv Z H Q=>∃t a H3 Q3,wr K H t v/\zt K H a Z/\My K H3 H/\b t a H3 Q3/\DF K H Q3 Q
def Us (b:mG):GO:=λvs Z H Q=>∃ts a H3 Q3,ql K H ts vs/\zt K H a Z/\My K H3 H/\b ts a H3 Q3/\DF K H Q3 Q
def Cp (c:R3):R2:=λx y H Q=>∃b a H3 Q3,wr K H b x/\wr K H a y/\My K H3 H/\c b a H3 Q3/\C7 K H Q3 Q
def XX (a:List T->gV->wv->Prop):List V->Hp->VK->Prop:=λxs H Q=>∃ts H3 Q3,ql K H ts xs/\My K H3 H/\a ts H3 Q3/\C7 K H Q3 Q
def X3 (b:T->List T->gV->wv->Prop):V->List V->Hp->VK->Prop:=λx xs H Q=>∃a ts H3 Q3,wr K H a x/\ql K H ts xs/\My K H3 H/\b a ts H3 Q3/\C7 K H Q3 Q
end
section
variable {K:a6}
theorem C7.at (k:C7 K H Q3 Q) (c:Pr K H H1):C7 K H1 Q3 Q:=λv b t a l=>k v b t a (c.trans l)
theorem DF.at (k:DF K H e N) (f:Pr K H H1):DF K H1 e N:=λa b c d l=>k a b c d (f.trans l)
end
def wP (X:Cx) (e:Expr) (t:wE):Prop:=PE X e (DA X.K t)
def BB (X:Cx) (e:Expr) (t:A1):Prop:=PT X e (z7 X.K t)
def yk (X:Cx) (e:Expr) (t:A1):Prop:=PW X e (z7 X.K t)
def A5 (X:Cx) (a:List Expr) (t:AK):Prop:=PA X a (XS X.K t)
def CB (X:Cx) (st:ef) (t:zo):Prop:=PS X st (Ur X.K t)
def qp (X:Cx) (st:List ef) (t:zo):Prop:=AQ X st (Ur X.K t)
def ER (X:Cx) (e:Expr) (t:B5):Prop:=PG X e (IW X.K t)
def Ja (X:Cx) (a:List Expr) (t:mG):Prop:=DL X a (Us X.K t)
def d7 (X:Cx) (f:aw->aw->Sem aw) (r:R3):Prop:=xB X f (Cp X.K r)
def dC (X:Cx) (f:aw) (r:List T->gV->wv->Prop):Prop:=AR X f (XX X.K r)
def Ut (X:Cx) (r:R3):Prop:=BU X (Cp X.K r)
def vK (X:Cx) (a:String) (r:T->List T->gV->wv->Prop):Prop:=DM X a (X3 X.K r)
theorem PE.imp (h:PE X e t) (w:∀Z H Q,t' Z H Q->t Z H Q):PE X e t':=λa s Z H Q I q=>h a s Z H Q I (w Z H Q q)
theorem PT.imp (h:PT X e t) (w:∀Z H Q,t' Z H Q->t Z H Q):PT X e t':=λa s Z H Q I q=>h a s Z H Q I (w Z H Q q)
theorem PW.imp (h:PW X e t) (w:∀Z H Q,t' Z H Q->t Z H Q):PW X e t':=λb a s Z H Q I q=>h b a s Z H Q I (w Z H Q q)
theorem PA.imp (h:PA X c t) (w:∀Z H Q,t' Z H Q->t Z H Q):PA X c t':=λb a s Z H Q I q=>h b a s Z H Q I (w Z H Q q)
theorem PS.imp (h:PS X e t) (w:∀D Z H,t' D Z H->t D Z H):PS X e t':=λa s Z H D I q=>h a s Z H D I (w D Z H q)
theorem AQ.imp (h:AQ X e t) (w:∀D Z H,t' D Z H->t D Z H):AQ X e t':=λa s Z H D I q=>h a s Z H D I (w D Z H q)
theorem PG.imp (h:PG X e t) (w:∀v Z H Q,t' v Z H Q->t v Z H Q):PG X e t':=λa s Z H v u Q I r q=>h a s Z H v u Q I r (w v Z H Q q)
theorem DL.imp (h:DL X e t) (w:∀v Z H Q,t' v Z H Q->t v Z H Q):DL X e t':=λa s Z H v u Q I r q=>h a s Z H v u Q I r (w v Z H Q q)
theorem xB.imp (h:xB X f t) (w:∀x y H Q,t' x y H Q->t x y H Q):xB X f t':=λa s Z H x y v u Q I c b q=>h a s Z H x y v u Q I c b (w x y H Q q)
theorem AR.imp (h:AR X f t) (w:∀x H Q,t' x H Q->t x H Q):AR X f t':=λa s Z H x v Q I b q=>h a s Z H x v Q I b (w x H Q q)
theorem BU.imp (h:BU X t) (w:∀x y H Q,t' x y H Q->t x y H Q):BU X t':=λa b c s Z H x y v u Q I e d q=>h a b c s Z H x y v u Q I e d (w x y H Q q)
theorem DM.imp (h:DM X b t) (w:∀x xs H Q,t' x xs H Q->t x xs H Q):DM X b t':=λa s Z H x xs v us Q I d c q=>h a s Z H x xs v us Q I d c (w x xs H Q q)
section
variable {X:Cx}{P9:mi}
def su (i:Nat):wE:=λZ H Q=>match Z[i]? with
 |some (ab t)=>Q t H
 |_=>False
def LB (t:T):wE:=λ_ H Q=>Q t H
theorem v3 (i:Nat) {b:mi} (l:X.N[i]?=ab x:=by rfl) (c:Jn X.env.scope x:=by first | exact j3 rfl | exact fq (j3 rfl) | exact fq (fq rfl)) (j:(x==("__debug__":ap))=am:=by decide) (a:(x==("__classdict__":ap))=am:=by decide):wP X (.Name x b) (su i):=by
 refine PE.imp (pv i l c j a) ?_;rintro Z H Q ⟨m,H3,Q3,d,g,h,k⟩;unfold su at h;split at h
 .rename_i t e;obtain⟨v,f,r⟩:=d.at' i t e;exact⟨v,f,k v H t H3 .refl g r h⟩
 exact h.elim
abbrev AN{X x}:=@v3 X x 9
abbrev AC{X x}:=@v3 X x 8
abbrev y7{X x}:=@v3 X x 7
abbrev y6{X x}:=@v3 X x 6
abbrev xA{X x}:=@v3 X x 5
abbrev xk{X x}:=@v3 X x 4
abbrev xa{X x}:=@v3 X x 3
abbrev w4{X x}:=@v3 X x 2
abbrev wm{X x}:=@v3 X x 1
abbrev wh{X x}:=@v3 X x 0
theorem ao:wP X (.Constant (.int i) j P9) (LB (.int i)):=by
 refine PE.imp N5 ?_;rintro Z H Q ⟨c,H3,Q3,b,a,h,k⟩;exact k _ _ _ H3 .refl a .ofInt h
theorem cG:wP X (.Constant (.bool b) j P9) (LB (.bl b)):=by
 refine PE.imp Th ?_;rintro Z H Q ⟨d,H3,Q3,c,a,h,k⟩;exact k _ _ _ H3 .refl a .ofBl h
theorem cZ:wP X (.Constant (.str x) j P9) (LB (.str x)):=by
 refine PE.imp N6 ?_;rintro Z H Q ⟨c,H3,Q3,b,a,h,k⟩;exact k _ _ _ H3 .refl a .ofStr h
variable {a b c:Expr}{ta tb tc:wE}
def vL (r:R3) (d a:wE):wE:=λZ H Q=>d Z H λx c=>a Z c λy b=>r x y b Q
theorem jc (h:DA X.K (vL r ta tb) Z H Q):HU (Cp X.K r) (DA X.K ta) (DA X.K tb) Z H Q:=by
 obtain⟨i,H3,Q3,g,o,h,k⟩:=h;exact⟨i,H3,_,g,o,h,λx t j d b e n m=>⟨i,d,_,g.mono b,e,m,λy s q c a f p l=>⟨j,q,c,Q3,n.mono a,p,f,l,k.at (b.trans a)⟩⟩⟩
theorem aF (e:d7 X (bt op) r) (d:wP X a ta) (c:wP X b tb):wP X (.BinOp a op b P9) (vL r ta tb):=PE.imp (TJ e d c) λ_ _ _ h=>jc h
theorem di (f:d7 X (a9 op) r) (c:wP X a ta) (d:wP X b tb) (e:b9 op b=am:=by first | exact Br _ | rfl):wP X (.Compare a [op] [b] P9) (vL r ta tb):=PE.imp (HJ f c d e) λ_ _ _ h=>jc h
theorem aJ (c:Ut X r) (e:wP X a ta) (d:wP X b tb) (f:xJ b:=by exact λ_ _=>rfl):wP X (.Subscript a b P9) (vL r ta tb):=PE.imp (Uc c e d f) λ_ _ _ h=>jc h
def jw (t:wE):A1:=λZ H Q=>t Z H λx a=>match x with
 |.bl k=>Q k a
 |_=>False
theorem aO (g:d7 X (a9 op) r) (m:wP X a ta) (j:wP X b tb) (e:b9 op b=am:=by first | exact Br _ | rfl):BB X (.Compare a [op] [b] P9) (jw (vL r ta tb)):=by
 refine PT.imp (HN g m j e) ?_;rintro Z H Q ⟨n,H3,Q3,l,i,h,k⟩;refine jc (X:=X) ⟨n,H3,_,l,i,h,λv o t d f c r q=>?_⟩;cases t with
 |bl b=>exact⟨b,r.bl,k b o d f c q⟩
 |_=>exact q.elim
def qt (r b:R3) (g f c:wE):wE:=λZ H Q=>g Z H λx d=>f Z d λy a=>r x y a λz H3=>match z with
 |.bl k=>if k=ai then c Z H3 λw e=>b y w e Q else Q (.bl am) H3
 |_=>False
theorem z8 (h:DA X.K (qt r A ta tb tc) Z H Q):Bs (Cp X.K r) (Cp X.K A) (DA X.K ta) (DA X.K tb) (DA X.K tc) Z H Q:=by
 obtain⟨s,H3,Q3,p,J,h,k⟩:=h;refine⟨s,H3,_,p,J,h,λx L G j a g C D=>⟨s,j,_,p.mono a,g,D,λy M v n c m u I=>⟨G,v,n,_,C.mono c,u,m,I,λz N t o f e E q=>?_⟩⟩⟩;cases t with
 |bl b =>
  refine⟨b,E.bl,?_⟩;cases b with
  |true=>exact⟨s,o,_,p.mono (a.trans (c.trans f)),e,q,λw O F i d l rw B=>⟨v,F,i,Q3,u.mono (f.trans d),rw,l,B,k.at (a.trans (c.trans (f.trans d)))⟩⟩
  |false=>exact k _ _ _ _ (a.trans (c.trans f)) e .ofBl q
 |_=>exact q.elim
variable {wq:List Expr}
theorem Cq (n:d7 X (a9 op) r) (g:d7 X (a9 d) i) (w:wP X a ta) (p:wP X b tb) (m:wP X c tc) (j:lastMarks [op,d] [b,c]=am:=by with_unfolding_all rfl):BB X (.Compare a [op,d] [b,c] P9) (jw (qt r i ta tb tc)):=by
 refine PT.imp (Bt n g w p m j) ?_;rintro Z H Q ⟨x,H3,Q3,u,o,h,k⟩;refine z8 (X:=X) ⟨x,H3,_,u,o,h,λv s t f l e r q=>?_⟩;cases t with
 |bl b=>exact⟨b,r.bl,k b s f l e q⟩
 |_=>exact q.elim
theorem cH (h:wP X a ta) (f:∀whole,isTrue a X.env whole=(do let v <- whole;nz a.pos;e9 [v] (truthy v)):=by intro _;rfl):BB X a (jw ta):=by
 refine PT.imp (N8 h f) ?_;rintro Z H Q ⟨j,H3,Q3,i,g,h,k⟩;refine⟨j,H3,_,i,g,h,λv l t d e c r q=>?_⟩;cases t with
 |bl b=>exact⟨b,r.bl,k b l d e c q⟩
 |_=>exact q.elim
def Lh (t u:A1):A1:=λZ H Q=>t Z H λc a=>if c=ai then u Z a Q else Q am a
def Uu (t u:A1):A1:=λZ H Q=>t Z H λc a=>if c=ai then Q ai a else u Z a Q
def Li (t:A1):A1:=λZ H Q=>t Z H λc a=>Q (!c) a
theorem yk.pt (h:yk X a tA):BB X a tA:=PW.pt h
theorem cL (b:BB X a tA):yk X (.BoolOp .And [a] P9) tA:=Ht b
theorem ik (b:BB X a tA):yk X (.BoolOp .Or [a] P9) tA:=Oa b
theorem cW (r:BB X a tA) (p:yk X (.BoolOp .And (b::wq) P9) tB'):yk X (.BoolOp .And (a::b::wq) P9) (Lh tA tB'):=by
 refine PW.imp (Ob r p) ?_;rintro Z H Q ⟨m,H3,Q3,l,o,h,k⟩;refine⟨m,H3,_,l,o,h,λb s d i c q=>?_⟩;cases b with
 |true=>exact⟨m,d,_,l.mono i,c,q,λb j f g e n=>k b j f (i.trans g) e n⟩
 |false=>exact k am s d i c q
theorem jq (r:BB X a tA) (p:yk X (.BoolOp .Or (b::wq) P9) tB'):yk X (.BoolOp .Or (a::b::wq) P9) (Uu tA tB'):=by
 refine PW.imp (Ti r p) ?_;rintro Z H Q ⟨m,H3,Q3,l,o,h,k⟩;refine⟨m,H3,_,l,o,h,λb s d i c q=>?_⟩;cases b with
 |true=>exact k ai s d i c q
 |false=>exact⟨m,d,_,l.mono i,c,q,λb j f g e n=>k b j f (i.trans g) e n⟩
theorem fC (i:BB X a tA):BB X (.UnaryOp .Not a P9) (Li tA):=by
 refine PT.imp (Oc i) ?_;rintro Z H Q ⟨j,H3,Q3,g,f,h,k⟩;exact⟨j,H3,_,g,f,h,λb l d e c q=>k _ l d e c q⟩
def Cr (d b:wE):wE:=λZ H Q=>d Z H λx a=>match x with
 |.bl c=>if c=ai then b Z a Q else Q (.bl am) a
 |_=>False
def Lj (d b:wE):wE:=λZ H Q=>d Z H λx a=>match x with
 |.bl c=>if c=ai then Q (.bl ai) a else b Z a Q
 |_=>False
def Cu (a:wE):wE:=λZ H Q=>a Z H λx b=>match x with
 |.bl c=>Q (.bl (!c)) b
 |_=>False
theorem mH (h:wP X a t):wP X (.BoolOp op [a] P9) t:=Od h
theorem mJ (l:wP X a ta) (j:wP X (.BoolOp .And (b::wq) P9) tb):wP X (.BoolOp .And (a::b::wq) P9) (Cr ta tb):=by
 refine PE.imp (Oe l j) ?_;rintro Z H Q ⟨g,H3,Q3,f,i,h,k⟩;refine⟨g,H3,_,f,i,h,λv m t d e c r q=>?_⟩;cases t with
 |bl b =>
  refine⟨b,r.bl,?_⟩;cases b with
  |true=>exact⟨g,d,_,f.mono e,c,q,k.at e⟩
  |false=>exact k _ m _ d e c .ofBl q
 |_=>exact q.elim
theorem Uv (l:wP X a ta) (j:wP X (.BoolOp .Or (b::wq) P9) tb):wP X (.BoolOp .Or (a::b::wq) P9) (Lj ta tb):=by
 refine PE.imp (Tp l j) ?_;rintro Z H Q ⟨g,H3,Q3,f,i,h,k⟩;refine⟨g,H3,_,f,i,h,λv m t d e c r q=>?_⟩;cases t with
 |bl b =>
  refine⟨b,r.bl,?_⟩;cases b with
  |true=>exact k _ m _ d e c .ofBl q
  |false=>exact⟨g,d,_,f.mono e,c,q,k.at e⟩
 |_=>exact q.elim
theorem Cv (i:wP X a ta):wP X (.UnaryOp .Not a P9) (Cu ta):=by
 refine PE.imp (Og i) ?_;rintro Z H Q ⟨j,H3,Q3,g,f,h,k⟩;refine⟨j,H3,_,g,f,h,λv l t d e c r q=>?_⟩;cases t with
 |bl b=>exact⟨b,r.bl,k _ l _ d e c .ofBl q⟩
 |_=>exact q.elim
def X4 (t:A1) (d b:wE):wE:=λZ H Q=>t Z H λc a=>if c=ai then d Z a Q else b Z a Q
def Lk:AK:=λ_ H Q=>Q [] H
def Cw (d:wE) (b:AK):AK:=λZ H Q=>d Z H λx c=>b Z c λxs a=>Q (x::xs) a
theorem ak:A5 X [] Lk:=by
 refine PA.imp O5 ?_;rintro Z H Q ⟨c,H3,Q3,b,a,h,k⟩;exact k _ _ _ _ .refl a .nil h
theorem aa (s:wP X e te) (p:A5 X es t) (u:aE (e::es) X.env=(am,bP e X.env)::aE es X.env:=by rfl):A5 X (e::es) (Cw te t):=by
 refine PA.imp (HW s p u) ?_;rintro Z H Q ⟨j,H3,Q3,i,o,h,k⟩;exact⟨j,H3,_,i,o,h,λv w t d f c r q=>⟨j,d,_,i.mono f,c,q,λvs m ts g a b l n=>k _ _ _ _ (f.trans a) b (.cons (r.mono a) l) n⟩⟩
def Ln (t:AK):wE:=λZ H Q=>t Z H λxs a=>xs.length<=av/\Q (.tup xs) a
def Lp (t:AK):wE:=λZ H Q=>t Z H λxs a=>xs.length<=av/\∀p,a p=ag->Q (.ref p) (eH a p (.lst xs))
def My.newTup {K:a6}{H3:gV} (a:H p=ag) (r:ql K H ts xs):wr K (wS H p (.tup xs)) (.tup ts) (.ref p) :=
 .ofTup (.of cI) (r.mono (aQ a))
def My.newLst {K:a6} (s:My K H3 H) (b:H p=ag) (r:ql K H ts xs):My K (eH H3 p (.lst ts)) (wS H p (.lst xs)):=λa o e=>by
 by_cases c:a=p
 .subst c;rw[aq] at e;cases e;exact⟨xs,cI,r.mono (aQ b)⟩
 rw[aH c] at e;exact s.new b a o e
theorem bB (h:A5 X es t):wP X (.Tuple es x1 P9) (Ln t):=by
 refine PE.imp (O6 h) ?_;rintro Z H Q ⟨g,H3,Q3,f,e,h,k⟩;refine⟨g,H3,_,f,e,h,λvs i ts a d c r q=>⟨by rw[<- r.length];exact q.1,λp b=>?_⟩⟩;exact k _ _ _ a (d.trans (aQ b)) (c.new b) (My.newTup (H3:=a) b r) q.2
theorem aY (h:A5 X es t):wP X (.List es P9) (Lp t):=by
 refine PE.imp (O7 h) ?_;rintro Z H Q ⟨g,H3,Q3,f,e,h,k⟩;refine⟨g,H3,_,f,e,h,λvs i ts d c a r q=>⟨by rw[<- r.length];exact q.1,λp b=>?_⟩⟩;exact k _ _ _ _ (c.trans (aQ b)) (a.newLst b r) .ofRef (q.2 p (a.fresh b))
end
section
variable {X:Cx}{st:ef}{wq:List ef}{P9:mi}
def Cy:zo:=λD Z H=>D.nx Z H
def xN (t u:zo):zo:=λD Z H=>t { D with nx:=u D} Z H
theorem aL:qp X [] Cy:=by
 refine AQ.imp Hu ?_;rintro D Z H ⟨e,H3,d,c,a,h,b,_⟩;exact b _ _ _ _ .refl c a h
theorem aj (k:CB X st t) (o:qp X wq u):qp X (st::wq) (xN t u):=by
 refine AQ.imp (Bk k o) ?_;rintro D Z H ⟨p,H3,j,n,l,h,m,i,f,g⟩;exact⟨p,H3,_,n,l,h,λr s e c a d b q=>⟨e,c,j,d,b,q,m.at a,i.at a,f.at a,g.at a⟩,i,f,g⟩
theorem au (a:CB X st t):qp X [st] t:=Hv a
def Cz (te:wE):zo:=λD Z H=>te Z H λ_ a=>D.nx Z a
theorem bK (f:wP X e te) (k:dL e ag P9.line X.env=ce am:=by rfl):CB X (.Expr e P9) (Cz te):=by
 refine PS.imp (Hw f k) ?_;rintro D Z H ⟨j,H3,l,c,g,h,i,_⟩;exact⟨j,H3,_,c,g,h,λv m t d b a r q=>i _ _ _ _ b (c.mono b) a q⟩
def Lq (te:wE):zo:=λD Z H=>te Z H D.rt
theorem aK (a:wP X e te):CB X (.Return (ab e) P9) (Lq te):=by
 refine PS.imp (Oh a) ?_;rintro D Z H ⟨d,H3,g,c,b,h,i,f,_⟩;exact⟨d,H3,_,c,b,h,f⟩
def Py:zo:=λD _ H=>D.rt .non H
def Lr (c:A1) (t u:zo):zo:=λD Z H=>c Z H λb a=>if b=ai then t D Z a else u D Z a
theorem bc (p:BB X c tc) (o:qp X a t) (s:qp X b u):CB X (.If c a b P9) (Lr tc t u):=by
 refine PS.imp (Tt p o s) ?_;rintro D Z H ⟨i,H3,j,g,r,h,l,n,k,m⟩;refine⟨i,H3,_,g,r,h,λb v f d e q=>?_⟩;cases b with
 |true=>exact⟨i,f,j,g.mono d,e,q,l.at d,n.at d,k.at d,m.at d⟩
 |false=>exact⟨i,f,j,g.mono d,e,q,l.at d,n.at d,k.at d,m.at d⟩
def jx (i:Nat):B5:=λv Z H Q=>Q (Z.set i (ab v)) H
theorem aB (i:Nat) (f:X.N.Nodup) (b:X.N[i]?=ab x:=by rfl) (c:E1 X.env.scope x:=by first | exact j3 rfl | exact fq rfl) (a:X.fn x=ai\/X.env.scope.names.lookup x=ab .local:=by first | exact .inl rfl | exact .inr rfl | assumption):ER X (.Name x P9) (jx i):=by
 refine PG.imp (Hy f b c a) ?_;rintro v Z H Q ⟨t,g,H3,Q3,r,e,d,h,k⟩;exact k _ _ _ _ .refl (e.set r) d h
def CG:mG:=λts Z H Q=>match ts with
 |[]=>Q Z H
 |_=>False
def qu (t:B5) (u:mG):mG:=λts Z H Q=>match ts with
 |x::r=>t x Z H λa b=>u r a b Q
 |[]=>False
theorem bC:Ja X [] CG:=by
 refine DL.imp Hz ?_;rintro vs Z H Q ⟨ts,c,H3,Q3,r,b,a,h,k⟩;cases ts with
 |nil=>exact⟨r.inv0,k _ _ _ _ .refl b a h⟩
 |cons _ _=>exact h.elim
theorem aG {t:B5}{u:mG} (j:ER X e t) (s:Ja X a u) (w:(dt (e::a) X.env).map (·.2)=gN e X.env::(dt a X.env).map (·.2):=by rfl):Ja X (e::a) (qu t u):=by
 refine DL.imp (Bo j s w) ?_;rintro vs Z H Q ⟨ts,m,H3,Q3,r,p,l,h,k⟩;cases ts with
 |nil=>exact h.elim
 |cons x ts =>
 obtain⟨v,o,rfl,i,n⟩:=r.inv;exact⟨v,o,rfl,x,m,H3,_,i,p,l,h,λy z f c g d b q=>⟨ts,f,c,Q3,n.mono g,d,b,q,k.at g⟩⟩
def xO (n:Nat) (g:mG):B5:=λt Z H Q=>match t with
 |.tup ts=>ts.length=n/\g ts Z H Q
 |_=>False
theorem bU {k:Nat}{t:mG} (f:X.calm=ai) (h:Ja X b t) (e:(dt b X.env).length=n:=by rfl) (c:(dt b X.env).findIdx? (·.1)=ag:=by rfl):ER X (.Tuple b k P9) (xO n t):=by
 refine PG.imp (Oi f h e c) ?_;rintro v Z H Q ⟨t,i,H3,Q3,r,j,g,h,k⟩;cases t with
 |tup ts=>obtain⟨a,xs,rfl,s,d⟩:=r.tup;exact⟨a,xs,rfl,s,by rw[<- d.length];exact h.1,ts,i,H3,Q3,d,j,g,h.2,k⟩
 |_=>exact h.elim
def CJ (te:wE) (g:B5):zo:=λD Z H=>te Z H λx a=>g x Z a D.nx
theorem iH (j:wP X e te) (n:ER X a g) (l:sC [a] e P9.line X.env=ce am:=by rfl) (p:sD [a] e X.env=ce ag:=by rfl) (k:(dt [a] X.env).map (·.2)=[gN a X.env]:=by rfl):CB X (.Assign [a] e P9) (CJ te g):=by
 refine PS.imp (Ol j n l p k) ?_;rintro D Z H ⟨i,H3,s,f,m,h,o,_⟩;exact⟨i,H3,_,f,m,h,λv u t c d b r q=>⟨t,i,c,_,r,f.mono d,b,q,o.at d⟩⟩
theorem aD (i:Nat) {a:mi} (n:X.N.Nodup) (l:wP X e te) (j:X.N[i]?=ab x:=by rfl) (k:E1 X.env.scope x:=by first | exact j3 rfl | exact fq rfl) (s:dL e (ab (.Name x a)) P9.line X.env=ce am:=by rfl) (g:X.fn x=ai\/X.env.scope.names.lookup x=ab .local:=by first | exact .inl rfl | exact .inr rfl | assumption):
  CB X (.Assign [.Name x a] e P9) (CJ te (jx i)):=by
 refine PS.imp (Om n j k l s g) ?_;rintro D Z H ⟨p,H3,u,d,m,h,o,_⟩;exact⟨p,H3,_,d,m,h,λv w t f c b r q=>o _ _ _ _ c ((d.mono c).set r) b q⟩
end
abbrev sy:=T->T->T->gV->(gV->Prop)->Prop
def Pz (K:a6) (f:sy):Bm:=λo i v H Q=>∃e d c H3 Q3,wr K H e o/\wr K H d i/\wr K H c v/\My K H3 H/\f e d c H3 Q3/\∀b a,Pr K H b->My K a b->Q3 a->Q b
def Ls (X:Cx) (t:sy):Prop:=FS X (Pz X.K t)
theorem FS.imp (h:FS X t) (w:∀o i v H Q,t' o i v H Q->t o i v H Q):FS X t':=λa s Z H o i v c d u Q I f b e q=>h a s Z H o i v c d u Q I f b e (w o i v H Q q)
def Lw (c a:wE) (t:sy):B5:=λv Z H Q=>c Z H λo d=>a Z d λi b=>t o i v b λH3=>Q Z H3
theorem PB (s:wP X o d) (y:wP X i c) (z:Ls X t) (D:∀v,gN (.Subscript o i P9) X.env v=(do
   let ov <- e9 [v] (bP o X.env)
   let iv <- e9 [v,ov] (bP i X.env)
   nz P9
   e9 [v,ov,iv] (tf ov iv v)
   release [v,ov,iv] []):=by intro _;rfl):ER X (.Subscript o i P9) (Lw d c t):=by
 refine PG.imp (Oj s y z D) ?_;rintro v Z H Q ⟨t,p,H3,Q3,r,m,C,h,k⟩;exact⟨p,H3,_,m,C,h,λo E d g a e w x=>⟨p,g,_,m.mono a,e,x,λi F c l b j u A=>⟨d,c,t,l,_,w.mono b,u,r.mono (a.trans b),j,A,λG B n f q=>k _ _ _ _ (a.trans (b.trans n)) (m.mono (a.trans (b.trans n))) f q⟩⟩⟩
abbrev CU:=xv->gV->(List T->(gV->Prop)->gV->Prop)->Prop
def mK (K:a6) (J:It) (ts:List T) (still:gV->Prop) (H:Hp):Prop:=∀c b,Pr K H c->My K b c->still b ->
 (∀i,ts.length<=i->J.stop i c)/\∀i t,ts[i]?=ab t->J.go i c/\∀x a,J.yld i c x a->Pr K c a/\My K b a/\wr K a t x
def X5 (K:a6) (d:CU):TI:=λZ H R=>∃c H3 R3,zt K H c Z/\My K H3 H/\d c H3 R3/\∀J ts still b a,Pr K H b->My K a b->mK K J ts still b->R3 ts still a->R J b
def C6 (X:Cx) (b a:Expr) (t:CU):Prop:=PI X b a (X5 X.K t)
theorem PI.imp (h:PI X b e t) (w:∀Z H R,t' Z H R->t Z H R):PI X b e t':=λa s Z H R I q=>h a s Z H R I (w Z H R q)
def dR:gV->Prop:=λ_=>True
def bI (a:af) (ts:List T):gV->Prop:=λH=>H a=ab (.lst ts)\/H a=ab (.rol ts)
def My.sqL {K:a6} (s:My K H3 H) (h:bI a ts H3):∃xs,y8 K H a xs/\ql K H ts xs:=by
 rcases h with h | h
 .obtain⟨xs,e,r⟩:=s a _ h;exact⟨xs,.of e,r⟩
 obtain⟨xs,e,r⟩:=s a _ h;exact⟨xs,.inl e,r⟩
section
variable {tg l:Expr}{P9 p:mi}
def CK (c:wE):CU:=λZ H R=>c Z H λx b=>match x with
 |.ref a=>match b a with
  |some (.lst ts)=>R ts (bI a ts) b
  |some (.rol ts)=>R ts (bI a ts) b
  |_=>False
 |_=>False
theorem ph {K:a6}:mK K (Nd K a) ts (bI a ts) H:=λo h l d st=>by
 obtain⟨xs,b,c⟩:=d.sqL st;have n:=c.length;refine⟨λi m=>⟨xs,b,uS⟩,λi t e=>?_⟩;obtain⟨v,f,g⟩:=c.get e;refine⟨⟨xs,v,b,f⟩,λx k y=>?_⟩;obtain⟨j,y⟩:=y;subst j;have:=y xs b;rw[f] at this;cases this;exact⟨.refl,d,g⟩
theorem bA (m:wP X l tl):C6 X tg l (CK tl):=by
 refine PI.imp (HB m) ?_;rintro Z H R ⟨p,H3,R3,o,n,h,k⟩;refine⟨p,H3,_,o,n,h,λv i t b g c r q=>?_⟩;cases t with
 |ref a =>
  have d:(match b a with
   |some (.lst ts)=>R3 ts (bI a ts) b
   |some (.rol ts)=>R3 ts (bI a ts) b
   |_=>False):=q
  split at d
  ·
   rename_i ts e
   obtain⟨xs,f,j⟩:=c.sqL (.inl e)
   exact⟨a,r.ref,⟨xs,f⟩,k _ ts (bI a ts) i b g c ph d⟩
  ·
   rename_i ts e
   obtain⟨xs,f,j⟩:=c.sqL (.inr e)
   exact⟨a,r.ref,⟨xs,f⟩,k _ ts (bI a ts) i b g c ph d⟩
  ·
   exact d.elim
 |_=>exact q.elim
def Lx (a:wE):CU:=λZ H R=>a Z H λx b=>match x with
 |.tup ts=>R ts dR b
 |_=>False
def CN {K:a6} (c:yB K H a xs) (d:ql K H ts xs):mK K (Nl K a) ts dR H:=λo h b l st=>by
 have n:=d.length;refine⟨λi m=>⟨xs,b _ _ c,uS⟩,λi t e=>?_⟩;obtain⟨v,f,g⟩:=d.get e;refine⟨⟨xs,v,b _ _ c,f⟩,λx k y=>?_⟩;obtain⟨j,y⟩:=y;subst j;have:=y xs (b _ _ c);rw[f] at this;cases this;exact⟨.refl,l,g.mono b⟩
theorem cD (i:wP X l tl):C6 X tg l (Lx tl):=by
 refine PI.imp (Oq i) ?_;rintro Z H R ⟨n,H3,R3,m,j,h,k⟩;refine⟨n,H3,_,m,j,h,λv o t c f b r q=>?_⟩;cases t with
 |tup ts=>obtain⟨a,xs,e,d,g⟩:=r.tup;exact⟨a,e,⟨xs,d⟩,k _ ts dR o c f b (CN d g) q⟩
 |_=>exact q.elim
def eU (a:Int) (n:Nat):List T:=(ax n).map λ(i:Nat)=>T.int (a+i)
theorem sE {K:a6}:mK K (HP b n) (eU b n) dR H:=λk c j h st=>by
 refine⟨λi a=>by unfold eU at a;simp at a;exact a,λi t e=>?_⟩;unfold eU at e;rw[C_] at e;by_cases a:i<n
 .rw[YL a] at e;cases e;refine⟨a,λx g y=>?_⟩;obtain⟨f,d⟩:=y;subst f;subst d;exact⟨.refl,h,.ofInt⟩
 rw[U_ (by simpa using a)] at e;cases e
def CP (b:AK):CU:=λZ H R=>b Z H λvs a=>match vs with
 |[.int j]=>-(2^62)<=j/\j<2^62/\R (eU 0 j.toNat) dR a
 |[.int i,.int j]=>(-(2^62)<=i/\i<2^62 /\ -(2^62)<=j/\j<2^62)/\R (eU i (j - i).toNat) dR a
 |_=>False
theorem bN (w:Gl X "range") (g:X.mg "range"=ag) (u:A5 X [a] e) (x:aE [a] X.env=[(am,bP a X.env)]:=by rfl):C6 X tg (.Call (.Name "range" p) [a] [] P9) (CP (λZ H Q=>e Z H λvs l=>vs.length=1/\Q vs l)):=by
 refine PI.imp (zJ w g u x) ?_;rintro Z H R ⟨n,H3,R3,s,m,h,k⟩;refine⟨n,H3,_,s,m,h,λvs y ts c i b r q=>?_⟩;obtain⟨d,q⟩:=q;cases ts with
 |nil=>cases d
 |cons t ts =>
 cases ts with
 |cons _ _=>simp at d
 |nil =>
 cases t with
 |int j=>obtain⟨v,_,rfl,f,o⟩:=r.inv;rw[o.inv0,f.int];exact⟨j,rfl,q.1,q.2.1,k _ _ _ y c i b sE q.2.2⟩
 |_=>exact q.elim
theorem z9 (o:Gl X "range") (t:X.mg "range"=ag) (B:A5 X [a,b] g) (u:aE [a,b] X.env=[(am,bP a X.env),(am,bP b X.env)]:=by rfl) (c:aE [b] X.env=[(am,bP b X.env)]:=by rfl):
  C6 X tg (.Call (.Name "range" p) [a,b] [] P9) (CP (λZ H Q=>g Z H λvs n=>vs.length=2/\Q vs n)):=by
 refine PI.imp (zK o t B u c) ?_;rintro Z H R ⟨C,H3,R3,A,z,h,k⟩;refine⟨C,H3,_,A,z,h,λvs w ts f x e r q=>?_⟩;obtain⟨m,q⟩:=q
 match ts,m,r with
 |[t1,t2],_,r =>
 obtain⟨v,_,rfl,s,y⟩:=r.inv;obtain⟨D,_,rfl,d,l⟩:=y.inv;cases t1 with
 |int i =>
  cases t2 with
  |int j=>rw[l.inv0,s.int,d.int];exact⟨i,j,rfl,q.1,k _ _ _ w f x e sE q.2⟩
  |_=>exact q.elim
 |_=>cases t2 <;> exact q.elim
end
def B0 (g:B5) (a:zo) (D:MQ) (still:gV->Prop):List T->xv->gV->Prop
 |[],Z,H=>still H/\D.nx Z H
 |t::r,Z,H=>still H/\g t Z H λb c=>a { D with nx:=B0 g a D still r,ct:=B0 g a D still r,bk:=D.nx} b c
theorem B0.st (h:B0 g a D still ts Z H):still H:=by
 cases ts with
 |nil=>exact h.1
 |cons t r=>exact h.1
def Ly (c:CU) (g:B5) (a:zo):zo:=λD Z H=>c Z H λts still b=>B0 g a D still ts Z b
theorem bh (hp:o2 (aT X.prog X.w) X.A X.env X.xe) (hc:X.calm=ai) (W:C6 X tg iter Y) (hg:ER X tg g) (hb:qp X n r) (hs:∀x,df iter X.env x=ce x:=by intro _;rfl):CB X (.For tg iter n [] P9) (Ly Y g r):=by
 refine PS.imp (Ot hp hc W hg hb hs) ?_;rintro D Z H ⟨j,H3,E,U,sh,h,V,k2,k3,k4⟩;refine⟨j,H3,_,U,sh,h,λJ ts still u O F L wk q=>?_⟩;refine⟨λi m Z H=>∃j H3,Pr X.K u H/\zt X.K H j Z/\My X.K H3 H/\m=ts.length - i/\i<=ts.length/\B0 g r E still (ts.drop i) j H3,⟨ts.length,j,O,.refl,U.mono F,L,rfl,Y5 _,by simpa using q⟩,?_⟩;rintro i m Z H ⟨Z4,H4,o,v,C,rfl,W,it⟩;have w:=wk H H4 o C it.st;by_cases p:i<ts.length
 .have e:=d_ p;have ed:ts.drop i=ts[i]::ts.drop (i+1):=hZ p;rw[ed] at it;obtain⟨st,it⟩:=it;obtain⟨go,yl⟩:=w.2 i _ e;refine .inr ⟨go,λz f=>∃j H3,Pr X.K u f/\zt X.K f j z/\My X.K H3 f/\B0 g r E still (ts.drop (i+1)) j H3,λz f ⟨s5,h5,a,b,c,d⟩=>⟨ts.length - (i+1),uS,s5,h5,a,b,c,rfl,p,d⟩,λx f y=>?_⟩;obtain⟨t,N,rx⟩:=yl x f y;refine⟨ts[i],Z4,H4,_,rx,v.mono t,N,it,λZ2 M T R P G Q q2=>?_⟩;have k:Pr X.K u M:=o.trans (t.trans P);have nx:∀(B:Pr X.K u M),DF X.K M (B0 g r E still (ts.drop (i+1))) (λz f=>∃j H3,Pr X.K u f/\zt X.K f j z/\My X.K H3 f/\B0 g r E still (ts.drop (i+1)) j H3) :=
   λB z f I S l s h q=>⟨I,S,B.trans l,s,h,q⟩
  exact⟨T,R,_,G,Q,q2,nx k,k2.at (F.trans k),V.at (F.trans k),nx k⟩
 have e:i=ts.length:=uS
 subst e;rw[pT] at it;exact .inl ⟨w.1 _ (u_ _),V _ _ _ _ (F.trans o) v C it.2⟩
def xP (c:A1) (g:zo):zo:=λD Z H=>∃W:Nat->xv->gV->Prop,(∃m,W m Z H)/\∀m Z H,W m Z H ->
 c Z H λb f=>if b=ai then g { D with nx:=λd e=>∃a,a<m/\W a d e,ct:=λd e=>∃a,a<m/\W a d e,bk:=D.nx} Z f else D.nx Z f
theorem jL (J:o2 (aT X.prog X.w) X.A X.env X.xe) (C:BB X c v) (E:qp X f y):CB X (.While c f [] P9) (xP v y):=by
 refine PS.imp (Bp J C E) ?_;rintro D Z H ⟨k,H3,S,Q,O,⟨W,⟨F,I⟩,o⟩,x,N,U,V⟩;refine⟨λm j d=>∃k H3,Pr X.K H d/\zt X.K d k j/\My X.K H3 d/\W m k H3,⟨F,k,H3,.refl,Q,O,I⟩,?_⟩;rintro m T R ⟨t,z,e,i,r,P⟩;refine⟨t,z,_,i,r,o m t z P,λb L G a n q=>?_⟩;cases b with
 |true =>
  rw[we rfl] at q |-;have B:DF X.K L (λj d=>∃g,g<m/\W g j d) (λj d=>∃g,g<m/\∃k H3,Pr X.K H d/\zt X.K d k j/\My X.K H3 d/\W g k H3) :=
   λj d p u l s h ⟨g,M,w⟩=>⟨g,M,p,u,e.trans (a.trans l),s,h,w⟩
  exact⟨_,λj d h=>h,t,G,_,i.mono a,n,q,B,N.at (e.trans a),x.at (e.trans a),B⟩
 |false =>
 rw[wc K_] at q |-;exact x _ _ _ _ (e.trans a) (i.mono a) n q
def Jb (X:Cx) (a:List Expr) (t:A1):Prop:=F9 X a (z7 X.K t)
def xQ:A1:=λ_ H Q=>Q ai H
theorem bY:Jb X [] xQ:=λa s Z H Q I ⟨d,H3,Q3,c,b,h,k⟩=>Iv a s Z H Q I (k _ _ _ .refl b h)
theorem dJ (h:BB X c t):Jb X [c] t:=Iw h
def qw (nt:Nat) (cap:List Nat) (Z:xv):xv:=aS nt ag++cap.map λj=>(Z[j]?).getD ag
def xR {K:a6} (s:zt K H a Z):zt K H (qw nt cap a) (oH nt cap Z):=by
 refine⟨by simp [qw,oH],λi t e=>?_⟩;unfold qw at e;unfold oH;by_cases c:i<nt
 .rw[YW (by simpa using c),K0] at e;split at e <;> cases e
 rw[O_ (by simpa using c),C_] at e;rw[O_ (by simpa using c),C_];simp only[Zb] at e |-;cases q:cap[i - nt]? with
 |none=>rw[q] at e;cases e
 |some j =>
 rw[q] at e;have b:(a[j]?).getD ag=ab t:=P_ e;have d:a[j]?=ab (ab t):=by
  cases z:a[j]? with
  |none=>rw[z] at b;cases b
  |some y=>rw[z] at b;exact YB ab b
 obtain⟨v,f,r⟩:=s.at' j t d;exact⟨v,by simp [f],r⟩
def Bz (g:B5) (tt:A1) (te:wE) (still:gV->Prop) (a:List T->gV->Prop):List T->List T->xv->gV->Prop
 |[],ys,Z,H=>still H/\ys.length<=av/\a ys H
 |t::r,ys,Z,H=>still H/\g t Z H λc d=>tt c d λb H3=>if b=ai then te c H3 λy e=>ys.length<av/\Bz g tt te still a r (ys++[y]) c e else Bz g tt te still a r ys c H3
theorem Bz.st (h:Bz g tt te still a ts b Z H):still H:=by
 cases ts with
 |nil=>exact h.1
 |cons t r=>exact h.1
def CQ {K:a6} (W:mK K J ts still q) (ss:zt K q s Z) (sh:My K p q) (h:Bz g tt te still a ts [] s p) (X:∀n us r H3',Pr K q r->My K H3' r->ql K r n us->a n H3'->z us r):xM J (IW K g) (z7 K tt) (DA K te) z Z q:=by
 refine⟨λi m us Z H=>∃s H3 n,Pr K q H/\zt K H s Z/\My K H3 H/\ql K H n us/\m=ts.length - i/\i<=ts.length/\Bz g tt te still a (ts.drop i) n s H3,⟨ts.length,s,p,[],.refl,ss,sh,.nil,rfl,Y5 _,by simpa using h⟩,?_⟩;rintro i m us Z H ⟨Z4,Q,n,d,O,C,A,rfl,hi,it⟩;have w:=W H Q d C it.st;by_cases j:i<ts.length
 .have e:=d_ j;have R:ts.drop i=ts[i]::ts.drop (i+1):=hZ j;rw[R] at it;obtain⟨st,it⟩:=it;obtain⟨go,Y⟩:=w.2 i _ e;refine .inr ⟨go,λx r y=>?_⟩;obtain⟨u,I,U⟩:=Y x r y;refine⟨ts[i],Z4,Q,_,U,O.mono u,I,it,λZ2 H2 l N L c M q2=>?_⟩;refine⟨l,N,_,c,M,q2,λb H3 B k D E=>?_⟩;have f:Pr K H H3:=u.trans (L.trans k);cases b with
  |true=>rw[we rfl] at E;refine XN ?_;refine⟨l,B,_,c.mono k,D,E,λv H5 t G o F S P=>⟨by rw[<- A.length];exact P.1,ts.length - (i+1),uS,l,G,n++[t],d.trans (f.trans o),c.mono (k.trans o),F,(A.mono (f.trans o)).append (.cons S .nil),rfl,j,P.2⟩⟩
  |false =>
  rw[wc K_] at E;refine XM ?_;exact⟨ts.length - (i+1),uS,l,B,n,d.trans f,c.mono k,D,A.mono f,rfl,j,E⟩
 have e:i=ts.length:=uS
 subst e;rw[pT] at it;exact .inl ⟨w.1 _ (u_ _),by rw[<- A.length];exact it.2.1,X _ _ _ _ d C A it.2.2⟩
def CT (d:CU) (g:B5) (tt:A1) (te:wE) (nt:Nat) (cap:List Nat):wE:=λZ H Q=>d Z H λts still c=>Bz g tt te still (λb a=>∀p,a p=ag->Q (.ref p) (eH a p (.lst b))) ts [] (qw nt cap Z) c
def pA (d:CU) (g:B5) (tt:A1) (te:wE) (nt:Nat) (cap:List Nat) (i:Nat):zo:=λD Z H=>d Z H λts still c=>Bz g tt te still (λb a=>∀p,a p=ag->D.nx (Z.set i (ab (.ref p))) (eH a p (.lst b))) ts [] (qw nt cap Z) c
section
variable {P9 QA spos:mi}
theorem bD (i:X.calm=ai) (S:EW X N' nt cap scope) (r:C6 X tg iter wi)
  (m:∀cl P8 s H C fp,ER (cu X N' scope cl P8 s H C fp) tg g/\Jb (cu X N' scope cl P8 s H C fp) ifs tt/\wP (cu X N' scope cl P8 s H C fp) elt te)
  (t:∀x,df iter X.env x=ce x:=by intro _;rfl):wP X (.ListComp elt [⟨tg,iter,ifs,0⟩] scope P9) (CT wi g tt te nt cap):=by
 refine PE.imp (IK (g:=IW X.K g) (tt:=z7 X.K tt) (te:=DA X.K te) i S r m t) ?_;rintro Z H Q ⟨w,H3,Q3,f,v,h,k⟩;refine⟨w,H3,_,f,v,h,λJ ts still y o e c n q=>?_⟩;exact CQ n (xR (f.mono e)) c q λA us z u b a l j p d=>k _ _ _ _ (e.trans (b.trans (aQ d))) (a.newLst d l) .ofRef (j p (a.fresh d))
theorem jd (l:X.calm=ai) (u:X.N.Nodup) (S:EW X N' nt cap scope) (y:C6 X tg iter wi) (r:∀cl P8 s H C fp,ER (cu X N' scope cl P8 s H C fp) tg g/\Jb (cu X N' scope cl P8 s H C fp) ifs tt/\wP (cu X N' scope cl P8 s H C fp) elt te) (d:X.N[i]?=ab x:=by rfl) (B:E1 X.env.scope x:=by first | exact j3 rfl | exact fq rfl) (f:dL (.ListComp elt [⟨tg,iter,ifs,0⟩] scope P9) (ab (.Name x QA)) spos.line X.env=ce ai:=by rfl) (z:∀x,df iter X.env x=ce x:=by intro _;rfl) (w:X.fn x=ai\/X.env.scope.names.lookup x=ab .local:=by first | exact .inl rfl | exact .inr rfl | assumption):
  CB X (.Assign [.Name x QA] (.ListComp elt [⟨tg,iter,ifs,0⟩] scope P9) spos) (pA wi g tt te nt cap i):=by
 refine PS.imp (IV (g:=IW X.K g) (tt:=z7 X.K tt) (te:=DA X.K te) l u d B S y r f z w) ?_;rintro D Z H ⟨F,H3,M,k,E,h,o,_⟩;refine⟨F,H3,_,k,E,h,λJ ts still G v j e t q=>?_⟩;exact CQ t (xR (k.mono j)) e q λL us I A a b n m p c =>
  o _ _ _ _ (j.trans (a.trans (aQ c))) ((k.mono (j.trans (a.trans (aQ c)))).set .ofRef) (b.newLst c n) (m p (b.fresh c))
end
abbrev xi:=List T->gV->wv->Prop
def sG (K:a6) (sp:xi):Sp:=λvs H Q _=>∃ts H3 Q3,ql K H ts vs/\My K H3 H/\sp ts H3 Q3/\C7 K H Q3 Q
def eG (H b:gV):Prop:=∀a o,H a=ab o->b a=ab o
theorem eG.refl:eG H H:=λ_ _ h=>h
theorem eG.trans (a:eG H e) (b:eG e d):eG H d:=λc o h=>b c o (a c o h)
theorem eG.new (h:H p=ag):eG H (eH H p o):=λa u e=>by rw[aH (bF e h)];exact e
theorem My.sub {K:a6} (s:My K b H) (h:eG H3 b):My K H3 H:=λa o e=>s a o (h a o e)
def n7 (Q:wv):wv:=λv H=>∃a,eG a H/\Q v a
theorem n7.of (h:eG a H) (q:Q v a):n7 Q v H:=⟨a,h,q⟩
def aP (N:List ap) (ts:List T):xv:=ts.map ab++aS (N.length - ts.length) ag
def Aa {K:a6} (r:ql K H ts vs):zt K H (aP N ts) (L2.start N vs):=by
 refine⟨by simp [aP,L2.start,r.length],λi t e=>?_⟩;unfold aP at e;unfold L2.start;have d:=r.length;by_cases a:i<ts.length
 .rw[YW (by simpa using a),C_] at e;rw[YW (by rw[g_];omega),C_];cases q:ts[i]? with
  |none=>rw[q] at e;cases e
  |some u =>
  rw[q] at e;cases e;obtain⟨v,c,b⟩:=r.get q;exact⟨v,by rw[c];rfl,b⟩
 rw[O_ (by simpa using a),K0] at e;split at e <;> cases e
section
variable {p P9:mi}
def lz (P:br) (w:bb) (K:a6) (b:ap->Option aw) (base:ci) (k:Nat) (f:af) (a:dk) (ps:List ap) (sp:xi):Prop:=D1 P w K b base E8 k f a ps (sG K sp)
def qz (sp:xi) (t:AK):wE:=λZ H Q=>t Z H λvs a=>sp vs a Q
theorem Jc (F:lz X.prog X.w X.K X.mg X.base k f fd ps sp) (u:zc k X.A) (n:Gl X x) (i:X.mg x=ab (.ref f)) (l:jv X.K (.ref f)=ai) (s:xI X.K fd ps [])
  (g:A5 X (e::es) t) (d:(x==("__debug__":ap))=am:=by decide) (m:aE (e::es) X.env=(am,bP e X.env)::aE es X.env:=by rfl) (b:(cv P9 (aE es X.env)).any (·.1)=am:=by rfl) :
  wP X (.Call (.Name x p) (e::es) [] P9) (qz sp t):=by
 refine PE.imp (HX (dvs:=[]) (E:=E0) F u n i l s .nil Ca g d m b) ?_;rintro Z H Q ⟨y,H3,Q3,v,o,h,k⟩;refine⟨y,H3,_,v,o,h,λvs z ts c j a r q=>?_⟩;show sG X.K sp (vs++[]) z Q E0;rw[YH];exact⟨ts,c,Q3,r,a,q,k.at j⟩
theorem GS {K:a6}{st:ef} (F:DD K x b st f fd) (S:fY N ps (aC st)) (g:∀ts H Q,sp ts H Q->ts.length=ps.length) (e:∀(c:aw) (A:dA) (a:List tJ) (s:aI) (H:Hp) (E:XK) (ts:List T) (H3:gV) (Q:wv),zc k (A.deeper (iX b (aC st) s.heap.objs.size f c))->sp ts H3 Q ->
   ∃t,qp (vA E8 P w K n base N b (aC st) f c A a s H E).nox (cP st) t/\t { nx:=λ_ i=>n7 Q .non i,rt:=n7 Q} (aP N ts) H3):lz P w K n base (k+1) f fd ps sp:=by
 refine F.ok S (λvs H Q E ⟨ts,H3,Q3,r,m,q,k⟩=>by rw[<- r.length];exact g _ _ _ q) λc A a s H vs Q E D ⟨ts,H3,Q3,r,m,q,k⟩=>?_;obtain⟨t,u,y⟩:=e c A a s H E ts H3 Q3 D q;exact⟨_,u,aP N ts,H3,_,Aa r,m,y,λG i p l j o d ⟨C,h,q⟩=>k _ _ _ _ j (d.sub h) .ofNon q,λv i t l j d B ⟨C,h,q⟩=>k _ _ _ _ j (d.sub h) B q,λ_ _ _ _ _ _ _ z=>z,λ_ _ _ _ _ _ _ z=>z⟩
end
noncomputable instance:DecidableEq T:=λa b=>ae (a=b)
def pl:Nat->T->Bool
 |_,.non=>ai
 |_,.int _=>ai
 |_,.str _=>ai
 |d+1,.tup ts=>ts.all (pl d)
 |_,_=>am
section
variable {X:Cx}{P8:List (af × dQ)}{Z:L2.St}{H:Hp}{s:aI}
def xT (I:Inv X P8 Z H s):∀(d:Nat) (x y:T) (v:V),pl d x=ai->pl d y=ai->wr X.K H x v->wr X.K H y v->x=y:=by
 intro d;induction d with
 |zero =>
  intro x y v i g c f;cases x <;> cases y <;> first
   |rfl
   | (simp only[wr] at c f;subst c;cases f <;> rfl)
   | (simp [pl] at i;done)
   | (simp [pl] at g;done)
 |succ d q =>
 intro x y v i g c f;cases x with
 |tup ts =>
  cases y with
  |tup us =>
   obtain⟨a,xs,rfl,w,r⟩:=c.tup;obtain⟨b,z,e,k,m⟩:=f.tup;cases e;have:=I.tuple_inj w k;subst this;simp only[pl,YG] at i g;congr 1;have key:∀(ts us:List T) (xs:List V),(∀t∈ts,pl d t=ai)->(∀t∈us,pl d t=ai)->ql X.K H ts xs->ql X.K H us xs->ts=us:=by
    intro ts;induction ts with
    |nil =>
     intro us xs _ _ h h';rw[h.inv0] at h';cases us with
     |nil=>rfl
     |cons u us=>obtain⟨_,_,e,_⟩:=h'.inv;cases e
    |cons t ts l =>
    intro us xs p1 n h h';obtain⟨v,r,rfl,a,b⟩:=h.inv;cases us with
    |nil=>exact wT h'.inv0 wn
    |cons u us =>
    obtain⟨A,m,e,o,p⟩:=h'.inv;cases e;rw[q t u v (p1 t A_) (n u A_) a o,l us r (λt j=>p1 t (z_ _ j)) (λt j=>n t (z_ _ j)) b p]
   exact key ts us xs i g r m
  |_=>first | (simp only[wr] at c f;obtain⟨a,xs,e,_⟩:=c;subst e;cases f;done) | (simp [pl] at g;done)
 |_=>cases y <;> first
  |rfl
  | (simp only[wr] at c f;subst c;cases f <;> rfl)
  | (simp [pl] at i;done)
  | (simp [pl] at g;done)
  | (simp only[wr] at c f;obtain⟨a,xs,e,_⟩:=f;subst e;cases c;done)
theorem zk (A:dA):A.in1.units=A.units+1:=by rfl
theorem mL {a:Type} [DecidableEq (Option a)] (ts us:List a):((ax (min ts.length us.length)).all (λj=>decide (ts[j]?=us[j]?))&&ts.length==us.length)=ai↔ts=us:=by
 rw[H_,YG,CY];constructor
 .rintro⟨h,c⟩;refine IT λi=>?_;by_cases b:i<ts.length
  .exact Zq (h i (T_.mpr uS))
  rw[U_ uS,U_ uS]
 rintro rfl;exact⟨λi _=>by simp,rfl⟩
theorem Jd {us:List aw} (h:i<us.toArray.size) (e:us[i]?=ab v):us.toArray[i]=v:=by
 have:us.toArray[i]?=ab v:=by simpa using e
 rw[Ll h] at this;exact P_ this
def xU (I:Inv X P8 Z H s):∀(d:Nat) (A:dA) (x y:T) (l m:V) (u v:aw),pl d x=ai->pl d y=ai->wr X.K H x l->wr X.K H y m->wl l u->wl m v->A.units+d<cc->gT A s u v (decide (x=y)):=by
 have mj:∀(A:dA) (x y:T) (l m:V) (u v:aw),pl 0 x=ai->pl 0 y=ai->wr X.K H x l->wr X.K H y m->wl l u->wl m v->gT A s u v (decide (x=y)):=by
  intro A x y l m u v z q k c g f;cases x with
  |non =>
   cases k.non;cases g;cases y with
   |non=>cases c.non;cases f;simp only[ZV];exact qA _
   |int j=>cases c.int;obtain⟨t',rfl⟩:=f;rw[m_ wn];exact SeqAt.EqAt.none_int _ _
   |str j=>cases c.str;obtain⟨t',rfl⟩:=f;rw[m_ wn];exact SeqAt.EqAt.none_str _ _
   |_=>simp [pl] at q
  |int i =>
   cases k.int;obtain⟨t,rfl⟩:=g;cases y with
   |non=>cases c.non;cases f;rw[m_ wn];exact SeqAt.EqAt.int_none _ _
   |int j=>cases c.int;obtain⟨t',rfl⟩:=f;rw[show decide (T.int i=T.int j)=(i==j) by by_cases h:i=j <;> simp [h]];exact IL _ _ _ _
   |str j=>cases c.str;obtain⟨t',rfl⟩:=f;rw[m_ wn];exact ng _ _ _ _
   |_=>simp [pl] at q
  |str i =>
   cases k.str;obtain⟨t,rfl⟩:=g;cases y with
   |non=>cases c.non;cases f;rw[m_ wn];exact SeqAt.EqAt.str_none _ _
   |int j=>cases c.int;obtain⟨t',rfl⟩:=f;rw[m_ wn];exact nb _ _ _ _
   |str j=>cases c.str;obtain⟨t',rfl⟩:=f;rw[show decide (T.str i=T.str j)=(i==j) by by_cases h:i=j <;> simp [h]];exact SeqAt.EqAt.str_str _ _ _ _
   |_=>simp [pl] at q
  |_=>simp [pl] at z
 intro d;induction d with
 |zero=>intro A x y l m u v z q k c g f _;exact mj A x y l m u v z q k c g f
 |succ d U =>
 intro A x y l m u v z q k c g f hu;have p:A.units<cc:=uS
 cases x with
 |tup ts =>
  obtain⟨a,xs,rfl,M,r⟩:=k.tup;cases g;obtain⟨B,E,F,_⟩:=I.tuple M;cases y with
  |tup us =>
   obtain⟨b,L,rfl,n,C⟩:=c.tup;cases f;obtain⟨its',w,o,_⟩:=I.tuple n;by_cases D:a=b
   .subst D;have e:T.tup ts=T.tup us:=xT I (d+1) _ _ (.ref a) z q (.ofTup M r) (.ofTup n C);rw[e,k_ rfl];exact qA _
   have R:=r.length;have P:=C.length;have W:=E.length;have Q:=w.length;have key:=SeqAt.RcAt.tuples (A:=A) (s:=s) (e:=λj=>decide (ts[j]?=us[j]?)) (show s.heap.IsTuple a B.toArray from F) (show s.heap.IsTuple b its'.toArray from o) p (λj h1 h2=>by
    rw[x_] at h1 h2
    have G:j<ts.length:=uS
    have J:j<us.length:=uS
    obtain⟨p1,e1,q1⟩:=r.get (d_ G)
    obtain⟨N,S,q2⟩:=C.get (d_ J)
    obtain⟨z1,f1,Y⟩:=E.get e1
    obtain⟨z2,f2,w2⟩:=w.get S
    rw[Jd _ f1,Jd _ f2,d_ G,d_ J]
    simp only[pl,YG] at z q
    have:=U A.in1 ts[j] us[j] p1 N z1 z2 (z _ (YZ G)) (q _ (YZ J)) q1 q2 Y w2 (by rw[zk];omega)
    rw[show decide (ab ts[j]=ab us[j])=decide (ts[j]=us[j]) by by_cases h:ts[j]=us[j] <;> simp [h]]
    exact this)
   have O:((ax (min B.toArray.size its'.toArray.size)).all (λj=>decide (ts[j]?=us[j]?))&&B.toArray.size==its'.toArray.size)=decide (T.tup ts=T.tup us):=by
    rw[x_,x_,<- W,<- R,<- Q,<- P,Yx,mL,h_];constructor
    .rintro rfl;rfl
    intro h;injection h
   rw[O] at key;exact .of_refs D key
  |non=>cases c.non;cases f;rw[m_ wn];exact SeqAt.EqAt.tuple_none F p
  |int j=>cases c.int;obtain⟨t',rfl⟩:=f;rw[m_ wn];exact SeqAt.EqAt.tuple_int _ _ F p
  |str j=>cases c.str;obtain⟨t',rfl⟩:=f;rw[m_ wn];exact SeqAt.EqAt.tuple_str _ _ F p
  |_=>simp [pl] at q
 |non =>
  cases y with
  |tup us=>obtain⟨b,L,rfl,n,C⟩:=c.tup;cases f;obtain⟨its',w,o,_⟩:=I.tuple n;cases k.non;cases g;rw[m_ wn];exact SeqAt.EqAt.none_tuple o p
  |non=>exact mj A _ _ l m u v rfl rfl k c g f
  |int j=>exact mj A _ _ l m u v rfl rfl k c g f
  |str j=>exact mj A _ _ l m u v rfl rfl k c g f
  |_=>simp [pl] at q
 |int i =>
  cases y with
  |tup us=>obtain⟨b,L,rfl,n,C⟩:=c.tup;cases f;obtain⟨its',w,o,_⟩:=I.tuple n;cases k.int;obtain⟨t,rfl⟩:=g;rw[m_ wn];exact SeqAt.EqAt.int_tuple _ _ o p
  |non=>exact mj A _ _ l m u v rfl rfl k c g f
  |int j=>exact mj A _ _ l m u v rfl rfl k c g f
  |str j=>exact mj A _ _ l m u v rfl rfl k c g f
  |_=>simp [pl] at q
 |str i =>
  cases y with
  |tup us=>obtain⟨b,L,rfl,n,C⟩:=c.tup;cases f;obtain⟨its',w,o,_⟩:=I.tuple n;cases k.str;obtain⟨t,rfl⟩:=g;rw[m_ wn];exact SeqAt.EqAt.str_tuple _ _ o p
  |non=>exact mj A _ _ l m u v rfl rfl k c g f
  |int j=>exact mj A _ _ l m u v rfl rfl k c g f
  |str j=>exact mj A _ _ l m u v rfl rfl k c g f
  |_=>simp [pl] at q
 |_=>simp [pl] at z
end
def FB (C:Int->Int->Prop) (g:Int->Int->T):R3:=λx y H Q=>match x,y with
 |.int i,.int j=>C i j/\Q (g i j) H
 |_,_=>False
def qC (g:Int->Int->T):R3:=λx y H Q=>match x,y with
 |.int i,.int j=>Q (g i j) H
 |_,_=>False
section
variable {X:Cx}
def CV (h:xB X f (rI C g')) (l:∀i j H,wr X.K H (g i j) (g' i j)):d7 X f (FB C g):=by
 refine xB.imp h ?_;rintro x y H Q ⟨a,c,H3,Q3,b,d,e,h,k⟩;cases a with
 |int i =>
  cases c with
  |int j=>exact⟨i,j,b.int,d.int,h.1,k _ _ _ _ .refl e (l i j H) h.2⟩
  |_=>exact h.elim
 |_=>exact h.elim
def mO (h:xB X f (C9 g')) (l:∀i j H,wr X.K H (g i j) (g' i j)):d7 X f (qC g):=by
 refine xB.imp h ?_;rintro x y H Q ⟨a,c,H3,Q3,b,d,e,h,k⟩;cases a with
 |int i =>
  cases c with
  |int j=>exact⟨i,j,b.int,d.int,k _ _ _ _ .refl e (l i j H) h⟩
  |_=>exact h.elim
 |_=>exact h.elim
def CW (_ j:Int):Prop:=0<j/\j.natAbs.log2<9000
theorem CZ:xB X (bt .FloorDiv) (rI CW λi j=>.int (i / j)):=IJ λi j _ _ _ _ _ a q=>by
 have e:i / j=i.fdiv j:=(Int.fdiv_eq_ediv_of_nonneg i (Int.le_of_lt a.1)).symm;rw[e] at q;exact floordiv_int (Int.ne_of_gt a.1) q (.inl (PyProof.noPylong_of_log2 a.2))
theorem fG:d7 X (bt .Sub) (qC λi j=>.int (i - j)):=mO Ov λ_ _ _=>.ofInt
theorem bu:d7 X (bt .FloorDiv) (FB CW λi j=>.int (i / j)):=CV CZ λ_ _ _=>.ofInt
theorem aW:d7 X (bt .Mod) (FB (λ_ j=>0<j) λi j=>.int (i%j)):=CV Ox λ_ _ _=>.ofInt
theorem jy:d7 X (bt .Pow) (FB HH λi j=>.int (i^j.toNat)):=CV Oz λ_ _ _=>.ofInt
theorem Uw:d7 X (a9 .Lt) (qC λi j=>.bl (decide (i<j))):=mO TX λ_ _ _=>.ofBl
theorem sH:d7 X (a9 .LtE) (qC λi j=>.bl (decide (i<=j))):=mO TY λ_ _ _=>.ofBl
theorem mQ:d7 X (a9 .Gt) (qC λi j=>.bl (decide (j<i))):=mO T3 λ_ _ _=>.ofBl
theorem Ux:d7 X (a9 .GtE) (qC λi j=>.bl (decide (j<=i))):=mO T4 λ_ _ _=>.ofBl
theorem c7:d7 X (bt .Mult) (FB EV λi j=>.int (i*j)):=CV Ow λ_ _ _=>.ofInt
def sI:R3:=λx y H Q=>match x,y with
 |.int i,.int j=>Q (.int (i+j)) H
 |.str i,.str j=>i.length+j.length<=av/\Q (.str (i++j)) H
 |.ref a,.ref b=>match H a,H b with
  |some (.lst xs),ab (.lst ys)=>xs.length+ys.length<=av/\∀p,H p=ag->Q (.ref p) (eH H p (.lst (xs++ys)))
  |_,_=>False
 |.tup xs,.tup ys=>xs.length+ys.length<=av/\Q (.tup (xs++ys)) H
 |_,_=>False
theorem Dc:xB X (bt .Add) (λx y H Q=>∃a b p,x=.ref a/\y=.ref b/\yB X.K H a []/\yB X.K H b p/\Q (.ref b) H):=by
 intro r s Z H x y v u Q I D B h;obtain⟨a,b,p,rfl,rfl,w,C,q⟩:=h;cases D;cases B;obtain⟨G,M,p1,_⟩:=I.tuple w;obtain⟨f,N,z,_⟩:=I.tuple C;cases M;obtain⟨⟨A,J,t,E⟩,l,k,n,o⟩:=id p1;obtain⟨⟨m,i,g,j⟩,c,d,L,e⟩:=id z;simp only at k o d e;subst k o d e;exact jI ⟨_,l,rfl⟩ ⟨_,c,rfl⟩ i6 ma eK eC (MO _ _)
   (tuple_addW0 a b _ f.toArray n L J i E j wn) ⟨l,c,⟨.ref b,H,I,rfl,q⟩⟩
theorem aZ:d7 X (bt .Add) sI:=by
 refine xB.imp (OO.or (PF.or (Pw.or (PR.or Dc)))) ?_;rintro x y H Q ⟨v,n,H3,Q3,m,o,c,h,k⟩;cases v with
 |int i =>
  cases n with
  |int j=>exact .inl ⟨i,j,m.int,o.int,k _ _ _ _ .refl c .ofInt h⟩
  |_=>exact h.elim
 |str i =>
  cases n with
  |str j=>exact .inr (.inl ⟨i,j,m.str,o.str,h.1,k _ _ _ _ .refl c .ofStr h.2⟩)
  |_=>exact h.elim
 |ref a =>
  cases n with
  |ref b =>
   have h':(match H3 a,H3 b with
    |some (.lst xs),ab (.lst l)=>xs.length+l.length<=av/\∀p,H3 p=ag->Q3 (.ref p) (eH H3 p (.lst (xs++l)))
    |_,_=>False):=h
   split at h'
   ·
    rename_i xs l C B
    obtain⟨vs,z,g⟩:=c a _ C
    obtain⟨ws,A,d⟩:=c b _ B
    refine .inr (.inr (.inl ⟨a,b,vs,ws,m.ref,o.ref,z,A,by rw[<- g.length,<- d.length];exact h'.1,λp f=>?_⟩))
    exact k _ _ _ _ (aQ f) (c.newLst f (g.append d)) .ofRef (h'.2 p (c.fresh f))
   ·
    exact h'.elim
  |_=>exact h.elim
 |tup xs =>
  cases n with
  |tup l =>
   obtain⟨a,vs,rfl,r,g⟩:=m.tup;obtain⟨b,ws,rfl,s,d⟩:=o.tup;by_cases t:vs=[]
   .subst t;have w:xs=[]:=LO g.length;subst w;exact .inr (.inr (.inr (.inr ⟨a,b,ws,rfl,rfl,r,s,k _ _ _ _ .refl c (.ofTup s d) h.2⟩)))
   refine .inr (.inr (.inr (.inl ⟨a,b,vs,ws,rfl,rfl,r,s,t,by rw[<- g.length,<- d.length];exact h.1,λu=>?_,λu p f=>?_⟩)))
   .have e:l=[]:=by have:=d.length;rw[u] at this;exact LO this
    have q:=h.2;rw[e,YH] at q;exact k _ _ _ _ .refl c (.ofTup r g) q
   exact k _ _ _ _ (aQ f) (c.new f) (My.newTup (H3:=H3) f (g.append d)) h.2
  |_=>exact h.elim
 |_=>exact h.elim
variable {P8:List (af × dQ)}{Z:L2.St}{H:Hp}{s:aI}
def sJ (neg:Bool):R3:=λx y H Q=>match x,y with
 |.int i,.int j=>Q (.bl (if neg then !decide (i=j) else decide (i=j))) H
 |.str i,.str j=>Q (.bl (if neg then !decide (i=j) else decide (i=j))) H
 |.bl i,.bl j=>Q (.bl (if neg then !decide (i=j) else decide (i=j))) H
 |.non,.non=>Q (.bl (if neg then am else ai)) H
 |.tup xs,.tup ys=>xs.all (pl 20)=ai/\ys.all (pl 20)=ai/\Q (.bl (if neg then !decide (xs=ys) else decide (xs=ys))) H
 |.ref a,.ref b=>match H a,H b with
  |some (.lst xs),ab (.lst ys)=>a≠b/\xs.all (pl 20)=ai/\ys.all (pl 20)=ai/\Q (.bl (if neg then !decide (xs=ys) else decide (xs=ys))) H
  |_,_=>False
 |_,_=>False
def sO (I:Inv X P8 Z H s) {A:dA} (F:A.units+30<cc) (m:ts.all (pl 20)=ai) (l:us.all (pl 20)=ai) (r:ql X.K H ts xs) (g:ql X.K H us k) (c:wf xs a) (b:wf k its'):
  ∀j (f:j<a.toArray.size) (i:j<its'.toArray.size),gT A.in1 s a.toArray[j] its'.toArray[j] (decide (ts[j]?=us[j]?)):=λj f i=>by
 have D:=r.length;have B:=g.length;have E:=c.length;have C:=b.length;rw[x_] at f i;have d:j<ts.length:=uS
 have e:j<us.length:=uS
 obtain⟨p1,u,t⟩:=r.get (d_ d);obtain⟨z,n,x⟩:=g.get (d_ e);obtain⟨y,q,o⟩:=c.get u;obtain⟨p,v,w⟩:=b.get n;rw[Jd _ q,Jd _ v,d_ d,d_ e];rw[YG] at m l;have:=xU I 20 A.in1 ts[j] us[j] p1 z y p (m _ (YZ d)) (l _ (YZ e)) t x o w (by rw[zk];omega);rw[show decide (ab ts[j]=ab us[j])=decide (ts[j]=us[j]) by by_cases h:ts[j]=us[j] <;> simp [h]];exact this
theorem sS {ts us:List T}:((ax (min ts.length us.length)).all (λj=>decide (ts[j]?=us[j]?))&&ts.length==us.length)=decide (ts=us):=by
 rw[Yx,mL,h_]
theorem Ab {c:Type} [BEq c] [LawfulBEq c] [DecidableEq c] (a b:c):(a==b)=decide (a=b):=by rw[Yx];simp
theorem Lz (neg:Bool) (K:X.A.units+30<cc):d7 X (a9 (bif neg then .NotEq else .Eq)) (sJ neg):=by
 intro F s Z H x y v u Q I n m h;obtain⟨S,B,H3,Q3,w,p,J,h,k⟩:=h;have d:∀{b c:Bool},Q3 (.bl b) H3->c=b->EP X F Z Q (.bool c) s:=λq e=>e▸⟨.bl _,H,I,rfl,k _ _ _ _ .refl J .ofBl q⟩;cases S with
 |int i =>
  cases B with
  |int j =>
   rw[w.int] at n;rw[p.int] at m;obtain⟨t,rfl⟩:=n;obtain⟨t',rfl⟩:=m;cases neg
   .exact eq_int (d h (Ab ..))
   exact ne_int (d h (YB not (Ab ..)))
  |_=>exact h.elim
 |str i =>
  cases B with
  |str j =>
   rw[w.str] at n;rw[p.str] at m;obtain⟨t,rfl⟩:=n;obtain⟨t',rfl⟩:=m;cases neg
   .exact eq_str (d h (Ab ..))
   exact ne_str (d h (YB not (Ab ..)))
  |_=>exact h.elim
 |bl i =>
  cases B with
  |bl j =>
   rw[w.bl] at n;rw[p.bl] at m;cases n;cases m;cases neg
   .exact eq_bool (d h (Ab ..))
   exact ne_bool (d h (YB not (Ab ..)))
  |_=>exact h.elim
 |non =>
  cases B with
  |non =>
   rw[w.non] at n;rw[p.non] at m;cases n;cases m;cases neg
   .exact PySem.EqNone.eq_none_none (d h rfl)
   exact PySem.EqNone.ne_none_none (d h rfl)
  |_=>exact h.elim
 |tup ts =>
  cases B with
  |tup us =>
   obtain⟨a,xs,rfl,M,r⟩:=w.tup;obtain⟨b,D,rfl,G,C⟩:=p.tup;cases n;cases m;obtain⟨E,l,o,_⟩:=I.tuple M;obtain⟨its',g,f,_⟩:=I.tuple G;have e:=sS (ts:=ts) (us:=us);rw[r.length,C.length,l.length,g.length] at e;have key:=sO I K h.1 h.2.1 r C l g;cases neg
   .exact SeqAt.eq_tupleAt (e:=λj=>decide (ts[j]?=us[j]?)) o f uS key (d h.2.2 e)
   exact SeqAt.RcNeAt.tuples (e:=λj=>decide (ts[j]?=us[j]?)) o f uS key _ _ _ _ (d h.2.2 (YB not e))
  |_=>exact h.elim
 |ref a =>
  cases B with
  |ref b =>
   have h':(match H3 a,H3 b with
    |some (.lst xs),ab (.lst D)=>a≠b/\xs.all (pl 20)=ai/\D.all (pl 20)=ai/\Q3 (.bl (if neg then !decide (xs=D) else decide (xs=D))) H3
    |_,_=>False):=h
   split at h'
   ·
    rename_i ts us R N
    obtain⟨xs,L,r⟩:=J a _ R
    obtain⟨D,P,C⟩:=J b _ N
    cases w.ref;cases p.ref;cases n;cases m
    obtain⟨E,l,o,_⟩:=I.list (X:=X) (.of L)
    obtain⟨its',g,f,_⟩:=I.list (X:=X) (.of P)
    have O:E.length=ts.length:=by rw[<- l.length,<- r.length]
    have T:its'.length=us.length:=by rw[<- g.length,<- C.length]
    have key:=sO I K h'.2.1 h'.2.2.1 r C l g
    by_cases hsz:ts.length=us.length
    ·
     have e:=sS (ts:=ts) (us:=us)
     rw[<- hsz,Nat.min_self,beq_self_eq_true,ms,<- O] at e
     cases neg
     ·
      exact SeqAt.eq_listAt (e:=λj=>decide (ts[j]?=us[j]?)) o.isList f.isList (by simp;omega) uS key (d h'.2.2.2 e)
     ·
      exact SeqAt.RcNeAt.lists (e:=λj=>decide (ts[j]?=us[j]?)) o.isList f.isList (by simp;omega) uS key _ _ _ _ (d h'.2.2.2 (YB not e))
    ·
     have e:decide (ts=us)=am:=m_ λz=>hsz (by rw[z])
     cases neg
     ·
      exact SeqAt.eq_list_lengthsAt o.isList f.isList (by simp;omega) uS (d h'.2.2.2 e.symm)
     ·
      exact SeqAt.RcNeAt.lists_lengths o.isList f.isList (by simp;omega) uS _ _ _ _ (d h'.2.2.2 (by show ai=!decide (ts=us);rw[e];rfl))
   ·
    exact h'.elim
  |_=>exact h.elim
 |_=>exact h.elim
theorem bR (a:X.A.units+30<cc):d7 X (a9 .Eq) (sJ am):=Lz am a
theorem gF (a:X.A.units+30<cc):d7 X (a9 .NotEq) (sJ ai):=Lz ai a
def du (neg:Bool) (x:T) (ts:List T):Bool:=if neg then !decide (x∈ts) else decide (x∈ts)
def NV (neg:Bool) (i j:ap):Bool:=if neg then !(!(bg j i 0 j.length 1).isEmpty) else !(bg j i 0 j.length 1).isEmpty
def sU (neg:Bool):R3:=λx y H Q=>match y with
 |.tup ts=>pl 20 x=ai/\ts.all (pl 20)=ai/\Q (.bl (du neg x ts)) H
 |.ref a=>match H a with
  |some (.lst ts)=>pl 20 x=ai/\ts.all (pl 20)=ai/\Q (.bl (du neg x ts)) H
  |some (.rol ts)=>pl 20 x=ai/\ts.all (pl 20)=ai/\Q (.bl (du neg x ts)) H
  |_=>False
 |.str j=>match x with
  |.str i=>Q (.bl (NV neg i j)) H
  |_=>False
 |_=>False
def Dd (I:Inv X P8 Z H s) (w:pl 20 x=ai) (g:ts.all (pl 20)=ai) (r:ql X.K H ts xs) (n:wf xs a) (A:dA) (P:A.units+30<cc) (G:wr X.K H x l) (E:wl l u):
  ∃e:aw->Bool,(∀y,y∈a->gT A s y u (e y))/\a.any e=decide (x∈ts):=by
 rw[YG] at g;have j:∀y,y∈a->∃t v,t∈ts/\wr X.K H t v/\wl v y:=λy h=>by
  obtain⟨i,o,e⟩:=LU.mp h;have O:=n.length;have D:a[i]?=ab y:=by rw[d_ o,e]
  have k:xs[i]?=ab xs[i]:=d_ uS;obtain⟨z,p,L⟩:=n.get k;rw[D] at p;cases p;obtain⟨t,F,c⟩:=r.get' k;exact⟨t,_,S_ F,c,L⟩
 have f:∀t v y,t∈ts->wr X.K H t v->wl v y->(@decide (∃v,wl v y/\wr X.K H x v) (ae _)=ai↔t=x):=λt v y d c b=>by
  rw[@h_ _ (ae _)];constructor
  .rintro⟨N,M,B⟩;cases M.inj b;exact xT I 20 t x _ (g t d) w c B
  rintro rfl;exact⟨v,b,c⟩
 refine⟨λy=>@decide (∃v,wl v y/\wr X.K H x v) (ae _),λy h=>?_,?_⟩
 .obtain⟨t,v,d,c,b⟩:=j y h;have q:=xU I 20 A t x v l y u (g t d) w c G b E uS;have e:@decide (∃v,wl v y/\wr X.K H x v) (ae _)=decide (t=x):=by rw[Yx,f t v y d c b,h_]
  show gT A s y u (@decide (∃v,wl v y/\wr X.K H x v) (ae _));rw[e];exact q
 rw[Yx,Z5,h_];constructor
 .rintro⟨y,h,e⟩;obtain⟨t,v,d,c,b⟩:=j y h;rw[<- (f t v y d c b).mp e];exact d
 intro k;obtain⟨i,o,e⟩:=LU.mp k;obtain⟨v,J,m⟩:=r.get (show ts[i]?=ab x by rw[d_ o,e]);obtain⟨y,C,b⟩:=n.get J;exact⟨y,S_ C,(f x v y k m b).mpr rfl⟩
theorem LC (neg:Bool) (N:X.A.units+31<cc):d7 X (a9 (bif neg then .NotIn else .In)) (sU neg):=by
 intro d s Z H x y v u Q I J t h;obtain⟨p,L,H3,Q3,G,F,E,h,k⟩:=h;have D:X.A.in1.units+30<cc:=by rw[zk];omega
 have g:∀{b c:Bool},Q3 (.bl b) H3->c=b->EP X d Z Q (.bool c) s:=λq e=>e▸⟨.bl _,H,I,rfl,k _ _ _ _ .refl E .ofBl q⟩;have C:∀{a:af} {ts:List T} {xs:List V},y8 X.K H a xs->ql X.K H ts xs->u=.ref a->pl 20 p=ai->ts.all (pl 20)=ai->Q3 (.bl (du neg p ts)) H3->ay (aT X.prog X.w) X.A (a9 (bif neg then .NotIn else .In) v u) (EP X d Z Q) X.xe s:=by
  intro a ts xs m r e p1 M q;subst e;obtain⟨f,n,B,_⟩:=I.list m;obtain⟨e,z,o⟩:=Dd I p1 M r n X.A.in1 D G J;rw[<- show f.toArray.any e=f.any e by simp] at o;cases neg
  .exact SeqAt.in_listAt e B.isList (λy l=>z y (by simpa using l)) (g q o)
  exact SeqAt.notIn_listAt e B.isList (λy l=>z y (by simpa using l)) (g q (YB not o))
 cases L with
 |tup ts =>
  obtain⟨a,xs,rfl,m,r⟩:=F.tup;cases t;obtain⟨f,n,B,_⟩:=I.tuple m;obtain⟨e,z,o⟩:=Dd I h.1 h.2.1 r n X.A.in1 D G J;rw[<- show f.toArray.any e=f.any e by simp] at o;cases neg
  .exact SeqAt.in_tupleAt e B (λy l=>z y (by simpa using l)) (g h.2.2 o)
  exact SeqAt.notIn_tupleAt e B (λy l=>z y (by simpa using l)) (g h.2.2 (YB not o))
 |ref a =>
  have h':(match H3 a with
   |some (.lst ts)=>pl 20 p=ai/\ts.all (pl 20)=ai/\Q3 (.bl (du neg p ts)) H3
   |some (.rol ts)=>pl 20 p=ai/\ts.all (pl 20)=ai/\Q3 (.bl (du neg p ts)) H3
   |_=>False):=h
  rw[F.ref] at t
  split at h'
  ·
   rename_i ts e
   obtain⟨xs,m,r⟩:=E.sqL (.inl e)
   exact C m r t h'.1 h'.2.1 h'.2.2
  ·
   rename_i ts e
   obtain⟨xs,m,r⟩:=E.sqL (.inr e)
   exact C m r t h'.1 h'.2.1 h'.2.2
  ·
   exact h'.elim
 |str j =>
  cases p with
  |str i =>
   cases neg
   .exact zM d s Z H x y v u Q I J t ⟨i,j,G.str,F.str,k _ _ _ _ .refl E .ofBl h⟩
   exact p7 d s Z H x y v u Q I J t ⟨i,j,G.str,F.str,k _ _ _ _ .refl E .ofBl h⟩
  |_=>exact h.elim
 |_=>exact h.elim
theorem iy (a:X.A.units+31<cc):d7 X (a9 .In) (sU am):=LC am a
theorem iI (a:X.A.units+31<cc):d7 X (a9 .NotIn) (sU ai):=LC ai a
def oq {a:Type}(o:Option a) (Q:a->Prop):Prop:=match o with
 |some v=>Q v
 |none=>False
def sV:R3:=λx y H Q=>match x,y with
 |.ref a,.int i=>match H a with
  |some (.lst ts)=>oq (xh ts i) λt=>Q t H
  |some (.rol ts)=>oq (xh ts i) λt=>Q t H
  |_=>False
 |.tup ts,.int i=>oq (xh ts i) λt=>Q t H
 |.str z,.int i=>z.length<=av/\oq (xh z.cps.toList i) λc=>Q (.str ⟨#[c]⟩) H
 |_,_=>False
def xV {K:a6} (r:ql K H ts xs) (h:xh ts i=ab t):∃v,xh xs i=ab v/\wr K H t v:=by
 unfold xh at h |-;rw[<- r.length];cases e:AL ts.length i with
 |none=>rw[e] at h;cases h
 |some j =>
 rw[e] at h;exact r.get h
theorem wt:Ut X sV:=by
 refine BU.imp Pb ?_;rintro x y H Q ⟨p,n,H3,Q3,g,j,f,h,k⟩;have d:∀{a:af} {ts:List T} {xs:List V} {i:Int},y8 X.K H a xs->ql X.K H ts xs->x=.ref a->y=.int i->oq (xh ts i) (λt=>Q3 t H3)->NN X.K x y H Q:=by
  intro a ts xs i b r m s q;cases e:xh ts i with
  |none=>rw[e] at q;exact q.elim
  |some t =>
  rw[e] at q;obtain⟨v,o,l⟩:=xV r e;exact .inl ⟨a,xs,i,v,m,s,b,o,k _ _ _ _ .refl f l q⟩
 cases p with
 |ref a =>
  cases n with
  |int i =>
   have h':(match H3 a with
    |some (.lst ts)=>oq (xh ts i) λt=>Q3 t H3
    |some (.rol ts)=>oq (xh ts i) λt=>Q3 t H3
    |_=>False):=h
   split at h'
   ·
    rename_i ts e
    obtain⟨xs,b,r⟩:=f.sqL (.inl e)
    exact d b r g.ref j.int h'
   ·
    rename_i ts e
    obtain⟨xs,b,r⟩:=f.sqL (.inr e)
    exact d b r g.ref j.int h'
   ·
    exact h'.elim
  |_=>exact h.elim
 |tup ts =>
  cases n with
  |int i =>
   have h':oq (xh ts i) λt=>Q3 t H3:=h
   cases e:xh ts i with
   |none=>rw[e] at h';exact h'.elim
   |some t =>
    rw[e] at h'
    obtain⟨a,xs,m,b,r⟩:=g.tup
    obtain⟨v,o,l⟩:=xV r e
    exact .inr (.inl ⟨a,xs,i,v,m,j.int,b,o,k _ _ _ _ .refl f l h'⟩)
  |_=>exact h.elim
 |str z =>
  cases n with
  |int i =>
   have h':z.length<=av/\oq (xh z.cps.toList i) λc=>Q3 (.str ⟨#[c]⟩) H3:=h
   cases e:xh z.cps.toList i with
   |none=>rw[e] at h';exact h'.2.elim
   |some c =>
    rw[e] at h'
    exact .inr (.inr ⟨z,i,c,g.str,j.int,h'.1,e,k _ _ _ _ .refl f .ofStr h'.2⟩)
  |_=>exact h.elim
 |_=>exact h.elim
def De:sy:=λo i v H Q=>match o,i with
 |.ref a,.int k=>match H a with
  |some (.lst ts)=>oq (AL ts.length k) λj=>Q (eH H a (.lst (ts.set j v)))
  |_=>False
 |_,_=>False
def My.wrL {K:a6} (s:My K H3 H) (g:H a=ab (.lst xs)) (r:ql K H ts c):My K (eH H3 a (.lst ts)) (wS H a (.lst c)):=λb o e=>by
 have f:Pr K H (wS H a (.lst c)):=cJ (by rw[g];exact trivial);by_cases d:b=a
 .subst d;rw[aq] at e;cases e;exact⟨c,cI,r.mono f⟩
 rw[aH d] at e;exact (s b o e).stay f λu q=>by rw[bz d];exact q
theorem Ac:Ls X De:=by
 refine FS.imp C4 ?_;rintro o i v H Q ⟨m,g,f,H3,Q3,p,q,l,d,h,k⟩;cases m with
 |ref a =>
  cases g with
  |int n =>
   have h':(match H3 a with
    |some (.lst ts)=>oq (AL ts.length n) λj=>Q3 (eH H3 a (.lst (ts.set j f)))
    |_=>False):=h
   split at h'
   ·
    rename_i ts e
    obtain⟨xs,c,r⟩:=d a _ e
    cases b:AL ts.length n with
    |none=>rw[b] at h';exact h'.elim
    |some j =>
     rw[b] at h'
     exact⟨a,xs,n,j,p.ref,q.int,c,by rw[<- r.length];exact b,k _ _ (cJ (by rw[c];exact trivial)) (d.wrL c (r.set j l)) h'⟩
   ·
    exact h'.elim
  |_=>exact h.elim
 |_=>exact h.elim
abbrev DV:=xv->gV->(Option Int->gV->Prop)->Prop
def X6 (K:a6) (d:DV):TO:=λZ H Q=>∃c H3 Q3,zt K H c Z/\My K H3 H/\d c H3 Q3/\∀o b a,Pr K H b->My K a b->Q3 o a->Q o b
def FG (X:Cx) (e:Option Expr) (t:DV):Prop:=PO X e (X6 X.K t)
theorem PO.imp (h:PO X e t) (w:∀Z H Q,t' Z H Q->t Z H Q):PO X e t':=λa s Z H Q I q=>h a s Z H Q I (w Z H Q q)
def sW:DV:=λ_ H Q=>Q ag H
def Df (t:wE):DV:=λZ H Q=>t Z H λx a=>match x with
 |.int i=>Q (ab i) a
 |_=>False
theorem eV:FG X ag sW:=by
 refine PO.imp Ie ?_;rintro Z H Q ⟨c,H3,Q3,b,a,h,k⟩;exact k _ _ _ .refl a h
theorem d9 (h:wP X e te):FG X (ab e) (Df te):=by
 refine PO.imp (Ig h) ?_;rintro Z H Q ⟨g,H3,Q3,f,d,h,k⟩;refine⟨g,H3,_,f,d,h,λv j t c b a r q=>?_⟩;cases t with
 |int i=>exact⟨i,r.int,k _ _ _ b a q⟩
 |_=>exact q.elim
theorem PJ:EJ X (λx n m H Q=>∃z,x=.str z/\z.length<=av/\Q (.str (gu z n m)) H):=by
 intro b s Z H x v B A n m C Q I w y pl r h;obtain⟨z,rfl,f,q⟩:=h;obtain⟨t,rfl⟩:=w;refine⟨"str",_,F.slot_str_getitem.lookup,rj _ _ _,?_⟩;obtain⟨o,e,c,d⟩:=y;have a:∀(t':tT) (k:Nat),EP X b Z Q (.str (gu z n m) t') { s with toks:=k}:=λt' k=>⟨.str _,H,I.tok k,⟨t',rfl⟩,q⟩;cases pl with
 |none =>
  cases r with
  |none=>exact KI (l:=ag) (u:=ag) (st:=ag) ⟨o,e,c,d⟩ rfl (fi ⟨R_ (j1 z _ _) f,a⟩)
  |int j g=>exact KI (l:=ag) (u:=ab (j,g)) (st:=ag) ⟨o,e,c,d⟩ rfl (fi ⟨R_ (j1 z _ _) f,a⟩)
 |int i p =>
 cases r with
 |none=>exact KI (l:=ab (i,p)) (u:=ag) (st:=ag) ⟨o,e,c,d⟩ rfl (fi ⟨R_ (j1 z _ _) f,a⟩)
 |int j g=>exact KI (l:=ab (i,p)) (u:=ab (j,g)) (st:=ag) ⟨o,e,c,d⟩ rfl (fi ⟨R_ (j1 z _ _) f,a⟩)
def dY (ts:List T) (a b:Option Int):List T:=(ts.drop (HT.sIx ts.length 0 a)).take (HT.sIx ts.length ts.length b - HT.sIx ts.length 0 a)
def Je:T->Option Int->Option Int->gV->wv->Prop:=λx c b H Q=>match x with
 |.ref a=>match H a with
  |some (.lst ts)=>∀p,H p=ag->Q (.ref p) (eH H p (.lst (dY ts c b)))
  |some (.rol ts)=>∀p,H p=ag->Q (.ref p) (eH H p (.lst (dY ts c b)))
  |_=>False
 |.tup ts=>¬(HT.sIx ts.length 0 c=0/\HT.sIx ts.length ts.length b=ts.length)/\Q (.tup (dY ts c b)) H
 |.str z=>z.length<=av/\Q (.str (gu z c b)) H
 |_=>False
def Uy (te:wE) (a d:DV):wE:=λZ H Q=>te Z H λx c=>a Z c λl b=>d Z b λu H3=>Je x l u H3 Q
def lN {K:a6} (r:ql K H ts xs) (b a:Option Int):ql K H (dY ts b a) (rN xs b a):=by
 unfold dY rN;rw[<- r.length];exact (r.drop _).take _
theorem iJ (F:wP X e te) (G:FG X C D) (K:FG X E B):wP X (.Subscript e (.Slice C E ag O) v) (Uy te D B):=by
 refine PE.imp (rM (OP.or (NU.or PJ)) F G K) ?_;rintro Z H Q ⟨A,H3,Q3,y,N,h,k⟩;refine⟨A,H3,_,y,N,h,λx P L s g q I J=>⟨A,s,_,y.mono g,q,J,λl R w i t M=>⟨A,w,_,y.mono (g.trans i),t,M,λu S c m b j=>?_⟩⟩⟩;have o:=k.at (g.trans (i.trans m));have f:=I.mono (i.trans m);cases L with
 |ref a =>
  have h':(match c a with
   |some (.lst ts)=>∀p,c p=ag->Q3 (.ref p) (eH c p (.lst (dY ts l u)))
   |some (.rol ts)=>∀p,c p=ag->Q3 (.ref p) (eH c p (.lst (dY ts l u)))
   |_=>False):=j
  split at h'
  ·
   rename_i ts e
   obtain⟨xs,n,r⟩:=b.sqL (.inl e)
   exact .inl ⟨a,xs,f.ref,n,λp d=>o _ _ _ _ (aQ d) (b.newLst d (lN r l u)) .ofRef (h' p (b.fresh d))⟩
  ·
   rename_i ts e
   obtain⟨xs,n,r⟩:=b.sqL (.inr e)
   exact .inl ⟨a,xs,f.ref,n,λp d=>o _ _ _ _ (aQ d) (b.newLst d (lN r l u)) .ofRef (h' p (b.fresh d))⟩
  ·
   exact h'.elim
 |tup ts=>obtain⟨a,xs,rfl,n,r⟩:=f.tup;refine .inr (.inl ⟨a,xs,rfl,n,by rw[<- r.length];exact j.1,λp d=>o _ _ _ _ (aQ d) (b.new d) (My.newTup (H3:=c) d (lN r l u)) j.2⟩)
 |str z=>exact .inr (.inr ⟨z,f.str,j.1,o _ _ _ _ .refl b .ofStr j.2⟩)
 |_=>exact j.elim
def aR (k:ap):List (ap × T)->Option T
 |[]=>ag
 | (k',v)::r=>if k'=k then ab v else aR k r
def xL (k:ap) (v:T) (kvs:List (ap × T)):List (ap × T) :=
 if (kvs.any λa=>decide (a.1=k))=ai then kvs.map (λa=>if a.1=k then (a.1,v) else a) else kvs++[(k,v)]
def NO:R3:=λx y H Q=>match x,y with
 |.ref a,.str k=>match H a with
  |some (.dct kvs)=>oq (aR k kvs) λt=>Q t H
  |_=>False
 |_,_=>False
def sX {K:a6}:∀{kvs:List (ap × T)}{vs:List (xb × V)}{t:T},CA K H kvs vs->aR k kvs=ab t->∃v,jt vs (cq k:xb)=ab v/\wr K H t v
 |[],_,_,_,e=>by cases e
 | (k',t')::r,_,t,.cons (b:=(kk,v')) ⟨e1,rv⟩ rr,e=>by
  simp only at e1 rv
  subst e1
  unfold aR at e
  by_cases a:k'=k
  ·
   rw[we a] at e
   cases e
   exact⟨v',by rw[iC (by rw[a])],rv⟩
  ·
   rw[wc a] at e
   obtain⟨v,c,q⟩:=sX rr e
   exact⟨v,by rw[iD (by intro z;exact a (io z))];exact c,q⟩
theorem dM (I:X.A.units+1<cc) (B:wP X o q) (J:wP X i p) (K:Pk i:=by exact λ_ _=>rfl):wP X (.Subscript o i l) (vL NO q p):=by
 refine PE.imp (Im I B J K) ?_;rintro Z H Q ⟨u,H3,Q3,s,M,h,k⟩;refine⟨u,H3,_,s,M,h,λx N L g b f C G=>⟨u,g,_,s.mono b,f,G,λy O D d j c w n=>?_⟩⟩;cases L with
 |ref a =>
  cases D with
  |str key =>
   have h':(match d a with
    |some (.dct kvs)=>oq (aR key kvs) λt=>Q3 t d
    |_=>False):=n
   split at h'
   ·
    rename_i kvs e
    obtain⟨vs,z,r⟩:=c a _ e
    cases m:aR key kvs with
    |none=>rw[m] at h';exact h'.elim
    |some t =>
     rw[m] at h'
     obtain⟨v,E,F⟩:=sX r m
     refine⟨a,v,C.ref,?_,k.at (b.trans j) _ _ _ _ .refl c F h'⟩
     rw[w.str,<- E]
     exact B6.k (k:=cq key) z
   ·
    exact h'.elim
  |_=>exact n.elim
 |_=>exact n.elim
def Dg (f e b:wE):zo:=λD Z H=>b Z H λv d=>f Z d λx c=>e Z c λy H3=>match x,y with
 |.ref a,.str k=>match H3 a with
  |some (.dct kvs)=>kvs.length<av/\D.nx Z (eH H3 a (.dct (xL k v kvs)))
  |_=>False
 |_,_=>False
def Jf {K:a6} (m:wr K H t v) (r:CA K H kvs vs):CA K H (xL k t kvs) (xD vs (cq k:xb) v):=by
 have e:∀{kvs:List (ap × T)} {vs:List (xb × V)},CA K H kvs vs->(kvs.any λc=>decide (c.1=k))=(vs.any λc=>decide (c.1=(cq k:xb)))/\CA K H (kvs.map (λc=>if c.1=k then (c.1,t) else c)) (vs.map (λc=>if c.1=(cq k:xb) then (c.1,v) else c)):=by
  intro kvs;induction kvs with
  |nil=>intro vs r;cases r;exact⟨rfl,.nil⟩
  |cons p l s =>
  intro vs r;cases r with
  |cons q u =>
  rename_i b w;obtain⟨i,g⟩:=s u;obtain⟨o,n⟩:=q;obtain⟨x,y⟩:=b;simp only at o n;subst o;by_cases f:p.1=k
  .refine⟨by simp [f],?_⟩;simp only[J_,f,if_true];exact .cons ⟨rfl,m⟩ g
  have d:¬(cq p.1:xb)=cq k:=λz=>f (io z);refine⟨by simp only[HI,f,d,Zd,IA];exact i,?_⟩;simp only[J_,f,d,V_];exact .cons ⟨rfl,n⟩ g
 obtain⟨i,g⟩:=e r;unfold xL xD;rw[i];split
 .exact g
 have j:∀{a:List (ap × T)} {b:List (xb × V)},CA K H a b->CA K H (a++[(k,t)]) (b++[((cq k:xb),v)]):=λh=>F8 h ⟨rfl,m⟩;exact j r
theorem My.wrD {K:a6} (s:My K H3 H) (h:H a=ab (.dK g)) (r:CA K H kvs c):My K (eH H3 a (.dct kvs)) (wS H a (.dK c)):=λb o e=>by
 have f:Pr K H (wS H a (.dK c)):=cJ (by rw[h];exact trivial);by_cases d:b=a
 .subst d;rw[aq] at e;cases e;exact⟨c,cI,r.mono f⟩
 rw[aH d] at e;exact (s b o e).stay f λu q=>by rw[bz d];exact q
theorem jM (Q:X.A.units+1<cc) (M:wP X o G) (R:wP X i q) (V:wP X b p) (S:dL b (ab (.Subscript o i g)) n.line X.env=ce am:=by rfl):
  CB X (.Assign [.Subscript o i g] b n) (Dg G q p):=by
 refine PS.imp (xK Q M R V S) ?_;rintro D Z H ⟨t,H3,T,s,Y,h,L,_⟩;refine⟨t,H3,_,s,Y,h,λv H1 p C d w O P=>⟨t,C,_,s.mono d,w,P,λx H2 U F f E N W=>⟨t,F,_,s.mono (d.trans f),E,W,λy I q l c m J u=>?_⟩⟩⟩;cases U with
 |ref a =>
  cases q with
  |str key =>
   have h':(match l a with
    |some (.dct kvs)=>kvs.length<av/\T.nx t (eH l a (.dct (xL key p kvs)))
    |_=>False):=u
   split at h'
   ·
    rename_i kvs e
    obtain⟨vs,z,r⟩:=m a _ e
    have B:=O.mono (f.trans c)
    have j:Pr X.K I (wS I a (.dK (xD vs (cq key:xb) v))):=cJ (by rw[z];exact trivial)
    refine⟨a,_,(N.mono c).ref,?_,L _ _ _ _ (d.trans (f.trans (c.trans j))) (s.mono (d.trans (f.trans (c.trans j)))) (m.wrD z (Jf B r)) h'.2⟩
    rw[J.str]
    exact ET.k (k:=cq key) z (by rw[<- EK r];exact h'.1)
   ·
    exact h'.elim
  |_=>exact u.elim
 |_=>exact u.elim
def Uz:List (ap × wE)->xv->gV->(List (ap × T)->gV->Prop)->Prop
 |[],_,H,Q=>Q [] H
 | (k,tv)::r,Z,H,Q=>tv Z H λy a=>Uz r Z a λps H3=>Q ((k,y)::ps) H3
def X7 (kvs a:List (ap × T)):List (ap × T):=a.foldl (λb c=>xL c.1 c.2 b) kvs
def PK (a:List (ap × wE)):wE:=λZ H Q=>∀p,H p=ag->Uz a Z (eH H p (.dct [])) λps b=>b p=ab (.dct [])/\ps.length<=15/\Q (.ref p) (eH b p (.dct (X7 [] ps)))
variable {p P9:mi}{es:List Expr}{id Ty:String}
def PL (r:List T->gV->wv->Prop) (t:AK):wE:=λZ H Q=>t Z H λvs a=>r vs a Q
theorem aM (m:dC X (.builtin id) r) (o:Gl X x) (g:X.mg x=ag) (j:a8 x=ab (.builtin id)) (f:A5 X (e::es) t) (l:x≠"__name__":=by decide) (d:(x==("__debug__":ap))=am:=by decide)
  (n:aE (e::es) X.env=(am,bP e X.env)::aE es X.env:=by rfl) (b:(cv P9 (aE es X.env)).any (·.1)=am:=by rfl):wP X (.Call (.Name x p) (e::es) [] P9) (PL r t):=by
 refine PE.imp (By m o g j f l d n b) ?_;rintro Z H Q ⟨v,H3,Q3,u,s,h,k⟩;exact⟨v,H3,_,u,s,h,λvs w ts c i a r q=>⟨ts,c,Q3,r,a,q,k.at i⟩⟩
theorem bG (m:dC X (.type Ty) r) (o:Gl X x) (g:X.mg x=ag) (j:a8 x=ab (.type Ty)) (f:A5 X (e::es) t) (l:x≠"__name__":=by decide) (d:(x==("__debug__":ap))=am:=by decide)
  (n:aE (e::es) X.env=(am,bP e X.env)::aE es X.env:=by rfl) (b:(cv P9 (aE es X.env)).any (·.1)=am:=by rfl):wP X (.Call (.Name x p) (e::es) [] P9) (PL r t):=by
 refine PE.imp (zR m o g j f l d n b) ?_;rintro Z H Q ⟨v,H3,Q3,u,s,h,k⟩;exact⟨v,H3,_,u,s,h,λvs w ts c i a r q=>⟨ts,c,Q3,r,a,q,k.at i⟩⟩
theorem UG (e:Gl X x) (c:X.mg x=ag) (b:a8 x=ab (.type n)) (d:x≠"__name__":=by decide) (a:(x==("__debug__":ap))=am:=by decide):wP X (.Name x P9) (LB (.ty n)):=by
 refine PE.imp (Hr (v:=.ty n) e c b rfl d a) ?_;rintro Z H Q ⟨i,H3,Q3,g,f,h,k⟩;exact k _ _ _ H3 .refl f .ofTy h
def ql.one' {K:a6}{t:T} (r:ql K H [t] vs):∃v,vs=[v]/\wr K H t v:=by
 obtain⟨v,_,rfl,a,b⟩:=r.inv;rw[b.inv0];exact⟨v,rfl,a⟩
def ql.two' {K:a6}{t u:T} (r:ql K H [t,u] vs):∃v w,vs=[v,w]/\wr K H t v/\wr K H u w:=by
 obtain⟨v,_,rfl,a,b⟩:=r.inv;obtain⟨w,rfl,c⟩:=b.one';exact⟨v,w,rfl,a,c⟩
def xW:List T->gV->wv->Prop:=λts H Q=>match ts with
 |[.ref a]=>match H a with
  |some (.lst xs)=>Q (.int xs.length) H
  |some (.rol xs)=>Q (.int xs.length) H
  |_=>False
 |[.tup xs]=>Q (.int xs.length) H
 |[.str z]=>z.length<=av/\Q (.int z.length) H
 |_=>False
theorem bZ:dC X (.builtin "len") xW:=by
 refine AR.imp (OI.or qe) ?_;rintro xs H Q ⟨ts,H3,Q3,r,c,h,k⟩
 match ts,h,r with
 |[.ref a],h,r =>
  obtain⟨v,rfl,b⟩:=r.one';have h':(match H3 a with
   |some (.lst xs)=>Q3 (.int xs.length) H3
   |some (.rol xs)=>Q3 (.int xs.length) H3
   |_=>False):=h
  split at h'
  .rename_i us e;obtain⟨d,g,f⟩:=c.sqL (.inl e);exact .inl ⟨a,d,by rw[b.ref],.inl g,by rw[<- f.length];exact k _ _ _ _ .refl c .ofInt h'⟩
  .rename_i us e;obtain⟨d,g,f⟩:=c.sqL (.inr e);exact .inl ⟨a,d,by rw[b.ref],.inl g,by rw[<- f.length];exact k _ _ _ _ .refl c .ofInt h'⟩
  exact h'.elim
 |[.tup us],h,r=>obtain⟨v,rfl,b⟩:=r.one';obtain⟨a,d,rfl,g,f⟩:=b.tup;exact .inl ⟨a,d,rfl,.inr g,by rw[<- f.length];exact k _ _ _ _ .refl c .ofInt h⟩
 |[.str z],h,r =>
 obtain⟨v,rfl,b⟩:=r.one';exact .inr ⟨z,by rw[b.str],h.1,k _ _ _ _ .refl c .ofInt h.2⟩
def vM:List T->gV->wv->Prop:=λts H Q=>match ts with
 |[.ref a]=>match H a with
  |some (.lst xs)=>∀p,H p=ag->Q (.ref p) (eH H p (.lst xs))
  |some (.rol xs)=>∀p,H p=ag->Q (.ref p) (eH H p (.lst xs))
  |_=>False
 |[.tup xs]=>∀p,H p=ag->Q (.ref p) (eH H p (.lst xs))
 |_=>False
theorem xX:dC X (.type "list") vM:=by
 refine AR.imp qg ?_;rintro xs H Q ⟨ts,H3,Q3,r,c,h,k⟩
 match ts,h,r with
 |[.ref a],h,r =>
  obtain⟨v,rfl,i⟩:=r.one';have h':(match H3 a with
   |some (.lst xs)=>∀p,H3 p=ag->Q3 (.ref p) (eH H3 p (.lst xs))
   |some (.rol xs)=>∀p,H3 p=ag->Q3 (.ref p) (eH H3 p (.lst xs))
   |_=>False):=h
  split at h'
  .rename_i us e;obtain⟨d,g,f⟩:=c.sqL (.inl e);exact⟨a,d,by rw[i.ref],.inl g,λl b=>k _ _ _ _ (aQ b) (c.newLst b f) .ofRef (h' l (c.fresh b))⟩
  .rename_i us e;obtain⟨d,g,f⟩:=c.sqL (.inr e);exact⟨a,d,by rw[i.ref],.inl g,λl b=>k _ _ _ _ (aQ b) (c.newLst b f) .ofRef (h' l (c.fresh b))⟩
  exact h'.elim
 |[.tup us],h,r =>
 obtain⟨v,rfl,i⟩:=r.one';obtain⟨a,d,rfl,g,f⟩:=i.tup;exact⟨a,d,rfl,.inr g,λl b=>k _ _ _ _ (aQ b) (c.newLst b f) .ofRef (h l (c.fresh b))⟩
def qD:List T->gV->wv->Prop:=λts H Q=>match ts with
 |[.ref a]=>match H a with
  |some (.lst xs)=>Q (.tup xs) H
  |some (.rol xs)=>Q (.tup xs) H
  |_=>False
 |[.tup xs]=>Q (.tup xs) H
 |_=>False
theorem cR:dC X (.type "tuple") qD:=by
 refine AR.imp oG ?_;rintro xs H Q ⟨ts,H3,Q3,r,g,h,k⟩
 match ts,h,r with
 |[.ref a],h,r =>
  obtain⟨v,rfl,i⟩:=r.one';have h':(match H3 a with
   |some (.lst xs)=>Q3 (.tup xs) H3
   |some (.rol xs)=>Q3 (.tup xs) H3
   |_=>False):=h
  split at h'
  .rename_i us e;obtain⟨d,c,f⟩:=g.sqL (.inl e);exact⟨a,d,by rw[i.ref],.inl ⟨c,λl b=>k _ _ _ _ (aQ b) (g.new b) (My.newTup (H3:=H3) b f) h'⟩⟩
  .rename_i us e;obtain⟨d,c,f⟩:=g.sqL (.inr e);exact⟨a,d,by rw[i.ref],.inl ⟨c,λl b=>k _ _ _ _ (aQ b) (g.new b) (My.newTup (H3:=H3) b f) h'⟩⟩
  exact h'.elim
 |[.tup us],h,r =>
 obtain⟨v,rfl,i⟩:=r.one';obtain⟨a,d,rfl,c,f⟩:=i.tup;exact⟨a,d,rfl,.inr ⟨c,k _ _ _ _ .refl g (.ofTup c f) h⟩⟩
def Dh:List T->gV->wv->Prop:=λts H Q=>match ts with
 |[.int i]=>Q (.int i) H
 |[.bl b]=>Q (.int (if b then 1 else 0)) H
 |_=>False
theorem xY:dC X (.type "int") Dh:=by
 refine AR.imp zN ?_;rintro xs H Q ⟨ts,H3,Q3,r,c,h,k⟩
 match ts,h,r with
 |[.int i],h,r=>obtain⟨v,rfl,a⟩:=r.one';exact .inl ⟨i,by rw[a.int],k _ _ _ _ .refl c .ofInt h⟩
 |[.bl b],h,r =>
 obtain⟨v,rfl,a⟩:=r.one';exact .inr ⟨b,by rw[a.bl],k _ _ _ _ .refl c .ofInt h⟩
def w9:List T->Option (List Int)
 |[]=>ab []
 |.int i::r=>(w9 r).map (i::·)
 |_=>ag
theorem fU:∀(ns:List Int),w9 (ns.map T.int)=ab ns
 |[]=>rfl
 |n::r=>by simp [w9,fU r]
def jz {K:a6}:∀{ts:List T}{xs:List V}{us:List aw}{ns:List Int},w9 ts=ab ns->ql K H ts xs->wf xs us->db us ns
 |[],xs,us,ns,e,r,v=>by
  cases e
  rw[r.inv0] at v
  cases v
  exact .nil
 |.int i::l,xs,us,ns,e,r,v=>by
  obtain⟨x,g,rfl,d,f⟩:=r.inv
  cases v with
  |cons a b =>
   rw[d.int] at a
   obtain⟨t,rfl⟩:=a
   cases c:w9 l with
   |none=>simp [w9,c] at e
   |some h =>
    simp [w9,c] at e
    subst e
    exact .cons _ _ (jz c f b)
 |.non::_,_,_,_,e,_,_=>by simp [w9] at e
 |.bl _::_,_,_,_,e,_,_=>by simp [w9] at e
 |.str _::_,_,_,_,e,_,_=>by simp [w9] at e
 |.tup _::_,_,_,_,e,_,_=>by simp [w9] at e
 |.ref _::_,_,_,_,e,_,_=>by simp [w9] at e
 |.ty _::_,_,_,_,e,_,_=>by simp [w9] at e
def LK:List T->gV->wv->Prop:=λts H Q=>match ts with
 |[.ref a]=>match H a with
  |some (.lst xs)=>oq (w9 xs) λns=>Q (.int ns.sum) H
  |some (.rol xs)=>oq (w9 xs) λns=>Q (.int ns.sum) H
  |_=>False
 |_=>False
theorem vN (C:X.calm=ai):dC X (.builtin "sum") LK:=by
 intro l s Z H xs us Q I F h;obtain⟨ts,H3,Q3,r,t,h,k⟩:=h
 match ts,h,r with
 |[.ref a],h,r =>
 obtain⟨v,rfl,o⟩:=r.one';obtain⟨u,rfl,x⟩:=xz F;rw[o.ref] at x;cases x;have b:∀{d:List T} {i:List V},y8 X.K H a i->ql X.K H d i->oq (w9 d) (λns=>Q3 (.int ns.sum) H3)->ay (aT X.prog X.w) X.A (jS (.builtin "sum") [.ref a]) (EP X l Z Q) X.xe s:=by
  intro d i f j q;cases e:w9 d with
  |none=>rw[e] at q;exact q.elim
  |some ns =>
  rw[e] at q;obtain⟨c,n,D,_⟩:=I.list f;have z:=jz e j n;have g:AllInts c.toArray:=z.allInts;obtain⟨m,B⟩:=g.items;have p:s.heap.IsList a (intItems m):=by rw[<- B];exact D.isList
  refine sum_intListG (I.ok.hd C) p λh' tk t' E=>?_;have G:preSum (numAt m) m.size=ns.sum:=by have y:=sF m;rw[<- B,show c.toArray.toList=c from rfl,z.numsOf] at y;rw[preSum_eq,GH wn,<- y]
  rw[G];exact⟨.int ns.sum,H,I.kept E,⟨t',rfl⟩,k _ _ _ _ .refl t .ofInt q⟩
 have h':(match H3 a with
  |some (.lst xs)=>oq (w9 xs) λns=>Q3 (.int ns.sum) H3
  |some (.rol xs)=>oq (w9 xs) λns=>Q3 (.int ns.sum) H3
  |_=>False):=h
 split at h'
 .rename_i d e;obtain⟨i,f,j⟩:=t.sqL (.inl e);exact b f j h'
 .rename_i d e;obtain⟨i,f,j⟩:=t.sqL (.inr e);exact b f j h'
 exact h'.elim
def zd (n:String):T->gV->Option Bool:=λx H=>match x with
 |.non=>ab (n=="NoneType")
 |.bl _=>ab (n=="bool"||n=="int")
 |.int _=>ab (n=="int")
 |.str _=>ab (n=="str")
 |.tup _=>ab (n=="tuple")
 |.ref a=>match H a with
  |some (.lst _)=>ab (n=="list")
  |some (.dct _)=>ab (n=="dict")
  |_=>ag
 |.ty _=>ag
def Di:List T->gV->wv->Prop:=λts H Q=>match ts with
 |[x,.ty n]=>(n="str"\/n="int"\/n="bool"\/n="tuple"\/n="list")/\oq (zd n x H) λb=>Q (.bl b) H
 |_=>False
theorem jA (K:a6) (a b:String) (d:a="NoneType"\/a="bool"\/a="int"\/a="str"\/a="tuple"\/a="list"\/a="dict") (c:b="str"\/b="int"\/b="bool"\/b="tuple"\/b="list") :
  kitOne K (.type a) (.type b)=ab (a==b||(a=="bool"&&b=="int")):=by
 rcases d with rfl | rfl | rfl | rfl | rfl | rfl | rfl <;> rcases c with rfl | rfl | rfl | rfl | rfl <;> rfl
theorem PP:dC X (.builtin "isinstance") Di:=by
 intro j s Z H xs us Q I D h;obtain⟨ts,H3,Q3,r,t,h,k⟩:=h
 match ts,h,r with
 |[x,.ty n],h,r =>
 obtain⟨v,w,rfl,g,y⟩:=r.two';obtain⟨G,J,rfl,f,u⟩:=Dx D;rw[y.ty] at u;cases u;obtain⟨d,h⟩:=h;have c:∀{b:Bool},Q3 (.bl b) H3->∀tk,EP X j Z Q (.bool b) { s with toks:=tk}:=λq tk=>⟨.bl _,H,I.tok tk,rfl,k _ _ _ _ .refl t .ofBl q⟩;cases x with
 |non=>exact fP I f (by rw[g.non];exact .non) (jA X.K "NoneType" n wn d) (c (by rcases d with rfl | rfl | rfl | rfl | rfl <;> exact h))
 |bl b=>exact fP I f (by rw[g.bl];exact .bl b) (jA X.K "bool" n wn d) (c (by rcases d with rfl | rfl | rfl | rfl | rfl <;> exact h))
 |int i=>exact fP I f (by rw[g.int];exact .int i) (jA X.K "int" n wn d) (c (by rcases d with rfl | rfl | rfl | rfl | rfl <;> exact h))
 |str z=>exact fP I f (by rw[g.str];exact .str z) (jA X.K "str" n wn d) (c (by rcases d with rfl | rfl | rfl | rfl | rfl <;> exact h))
 |tup us=>obtain⟨a,L,rfl,B,M⟩:=g.tup;cases f;obtain⟨F,_,⟨o,C,E,_⟩,_⟩:=I.tuple B;exact ek rL I.kIn ⟨o,C,E⟩ (jA X.K "tuple" n wn d) (λz=>nomatch z) (c (by rcases d with rfl | rfl | rfl | rfl | rfl <;> exact h))
 |ref a =>
  have h':oq (match H3 a with
   |some (.lst _)=>ab (n=="list")
   |some (.dct _)=>ab (n=="dict")
   |_=>ag) λb=>Q3 (.bl b) H3:=h
  rw[g.ref] at f
  cases e:H3 a with
  |none=>rw[e] at h';exact h'.elim
  |some o =>
   rw[e] at h'
   cases o with
   |lst p =>
    obtain⟨A,l,_⟩:=t a _ e
    exact fP I f (.lst l) (jA X.K "list" n wn d) (c (by rcases d with rfl | rfl | rfl | rfl | rfl <;> exact h'))
   |dct p =>
    obtain⟨A,l,_⟩:=t a _ e
    exact fP I f (.dK l) (jA X.K "dict" n wn d) (c (by rcases d with rfl | rfl | rfl | rfl | rfl <;> exact h'))
   |rol p=>exact h'.elim
   |dcp p=>exact h'.elim
   |exc _ _=>exact h'.elim
   |xdt _=>exact h'.elim
   |dcn _ _=>exact h'.elim
   |dci _=>exact h'.elim
   |dif _ _=>exact h'.elim
   |ins _ _=>exact h'.elim
 |ty m=>exact h.elim
variable {Qr Qb:mi}
def IC (b:String):T->gV->Prop:=λx H=>match x with
 |.str _=>b="str"
 |.tup _=>b="tuple"
 |.ref a=>b="list"/\match H a with
  |some (.lst _)=>True
  |some (.rol _)=>True
  |_=>False
 |_=>False
def LQ {K:a6}{t:T} (d:My K H3 H) (r:wr K H t v) (h:IC Ty t H3):Lc K Ty v H:=by
 cases t with
 |str z=>rw[r.str];exact h
 |tup ts=>obtain⟨a,xs,rfl,c,_⟩:=r.tup;exact .inr (.inl ⟨h,xs,c⟩)
 |ref a =>
  rw[r.ref];refine .inl ⟨h.1,?_⟩;have b:=h.2;cases e:H3 a with
  |none=>rw[e] at b;exact b.elim
  |some o =>
  rw[e] at b;cases o with
  |lst ts=>obtain⟨xs,c,_⟩:=d.sqL (.inl e);exact⟨xs,c⟩
  |rol ts=>obtain⟨xs,c,_⟩:=d.sqL (.inr e);exact⟨xs,c⟩
  |dct _=>exact b.elim
  |dcp _=>exact b.elim
  |exc _ _=>exact b.elim
  |xdt _=>exact b.elim
  |dcn _ _=>exact b.elim
  |dci _=>exact b.elim
  |dif _ _=>exact b.elim
  |ins _ _=>exact b.elim
 |_=>exact h.elim
def UJ (d:String) (m:T->List T->gV->wv->Prop) (c:wE) (t:AK):wE:=λZ H Q=>c Z H λx a=>IC d x a/\t Z a λxs b=>m x xs b Q
theorem dj (z:nh Ty) (g:Slot Ty name id) (q:tN (.builtin id)=ce (.type "method_descriptor")) (y:vK X id m) (w:wP X o to) (F:A5 X (e::es) t)
  (b:dP o name X.env (bP o X.env)=bP o X.env:=by rfl)
  (j:((cv Qb (aE (e::es) X.env)).all (λx=>!x.1)&&(r_ Qb (kQ [] X.env)).all (λx=>x.1.isSome)
   && decide ((e::es).length+([]:List tw).length+(if ([]:List tw).isEmpty then 0 else 1)<30))=ai:=by rfl)
  (c:(Qr.endLine==Qb.line)=ai:=by rfl) (A:aE (e::es) X.env=(am,bP e X.env)::aE es X.env:=by rfl) (a:(cv Qb (aE es X.env)).any (·.1)=am:=by rfl) :
  wP X (.Call (.Attribute o name Qr) (e::es) [] Qb) (UJ Ty m to t):=by
 refine PE.imp (Ui z g q y w F b j c A a) ?_;rintro Z H Q ⟨v,H3,Q3,u,E,h,k⟩;exact⟨v,H3,_,u,E,h,λx G B l f d r s=>⟨LQ d r s.1,v,l,_,u.mono f,d,s.2,λvs I ts p i n D C=>⟨B,ts,p,Q3,r.mono i,D,n,C,k.at (f.trans i)⟩⟩⟩
def LR:T->List T->gV->wv->Prop:=λx ts H Q=>match x,ts with
 |.ref a,[t]=>match H a with
  |some (.lst xs)=>xs.length<av/\Q .non (eH H a (.lst (xs++[t])))
  |_=>False
 |_,_=>False
theorem bx:vK X "list.append" LR:=by
 refine DM.imp zT ?_;rintro x xs H Q ⟨j,ts,H3,Q3,c,b,f,h,k⟩
 match j,ts,h,c,b with
 |.ref a,[t],h,c,b =>
 obtain⟨v,rfl,i⟩:=b.one';have h':(match H3 a with
  |some (.lst xs)=>xs.length<av/\Q3 .non (eH H3 a (.lst (xs++[t])))
  |_=>False):=h
 split at h'
 .rename_i l e;obtain⟨g,d,r⟩:=f a _ e;exact⟨a,g,v,c.ref,rfl,d,by rw[<- r.length];exact h'.1,k _ _ _ _ (cJ (by rw[d];exact trivial)) (f.wrL d (r.append (.cons i .nil))) .ofNon h'.2⟩
 exact h'.elim
def Ma:T->List T->gV->wv->Prop:=λx ts H Q=>match x,ts with
 |.ref a,[.ref b]=>match H a,H b with
  |some (.lst xs),ab (.lst ys)=>xs.length+ys.length<=av/\Q .non (eH H a (.lst (xs++ys)))
  |_,_=>False
 |_,_=>False
theorem Ad:vK X "list.extend" Ma:=by
 refine DM.imp zU ?_;rintro x xs H Q ⟨m,ts,H3,Q3,e,d,g,h,k⟩
 match m,ts,h,e,d with
 |.ref a,[.ref b],h,e,d =>
 obtain⟨v,rfl,l⟩:=d.one';have h':(match H3 a,H3 b with
  |some (.lst xs),ab (.lst c)=>xs.length+c.length<=av/\Q3 .non (eH H3 a (.lst (xs++c)))
  |_,_=>False):=h
 split at h'
 .rename_i q s o n;obtain⟨c,f,r⟩:=g a _ o;obtain⟨p,i,j⟩:=g b _ n;exact⟨a,b,c,p,e.ref,by rw[l.ref],f,i,by rw[<- r.length,<- j.length];exact h'.1,k _ _ _ _ (cJ (by rw[f];exact trivial)) (g.wrL f (r.append j)) .ofNon h'.2⟩
 exact h'.elim
def mR:List T->Option (List ap)
 |[]=>ab []
 |.str x::r=>(mR r).map (x::·)
 |_=>ag
theorem pB:∀(ns:List ap),mR (ns.map T.str)=ab ns
 |[]=>rfl
 |n::r=>by simp [mR,pB r]
def xZ:T->List T->gV->wv->Prop:=λx ts H Q=>match x,ts with
 |.str z,[.str y]=>match bg z y 0 z.length 1 with
  |i::_=>Q (.int i) H
  |[]=>False
 |_,_=>False
theorem Dj:vK X "str.index" xZ:=by
 intro f s Z H x xs v us Q I a b m;obtain⟨l,ts,H3,Q3,d,c,n,h,k⟩:=m
 match l,ts,h,d,c with
 |.str z,[.str y],h,d,c =>
 obtain⟨w,rfl,j⟩:=c.one';obtain⟨u,rfl,g⟩:=xz b;rw[j.str] at g;obtain⟨t',rfl⟩:=g;rw[d.str] at a;obtain⟨t,rfl⟩:=a;have h':(match bg z y 0 z.length 1 with
  |i::_=>Q3 (.int i) H3
  |[]=>False):=h
 split at h'
 .rename_i i wq e;exact SC.index e ⟨.int i,H,I.tok _,⟨_,rfl⟩,k _ _ _ _ .refl n .ofInt h'⟩
 exact h'.elim
end
def Ap (n0:List (ap × eM)) (N:List ap) (kind:Bool) (a:List (ap × eM)) (N':List ap) (nt:Nat) (cap:List Nat):Bool :=
 kind&&a.all (λy=>y.2 != .cell||a.lookup y.1==ab .cell)&&a.all (λx=>x.2 != .local||a.lookup x.1==ab .local)&&a.all (λy=>y.2 != .free||n0.lookup y.1==ab .cell||n0.lookup y.1==ab .free)
  && N'.length==nt+cap.length&&(ax cap.length).all λj=>match N'[nt+j]?,cap[j]? with
   |some x,ab i=>N[i]?==ab x&&a.lookup x==ab .free
   |_,_=>am
theorem bH (k:X.env.scope.names=n0) (o:X.N=N) (h:Ap n0 N (scope.kind==.function) scope.names N' nt cap=ai):EW X N' nt cap scope:=by
 unfold Ap at h;simp only[H_,YG,CY,bne_iff_ne,fI,T_] at h;obtain⟨⟨⟨⟨⟨l,n⟩,c⟩,d⟩,m⟩,p⟩:=h;refine⟨l,λy a e=>(n y a).resolve_left λz=>z e,λx g e=>(c x g).resolve_left λz=>z e,λy a e=>?_,m,λj x e=>?_⟩
 .show X.env.scope.names.lookup y.1=_\/X.env.scope.names.lookup y.1=_;rw[k];rcases d y a with (z | z) | z
  .exact wT e z
  .exact .inl z
  exact .inr z
 have f:j<cap.length:=by have:=(ZJ.mp e).1;omega
 have q:=p j f;rw[e] at q;cases b:cap[j]? with
 |none=>rw[b] at q;cases q
 |some i =>
 rw[b] at q;simp only[H_,CY] at q;exact⟨i,rfl,by rw[o];exact q.1,q.2⟩
structure G3 (K:a6) (mg:ap->Option aw) (x:ap) (st:ef) (ps:List ap) (f:af) (fd:dk):Prop where
 fn:DD K x x st f fd
 b:xI K fd ps []
 m:mg x=ab (.ref f)
structure Bl (mg:ap->Option aw):Prop where
 len_:mg "len"=ag
 sum_:mg "sum"=ag
 isinstance_:mg "isinstance"=ag
 all_:mg "all"=ag
 any_:mg "any"=ag
 list_:mg "list"=ag
 tuple_:mg "tuple"=ag
 int_:mg "int"=ag
 str_:mg "str"=ag
 bool_:mg "bool"=ag
 range_:mg "range"=ag
 zip_:mg "zip"=ag
 reversed_:mg "reversed"=ag
 enumerate_:mg "enumerate"=ag
 set_:mg "set"=ag
 sorted_:mg "sorted"=ag
 min_:mg "min"=ag
 max_:mg "max"=ag
 dict_:mg "dict"=ag
 repr_:mg "repr"=ag
theorem cg:a8 "len"=ab (.builtin "len"):=by decide +kernel
theorem vO:a8 "sum"=ab (.builtin "sum"):=by decide +kernel
theorem oJ:a8 "isinstance"=ab (.builtin "isinstance"):=by decide +kernel
theorem vP:a8 "all"=ab (.builtin "all"):=by decide +kernel
theorem PQ:a8 "any"=ab (.builtin "any"):=by decide +kernel
theorem qF:a8 "list"=ab (.type "list"):=by decide +kernel
theorem cT:a8 "tuple"=ab (.type "tuple"):=by decide +kernel
theorem Dk:a8 "int"=ab (.type "int"):=by decide +kernel
theorem Jg:a8 "bool"=ab (.type "bool"):=by decide +kernel
theorem zc.u30 (r:zc k A):A.units+30<cc:=by have:=r.un;omega
theorem zc.u31 (r:zc k A):A.units+31<cc:=by have:=r.un;omega
theorem zc.u1 (r:zc k A):A.units+1<cc:=by have:=r.un;omega
def vq (o:Option (Option T)) (Q:T->Prop):Prop:=match o with
 |some (ab t)=>Q t
 |_=>False
theorem X8 (t:T) (Q:T->Prop):vq (ab (ab t)) Q=Q t:=rfl
theorem Dl (i:Nat):su i Z H Q=vq (Z[i]?) λt=>Q t H:=rfl
def bq (x:T) (Q:Bool->Prop):Prop:=match x with
 |.bl k=>Q k
 |_=>False
theorem dw (b:Bool) (Q:Bool->Prop):bq (.bl b) Q=Q b:=rfl
theorem PX (t:wE) (Q:Bool->gV->Prop):jw t Z H Q=t Z H λx a=>bq x λk=>Q k a:=rfl
theorem Jh (r a:R3) (d c b:wE):qt r a d c b Z H Q=d Z H λx f=>c Z f λy e=>r x y e λz H3=>bq z λk=>if k=ai then b Z H3 λw g=>a y w g Q else Q (.bl am) H3:=rfl
theorem P0 (d a:wE):Cr d a Z H Q=d Z H λx b=>bq x λc=>if c=ai then a Z b Q else Q (.bl am) b:=rfl
theorem UL (d a:wE):Lj d a Z H Q=d Z H λx b=>bq x λc=>if c=ai then Q (.bl ai) b else a Z b Q:=rfl
theorem Qa (a:wE):Cu a Z H Q=a Z H λx b=>bq x λc=>Q (.bl (!c)) b:=rfl
theorem dZ (v:a) (Q:a->Prop):oq (ab v) Q=Q v:=rfl
theorem q_I (C:Int->Int->Prop) (g:Int->Int->T) (i j:Int):FB C g (.int i) (.int j) H Q=(C i j/\Q (g i j) H):=rfl
theorem Yb (g:Int->Int->T) (i j:Int):qC g (.int i) (.int j) H Q=Q (g i j) H:=rfl
theorem Qc (i j:Int):sI (.int i) (.int j) H Q=Q (.int (i+j)) H:=rfl
theorem Qd (i j:ap):sI (.str i) (.str j) H Q=(i.length+j.length<=av/\Q (.str (i++j)) H):=rfl
theorem Qe (xs a:List T):sI (.tup xs) (.tup a) H Q=(xs.length+a.length<=av/\Q (.tup (xs++a)) H):=rfl
def UT (o u:Option O3) (H:gV) (Q:wv):Prop:=match o,u with
 |some (.lst xs),ab (.lst ys)=>xs.length+ys.length<=av/\∀p,H p=ag->Q (.ref p) (eH H p (.lst (xs++ys)))
 |_,_=>False
theorem Dm (a b:af):sI (.ref a) (.ref b) H Q=UT (H a) (H b) H Q:=rfl
theorem jB (xs a:List T):UT (ab (.lst xs)) (ab (.lst a)) H Q=(xs.length+a.length<=av/\∀p,H p=ag->Q (.ref p) (eH H p (.lst (xs++a)))):=rfl
theorem UV (n:Bool) (i j:Int):sJ n (.int i) (.int j) H Q=Q (.bl (if n then !decide (i=j) else decide (i=j))) H:=rfl
theorem UW (n:Bool) (i j:ap):sJ n (.str i) (.str j) H Q=Q (.bl (if n then !decide (i=j) else decide (i=j))) H:=rfl
theorem U0 (n:Bool) (i j:Bool):sJ n (.bl i) (.bl j) H Q=Q (.bl (if n then !decide (i=j) else decide (i=j))) H:=rfl
theorem Do (n:Bool) (xs a:List T):sJ n (.tup xs) (.tup a) H Q=(xs.all (pl 20)=ai/\a.all (pl 20)=ai/\Q (.bl (if n then !decide (xs=a) else decide (xs=a))) H):=rfl
def NY (n:Bool) (a b:af) (o u:Option O3) (H:gV) (Q:wv):Prop:=match o,u with
 |some (.lst xs),ab (.lst ys)=>a≠b/\xs.all (pl 20)=ai/\ys.all (pl 20)=ai/\Q (.bl (if n then !@decide (xs=ys) (instDecidableEqList xs ys) else @decide (xs=ys) (instDecidableEqList xs ys))) H
 |_,_=>False
theorem U3 (n:Bool) (a b:af):sJ n (.ref a) (.ref b) H Q=NY n a b (H a) (H b) H Q:=rfl
theorem Dp (n:Bool) (a b:af) (xs c:List T):NY n a b (ab (.lst xs)) (ab (.lst c)) H Q=(a≠b/\xs.all (pl 20)=ai/\c.all (pl 20)=ai/\Q (.bl (if n then !decide (xs=c) else decide (xs=c))) H):=rfl
theorem Mf (n:Bool) (x:T) (ts:List T):sU n x (.tup ts) H Q=(pl 20 x=ai/\ts.all (pl 20)=ai/\Q (.bl (du n x ts)) H):=rfl
theorem U4 (n:Bool) (i j:ap):sU n (.str i) (.str j) H Q=Q (.bl (NV n i j)) H:=rfl
def No (n:Bool) (x:T) (o:Option O3) (H:gV) (Q:wv):Prop:=match o with
 |some (.lst ts)=>pl 20 x=ai/\ts.all (pl 20)=ai/\Q (.bl (du n x ts)) H
 |some (.rol ts)=>pl 20 x=ai/\ts.all (pl 20)=ai/\Q (.bl (du n x ts)) H
 |_=>False
theorem Mg (n:Bool) (x:T) (a:af):sU n x (.ref a) H Q=No n x (H a) H Q:=rfl
theorem Mh (n:Bool) (x:T) (ts:List T):No n x (ab (.lst ts)) H Q=(pl 20 x=ai/\ts.all (pl 20)=ai/\Q (.bl (du n x ts)) H):=rfl
def Ki (o:Option O3) (i:Int) (H:gV) (Q:wv):Prop:=match o with
 |some (.lst ts)=>oq (xh ts i) λt=>Q t H
 |some (.rol ts)=>oq (xh ts i) λt=>Q t H
 |_=>False
theorem Dq (a:af) (i:Int):sV (.ref a) (.int i) H Q=Ki (H a) i H Q:=rfl
theorem sY (ts:List T) (i:Int):Ki (ab (.lst ts)) i H Q=oq (xh ts i) λt=>Q t H:=rfl
theorem U5 (ts:List T) (i:Int):sV (.tup ts) (.int i) H Q=oq (xh ts i) λt=>Q t H:=rfl
theorem U6 (z:ap) (i:Int):sV (.str z) (.int i) H Q=(z.length<=av/\oq (xh z.cps.toList i) λc=>Q (.str ⟨#[c]⟩) H):=rfl
def N3 (o:Option O3) (a:af) (k:Int) (v:T) (H:gV) (Q:gV->Prop):Prop:=match o with
 |some (.lst ts)=>oq (AL ts.length k) λj=>Q (eH H a (.lst (ts.set j v)))
 |_=>False
theorem Qf (a:af) (k:Int) (v:T) (Q:gV->Prop):De (.ref a) (.int k) v H Q=N3 (H a) a k v H Q:=rfl
theorem U7 (ts:List T) (a:af) (k:Int) (v:T) (Q:gV->Prop):N3 (ab (.lst ts)) a k v H Q=oq (AL ts.length k) λj=>Q (eH H a (.lst (ts.set j v))):=rfl
def pq (x:T) (Q:Option Int->Prop):Prop:=match x with
 |.int i=>Q (ab i)
 |_=>False
theorem Yc (i:Int) (Q:Option Int->Prop):pq (.int i) Q=Q (ab i):=rfl
theorem Qg (t:wE) (Q:Option Int->gV->Prop):Df t Z H Q=t Z H λx a=>pq x λo=>Q o a:=rfl
def MG (o:Option O3) (b a:Option Int) (H:gV) (Q:wv):Prop:=match o with
 |some (.lst ts)=>∀p,H p=ag->Q (.ref p) (eH H p (.lst (dY ts b a)))
 |some (.rol ts)=>∀p,H p=ag->Q (.ref p) (eH H p (.lst (dY ts b a)))
 |_=>False
theorem U8 (a:af) (c b:Option Int):Je (.ref a) c b H Q=MG (H a) c b H Q:=rfl
theorem Mi (ts:List T) (b a:Option Int):MG (ab (.lst ts)) b a H Q=∀p,H p=ag->Q (.ref p) (eH H p (.lst (dY ts b a))):=rfl
theorem Qh (ts:List T) (b a:Option Int):MG (ab (.rol ts)) b a H Q=∀p,H p=ag->Q (.ref p) (eH H p (.lst (dY ts b a))):=rfl
theorem U9 (ts:List T) (b a:Option Int):Je (.tup ts) b a H Q=(¬(HT.sIx ts.length 0 b=0/\HT.sIx ts.length ts.length a=ts.length)/\Q (.tup (dY ts b a)) H):=rfl
theorem Va (z:ap) (b a:Option Int):Je (.str z) b a H Q=(z.length<=av/\Q (.str (gu z b a)) H):=rfl
def NJ (o:Option O3) (k:ap) (H:gV) (Q:wv):Prop:=match o with
 |some (.dct kvs)=>oq (aR k kvs) λt=>Q t H
 |_=>False
theorem q_D (a:af) (k:ap):NO (.ref a) (.str k) H Q=NJ (H a) k H Q:=rfl
theorem Vb (kvs:List (ap × T)) (k:ap):NJ (ab (.dct kvs)) k H Q=oq (aR k kvs) λt=>Q t H:=rfl
def N0 (x y v:T) (H:gV) (Q:gV->Prop):Prop:=match x,y with
 |.ref a,.str k=>match H a with
  |some (.dct kvs)=>kvs.length<av/\Q (eH H a (.dct (xL k v kvs)))
  |_=>False
 |_,_=>False
def OE (o:Option O3) (a:af) (k:ap) (v:T) (H:gV) (Q:gV->Prop):Prop:=match o with
 |some (.dct kvs)=>kvs.length<av/\Q (eH H a (.dct (xL k v kvs)))
 |_=>False
theorem Qi (c b a:wE) (D:MQ):Dg c b a D Z H=a Z H λv e=>c Z e λx d=>b Z d λy H3=>N0 x y v H3 λf=>D.nx Z f:=rfl
theorem Vc (a:af) (k:ap) (v:T) (Q:gV->Prop):N0 (.ref a) (.str k) v H Q=OE (H a) a k v H Q:=rfl
theorem Vd (kvs:List (ap × T)) (a:af) (k:ap) (v:T) (Q:gV->Prop):OE (ab (.dct kvs)) a k v H Q=(kvs.length<av/\Q (eH H a (.dct (xL k v kvs)))):=rfl
def MR (o:Option O3) (H:gV) (Q:wv):Prop:=match o with
 |some (.lst xs)=>Q (.int xs.length) H
 |some (.rol xs)=>Q (.int xs.length) H
 |_=>False
theorem Qj (a:af):xW [.ref a] H Q=MR (H a) H Q:=rfl
theorem Ve (xs:List T):MR (ab (.lst xs)) H Q=Q (.int xs.length) H:=rfl
theorem Qk (xs:List T):xW [.tup xs] H Q=Q (.int xs.length) H:=rfl
theorem Ql (z:ap):xW [.str z] H Q=(z.length<=av/\Q (.int z.length) H):=rfl
def N9 (o:Option O3) (H:gV) (Q:wv):Prop:=match o with
 |some (.lst xs)=>∀p,H p=ag->Q (.ref p) (eH H p (.lst xs))
 |some (.rol xs)=>∀p,H p=ag->Q (.ref p) (eH H p (.lst xs))
 |_=>False
theorem Ji (a:af):vM [.ref a] H Q=N9 (H a) H Q:=rfl
theorem Vf (xs:List T):N9 (ab (.lst xs)) H Q=∀p,H p=ag->Q (.ref p) (eH H p (.lst xs)):=rfl
theorem Jj (xs:List T):vM [.tup xs] H Q=∀p,H p=ag->Q (.ref p) (eH H p (.lst xs)):=rfl
def OF (o:Option O3) (H:gV) (Q:wv):Prop:=match o with
 |some (.lst xs)=>Q (.tup xs) H
 |some (.rol xs)=>Q (.tup xs) H
 |_=>False
theorem Qm (a:af):qD [.ref a] H Q=OF (H a) H Q:=rfl
theorem Vg (xs:List T):OF (ab (.lst xs)) H Q=Q (.tup xs) H:=rfl
theorem Qn (xs:List T):qD [.tup xs] H Q=Q (.tup xs) H:=rfl
theorem Qo (i:Int):Dh [.int i] H Q=Q (.int i) H:=rfl
theorem Qp (b:Bool):Dh [.bl b] H Q=Q (.int (if b then 1 else 0)) H:=rfl
def NW (o:Option O3) (H:gV) (Q:wv):Prop:=match o with
 |some (.lst xs)=>oq (w9 xs) λns=>Q (.int ns.sum) H
 |some (.rol xs)=>oq (w9 xs) λns=>Q (.int ns.sum) H
 |_=>False
theorem Qq (a:af):LK [.ref a] H Q=NW (H a) H Q:=rfl
theorem Vh (xs:List T):NW (ab (.lst xs)) H Q=oq (w9 xs) λns=>Q (.int ns.sum) H:=rfl
theorem Vi (x:T) (n:String):Di [x,.ty n] H Q=((n="str"\/n="int"\/n="bool"\/n="tuple"\/n="list")/\oq (zd n x H) λb=>Q (.bl b) H):=rfl
theorem Vj (a:String) (z:ap):IC a (.str z) H=(a="str"):=rfl
def NA (o:Option O3):Prop:=match o with
 |some (.lst _)=>True
 |some (.rol _)=>True
 |_=>False
theorem Vk (b:String) (a:af):IC b (.ref a) H=(b="list"/\NA (H a)):=rfl
theorem Vl (xs:List T):NA (ab (.lst xs))=True:=rfl
def ML (o:Option O3) (a:af) (t:T) (H:gV) (Q:wv):Prop:=match o with
 |some (.lst xs)=>xs.length<av/\Q .non (eH H a (.lst (xs++[t])))
 |_=>False
theorem Vm (a:af) (t:T):LR (.ref a) [t] H Q=ML (H a) a t H Q:=rfl
theorem Dr (xs:List T) (a:af) (t:T):ML (ab (.lst xs)) a t H Q=(xs.length<av/\Q .non (eH H a (.lst (xs++[t])))):=rfl
def OG (o u:Option O3) (a:af) (H:gV) (Q:wv):Prop:=match o,u with
 |some (.lst xs),ab (.lst ys)=>xs.length+ys.length<=av/\Q .non (eH H a (.lst (xs++ys)))
 |_,_=>False
theorem Vn (a b:af):Ma (.ref a) [.ref b] H Q=OG (H a) (H b) a H Q:=rfl
theorem Vo (xs b:List T) (a:af):OG (ab (.lst xs)) (ab (.lst b)) a H Q=(xs.length+b.length<=av/\Q .non (eH H a (.lst (xs++b)))):=rfl
def OC (o:List Nat) (H:gV) (Q:wv):Prop:=match o with
 |i::_=>Q (.int i) H
 |[]=>False
theorem Jk (z y:ap):xZ (.str z) [.str y] H Q=OC (bg z y 0 z.length 1) H Q:=rfl
theorem Vp (i:Nat) (r:List Nat):OC (i::r) H Q=Q (.int i) H:=rfl
def MX (vs:List T) (H:gV) (R:List T->(gV->Prop)->gV->Prop):Prop:=match vs with
 |[.int j]=>-(2^62)<=j/\j<2^62/\R (eU 0 j.toNat) dR H
 |[.int i,.int j]=>(-(2^62)<=i/\i<2^62 /\ -(2^62)<=j/\j<2^62)/\R (eU i (j - i).toNat) dR H
 |_=>False
theorem Vq (a:AK) (R:List T->(gV->Prop)->gV->Prop):CP a Z H R=a Z H λvs b=>MX vs b R:=rfl
theorem Vr (j:Int) (R:List T->(gV->Prop)->gV->Prop):MX [.int j] H R=(-(2^62)<=j/\j<2^62/\R (eU 0 j.toNat) dR H):=rfl
theorem Vs (i j:Int) (R:List T->(gV->Prop)->gV->Prop):MX [.int i,.int j] H R=((-(2^62)<=i/\i<2^62 /\ -(2^62)<=j/\j<2^62)/\R (eU i (j - i).toNat) dR H):=rfl
def Of (x:T) (H:gV) (R:List T->(gV->Prop)->gV->Prop):Prop:=match x with
 |.tup ts=>R ts dR H
 |_=>False
theorem Qs (a:wE) (R:List T->(gV->Prop)->gV->Prop):Lx a Z H R=a Z H λx b=>Of x b R:=rfl
theorem Vt (ts:List T) (R:List T->(gV->Prop)->gV->Prop):Of (.tup ts) H R=R ts dR H:=rfl
def NI (x:T) (H:gV) (R:List T->(gV->Prop)->gV->Prop):Prop:=match x with
 |.ref a=>match H a with
  |some (.lst ts)=>R ts (bI a ts) H
  |some (.rol ts)=>R ts (bI a ts) H
  |_=>False
 |_=>False
def Kt (o:Option O3) (a:af) (H:gV) (R:List T->(gV->Prop)->gV->Prop):Prop:=match o with
 |some (.lst ts)=>R ts (bI a ts) H
 |some (.rol ts)=>R ts (bI a ts) H
 |_=>False
theorem Jl (a:wE) (R:List T->(gV->Prop)->gV->Prop):CK a Z H R=a Z H λx b=>NI x b R:=rfl
theorem yc (a:af) (R:List T->(gV->Prop)->gV->Prop):NI (.ref a) H R=Kt (H a) a H R:=rfl
theorem pC (ts:List T) (a:af) (R:List T->(gV->Prop)->gV->Prop):Kt (ab (.lst ts)) a H R=R ts (bI a ts) H:=rfl
theorem Qt (Q:xv->gV->Prop):CG [] Z H Q=Q Z H:=rfl
theorem Jm (t:B5) (u:mG) (x:T) (r:List T) (Q:xv->gV->Prop):qu t u (x::r) Z H Q=t x Z H λa b=>u r a b Q:=rfl
theorem Qu (n:Nat) (g:mG) (ts:List T) (Q:xv->gV->Prop):xO n g (.tup ts) Z H Q=(ts.length=n/\g ts Z H Q):=rfl
theorem Jo (h:j<n):AL n (j:Int)=ab j:=by
 unfold AL;rw[we (F2 j),we uS,ZP]
theorem at0 (a:b) (r:List b):xh (a::r) 0=ab a:=bQ (j:=0) rfl
theorem at1 (a b:c) (r:List c):xh (a::b::r) 1=ab b:=bQ (j:=1) rfl
theorem at2 (a b c:d) (r:List d):xh (a::b::c::r) 2=ab c:=bQ (j:=2) rfl
theorem je (I:List T->xv->gV->Prop) (d:I ts Z H) (f:∀Z H,I [] Z H->still H/\D.nx Z H) (i:∀t r Z H (N:xv->gV->Prop),I (t::r) Z H->(∀a c,I r a c->N a c)->still H/\g t Z H λZ2 H2=>b { D with nx:=N,ct:=N,bk:=D.nx} Z2 H2):B0 g b D still ts Z H:=by
 induction ts generalizing Z H with
 |nil=>exact f Z H d
 |cons t r e=>exact i t r Z H (B0 g b D still r) d λa c h=>e h
theorem mU (I:List T->List T->xv->gV->Prop) (i:I ts a Z H) (k:∀a Z H,I [] a Z H->still H/\a.length<=av/\c a H) (l:∀t r a Z H (N:List T->xv->gV->Prop),I (t::r) a Z H->(∀d e f,I r d e f->N d e f) ->
   still H/\g t Z H λZ2 H2=>tt Z2 H2 λb H3=>if b=ai then te Z2 H3 λy H4=>a.length<av/\N (a++[y]) Z2 H4 else N a Z2 H3):Bz g tt te still c ts a Z H:=by
 induction ts generalizing Z H a with
 |nil=>exact k a Z H i
 |cons t r j=>exact l t r a Z H (Bz g tt te still c r) i λd e f h=>j h
theorem OL (n:Nat):HT.sIx n 0 ag=0:=rfl
theorem qG {k:Nat}:dY ts ag (ab (k:Int))=ts.take k:=by
 unfold dY;rw[OL,HT.adM,k9,Nat.sub_zero];by_cases h:k<=ts.length
 .rw[kw h]
 rw[pa uS,F1,GH uS]
theorem sZ {k:Nat}:dY ts (ab (k:Int)) ag=ts.drop k:=by
 unfold dY;rw[HT.ad4,HT.adM];by_cases h:k<=ts.length
 .rw[kw h,GH wn]
 rw[pa uS,kc (u_ _),kc uS,sQ]
theorem cU (h:eH H a o b=ag):b≠a/\H b=ag:=by
 by_cases e:b=a
 .subst e;rw[aq] at h;cases h
 rw[aH e] at h;exact⟨e,h⟩
theorem Ds (h:a≠b):eH (eH H a o) b u=eH (eH H b u) a o:=by
 funext c;by_cases e:c=b
 .subst e;rw[aq,aH (a7 h),aq]
 rw[aH e];by_cases d:c=a
 .subst d;rw[aq,aq]
 rw[aH d,aH d,aH e]
theorem bJ {o:Type} (d f:o->T) (g:List o) (wq:xv) (k:still H) (q:g.length<=av) (p:∀a∈g,∀Q:wv,Q (f a) H->te (ab (d a)::wq) H Q) (j:i (g.map f) H):Bz (jx 0) xQ te still i (g.map d) [] (v::wq) H:=by
 refine mU (λr n Z m=>∃(e h:List o) (v:Option T),Z=v::wq/\r=e.map d/\n=h.map f/\h++e=g/\m=H) ⟨g,[],v,rfl,rfl,rfl,rfl,rfl⟩ ?_ ?_
 .rintro n Z m ⟨e,h,v,rfl,c,rfl,b,rfl⟩;have l:e=[]:=GU.mp c.symm;subst l;rw[YH] at b;subst b;exact⟨k,by rw[g_];exact q,j⟩
 rintro x r n Z m N ⟨e,h,v,rfl,c,rfl,b,rfl⟩ s;cases e with
 |nil=>cases c
 |cons t e =>
 injection c with e1 e2;subst e1 e2;refine⟨k,?_⟩;show te (ab (d t)::wq) m _;refine p t (by rw[<- b];simp) _ ⟨?_,s _ _ _ ⟨e,h++[t],_,rfl,rfl,wn,by rw[<- b];simp,rfl⟩⟩;have:=YB a5 b;simp only[b_,n_] at this;rw[g_];omega
def bV:List T->Option (List Bool)
 |[]=>ab []
 |.bl x::r=>(bV r).map (x::·)
 |_=>ag
theorem f9:∀(ns:List Bool),bV (ns.map T.bl)=ab ns
 |[]=>rfl
 |n::r=>by simp [bV,f9 r]
def iK {K:a6}:∀{ts:List T}{xs:List V}{us:List aw}{c:List Bool},bV ts=ab c->ql K H ts xs->wf xs us->us=c.map c8
 |[],xs,us,c,e,r,v=>by
  cases e
  rw[r.inv0] at v
  cases v
  rfl
 |.bl i::l,xs,us,c,e,r,v=>by
  obtain⟨x,h,rfl,f,g⟩:=r.inv
  cases v with
  |cons a b =>
   rw[f.bl] at a
   cases d:bV l with
   |none=>simp [bV,d] at e
   |some j =>
    simp [bV,d] at e
    subst e
    cases a
    rw[iK d g b]
    rfl
 |.non::_,_,_,_,e,_,_=>by simp [bV] at e
 |.int _::_,_,_,_,e,_,_=>by simp [bV] at e
 |.str _::_,_,_,_,e,_,_=>by simp [bV] at e
 |.tup _::_,_,_,_,e,_,_=>by simp [bV] at e
 |.ref _::_,_,_,_,e,_,_=>by simp [bV] at e
 |.ty _::_,_,_,_,e,_,_=>by simp [bV] at e
def LY (o:Option O3) (H:gV) (Q:wv):Prop:=match o with
 |some (.lst xs)=>oq (bV xs) λa=>Q (.bl (a.all id)) H
 |some (.rol xs)=>oq (bV xs) λa=>Q (.bl (a.all id)) H
 |_=>False
def Mj:List T->gV->wv->Prop:=λts H Q=>match ts with
 |[.ref a]=>LY (H a) H Q
 |_=>False
theorem Vu (a:af):Mj [.ref a] H Q=LY (H a) H Q:=rfl
theorem Vv (xs:List T):LY (ab (.lst xs)) H Q=oq (bV xs) λa=>Q (.bl (a.all id)) H:=rfl
theorem Co (c:List Bool):(ax c.length).all (λi=>c.getD i ai)=c.all id:=by
 rw[Yx,YG,YG];constructor
 .intro h b e;obtain⟨i,d,rfl⟩:=LU.mp e;have:=h i (T_.mpr d);simpa [i8,d] using this
 intro h i d;have a:=T_.mp d;have:=h c[i] (YZ a);simpa [i8,a] using this
theorem vQ (L:X.calm=ai):dC X (.builtin "all") Mj:=by
 intro t s Z H xs us Q I N h;obtain⟨ts,H3,Q3,r,F,h,k⟩:=h
 match ts,h,r with
 |[.ref a],h,r =>
 obtain⟨v,rfl,B⟩:=r.one';obtain⟨u,rfl,G⟩:=xz N;rw[B.ref] at G;cases G;have f:∀{j:List T} {m:List V},y8 X.K H a m->ql X.K H j m->oq (bV j) (λd=>Q3 (.bl (d.all id)) H3)->ay (aT X.prog X.w) X.A (jS (.builtin "all") [.ref a]) (EP X t Z Q) X.xe s:=by
  intro j m l p q;cases e:bV j with
  |none=>rw[e] at q;exact q.elim
  |some d =>
  rw[e] at q;obtain⟨R,y,D,_⟩:=I.list l;have O:=iK e p y;subst O;have E:a≠s.heap.objs.size:=λz=>by obtain⟨o,n,g,_⟩:=D;have:=F_ g;rw[z] at this;exact YQ _ this
  refine call_all_walk (JO D.isList ?_);refine⟨s.heap.objs.size,_,_,_,_,_,λi=>d.getD i ai,rfl,Walks.list (A:=X.A.in1) (I.ok.hd L) s.heap.objs.size a E (d.map c8).toArray,⟨⟨_,E_ _ rfl,rfl,rfl⟩,D.isList.push _⟩,λi v s' U S P C=>?_,λh' tk M=>?_⟩
  .have c:(d.map c8)[i]?=ab v:=by simpa using P
   rw[C_] at c;cases x:d[i]? with
   |none=>rw[x] at c;cases c
   |some b =>
   rw[x] at c;cases c;have:d.getD i ai=b:=by simp [i8,x]
   dsimp only at C;rw[this] at C;exact Zg C
  have J:(d.map c8).toArray.size=d.length:=wn
  rw[J,Co];refine⟨.bl (d.all id),H,I.kept λb o e=>M b o (λz=>?_) (e_ _ e),rfl,k _ _ _ _ .refl F .ofBl q⟩;have:=F_ e;rw[j_.mp z] at this;exact YQ _ this
 have h':LY (H3 a) H3 Q3:=h;cases g:H3 a with
 |none=>rw[g] at h';exact h'.elim
 |some o =>
 rw[g] at h';cases o with
 |lst j=>obtain⟨m,l,p⟩:=F.sqL (.inl g);exact f l p h'
 |rol j=>obtain⟨m,l,p⟩:=F.sqL (.inr g);exact f l p h'
 |dct _=>exact h'.elim
 |dcp _=>exact h'.elim
 |exc _ _=>exact h'.elim
 |xdt _=>exact h'.elim
 |dcn _ _=>exact h'.elim
 |dci _=>exact h'.elim
 |dif _ _=>exact h'.elim
 |ins _ _=>exact h'.elim
def Yd:T->Option xb
 |.int i=>ab (.inl i)
 |.str x=>ab (.inr x)
 |_=>ag
def Dt:List T->Option (List xb)
 |[]=>ab []
 |t::r=>match Yd t,Dt r with
  |some k,ab ks=>ab (k::ks)
  |_,_=>ag
def Ml (k:List xb):List (List xb × T)->Option T
 |[]=>ag
 | (k',v)::r=>if k'=k then ab v else Ml k r
def putP (k:List xb) (v:T) (kvs:List (List xb × T)):List (List xb × T) :=
 if (kvs.any λa=>decide (a.1=k))=ai then kvs.map (λa=>if a.1=k then (a.1,v) else a) else kvs++[(k,v)]
def Ye (o:Option O3) (ts:List T) (H:gV) (Q:wv):Prop:=match o with
 |some (.dcp kvs)=>oq (Dt ts) λks=>oq (Ml ks kvs) λt=>Q t H
 |_=>False
def PV (x:T) (ts:List T) (H:gV) (Q:wv):Prop:=match x with
 |.ref a=>Ye (H a) ts H Q
 |_=>False
def Jp (d:wE) (a:AK):wE:=λZ H Q=>d Z H λx c=>a Z c λts b=>ts.length<=av/\PV x ts b Q
def Yg (o:Option O3) (a:af) (ts:List T) (v:T) (H:gV) (Q:gV->Prop):Prop:=match o with
 |some (.dcp kvs)=>oq (Dt ts) λks=>kvs.length<av/\Q (eH H a (.dcp (putP ks v kvs)))
 |_=>False
def OX (x:T) (ts:List T) (v:T) (H:gV) (Q:gV->Prop):Prop:=match x with
 |.ref a=>Yg (H a) a ts v H Q
 |_=>False
def Jq (f:wE) (e:AK) (a:wE):zo:=λD Z H=>a Z H λv c=>f Z c λx b=>e Z b λts H3=>ts.length<=av/\OX x ts v H3 λd=>D.nx Z d
section
variable {H:gV}{Q:wv}
variable {X:Cx}{o i k value:Expr}
def Du:wE:=λ_ H Q=>∀p,H p=ag->Q (.ref p) (eH H p (.dct []))
def Jr:wE:=λ_ H Q=>∀p,H p=ag->Q (.ref p) (eH H p (.dcp []))
theorem My.newD {K:a6}{H:Hp} (s:My K H3 H) (c:H p=ag):My K (eH H3 p (.dct [])) (wS H p (.dK [])):=λa o e=>by
 by_cases b:a=p
 .subst b;rw[aq] at e;cases e;exact⟨[],cI,.nil⟩
 rw[aH b] at e;exact s.new c a o e
theorem qH:wP X (.Dict [] [] P9) Du:=by
 refine PE.imp rW ?_;rintro Z H Q ⟨d,H3,Q3,c,b,h,k⟩ p a;exact k _ _ _ _ (aQ a) (b.newD a) .ofRef (h p (b.fresh a))
def ND (y:T) (p:af) (v:T) (H:gV) (Q:wv):Prop:=match y with
 |.str k=>H p=ab (.dct [])/\Q (.ref p) (eH H p (.dct [(k,v)]))
 |_=>False
def Dv (tk a:wE):wE:=λZ H Q=>∀p,H p=ag->tk Z (eH H p (.dct [])) λy c=>a Z c λv b=>ND y p v b Q
theorem Vw (x:ap) (p:af) (v:T):ND (.str x) p v H Q=(H p=ab (.dct [])/\Q (.ref p) (eH H p (.dct [(x,v)]))):=rfl
theorem Dw (w:wP X k tk) (A:wP X v tv):wP X (.Dict [ab k] [v] P9) (Dv tk tv):=by
 refine PE.imp (Ip (BX w A Io) rfl rfl wn (by show 1<=15;decide)) ?_;rintro Z H Q ⟨q,H3,Q3,m,o,h,k⟩ p j;have a:Pr X.K H (wS H p (.dK [])):=aQ j;refine⟨q,eH H3 p (.dct []),_,m.mono a,o.newD j,h p (o.fresh j),λy C u l b g s x=>?_⟩;refine⟨q,l,_,m.mono (a.trans b),g,x,λz D t f c d B n=>?_⟩;cases u with
 |str key =>
  have h':f p=ab (.dct [])/\Q3 (.ref p) (eH f p (.dct [(key,t)])):=n
  obtain⟨ws,i,r⟩:=d p _ h'.1
  cases r
  refine⟨i,[(cq key,z)],by rw[(s.mono c).str];rfl,by show 1<=15;decide,?_⟩
  have e:kh [] [((cq key:xb),z)]=[((cq key:xb),z)]:=rfl
  rw[e]
  exact k _ _ _ _ (a.trans (b.trans (c.trans (cJ (by rw[i];exact trivial))))) (d.wrD i (.cons ⟨rfl,B⟩ .nil)) .ofRef h'.2
 |_=>exact n.elim
def LZ (neg:Bool) (y:T) (o:Option O3) (H:gV) (Q:wv):Prop:=match y,o with
 |.str k,ab (.dct kvs)=>Q (.bl (if neg then !(aR k kvs).isSome else (aR k kvs).isSome)) H
 |_,_=>False
def Mc (neg:Bool) (y x:T) (H:gV) (Q:wv):Prop:=match x with
 |.ref a=>LZ neg y (H a) H Q
 |_=>False
def Dy (neg:Bool) (a c:wE):wE:=λZ H Q=>a Z H λy d=>c Z d λx b=>Mc neg y x b Q
theorem Vx (neg:Bool) (y:T) (a:af):Mc neg y (.ref a) H Q=LZ neg y (H a) H Q:=rfl
theorem Vy (neg:Bool) (k:ap) (kvs:List (ap × T)):LZ neg (.str k) (ab (.dct kvs)) H Q=Q (.bl (if neg then !(aR k kvs).isSome else (aR k kvs).isSome)) H:=rfl
theorem pF {K:a6}{H:Hp}{k:ap}:∀{kvs:List (ap × T)}{vs:List (xb × V)},CA K H kvs vs->(jt vs (cq k:xb)).isSome=(aR k kvs).isSome
 |[],_,.nil=>rfl
 | (k',t')::r,_,.cons (b:=(kk,v')) ⟨e1,rv⟩ rr=>by
  simp only at e1 rv
  subst e1
  unfold aR
  by_cases a:k'=k
  ·
   rw[we a,iC (by rw[a])];rfl
  ·
   rw[wc a,iD (by intro z;exact a (io z))]
   exact pF rr
def yd {H:Hp} (i:My X.K H3 H) (h:wr X.K H d x) (j:wr X.K H c y) (q:Mc neg c d H3 Q3):
  ∃a f b,x=.ref a/\B6 H a y f/\(if neg then !f.isSome else f.isSome)=b/\Q3 (.bl b) H3:=by
 cases d with
 |ref a =>
  have h':LZ neg c (H3 a) H3 Q3:=q
  cases c with
  |str k =>
   cases e:H3 a with
   |none=>rw[e] at h';exact h'.elim
   |some l =>
    rw[e] at h'
    cases l with
    |dct kvs =>
     obtain⟨ws,g,r⟩:=i a _ e
     refine⟨a,jt ws (cq k:xb),_,h.ref,by rw[j.str];exact B6.k (k:=cq k) g,rfl,?_⟩
     rw[pF r]
     exact h'
    |_=>exact h'.elim
  |_=>exact h'.elim
 |_=>exact q.elim
theorem iM (z:X.A.units+1<cc) (B:wP X i ti) (t:wP X o td) (v:b9 .In o=am:=by rfl):BB X (.Compare i [.In] [o] P9) (jw (Dy am ti td)):=by
 refine PT.imp (vd (Pn z B t) v) ?_;rintro Z H Q ⟨p,H3,Q3,n,E,h,k⟩;refine⟨p,H3,_,n,E,h,λy F G l c j s w=>⟨p,l,_,n.mono c,j,w,λx I J C d f u D=>?_⟩⟩;obtain⟨a,m,b,e,g,r,q⟩:=yd f u (s.mono d) D;exact⟨a,m,e,g,b,by rw[show m.isSome=b from r],k _ _ _ (c.trans d) f q⟩
theorem pG (z:X.A.units+1<cc) (B:wP X i ti) (t:wP X o td) (v:b9 .NotIn o=am:=by rfl):BB X (.Compare i [.NotIn] [o] P9) (jw (Dy ai ti td)):=by
 refine PT.imp (vd (zX z B t) v) ?_;rintro Z H Q ⟨p,H3,Q3,n,E,h,k⟩;refine⟨p,H3,_,n,E,h,λy F G l c j s w=>⟨p,l,_,n.mono c,j,w,λx I J C d f u D=>?_⟩⟩;obtain⟨a,m,b,e,g,r,q⟩:=yd f u (s.mono d) D;exact⟨a,m,e,g,b,by rw[show (!m.isSome)=b from r],k _ _ _ (c.trans d) f q⟩
end
def Ae (x:T) (H:gV) (R:List T->(gV->Prop)->gV->Prop):Prop:=match x with
 |.tup ts=>R ts dR H
 |.ref a=>Kt (H a) a H R
 |_=>False
theorem Qv (ts:List T):Ae (.tup ts) H R=R ts dR H:=rfl
theorem Qw (a:af):Ae (.ref a) H R=Kt (H a) a H R:=rfl
def Dz (i:Nat):CU:=λZ H R=>vq (Z[i]?) λx=>Ae x H R
theorem Js (i:Nat):Dz i Z H R=vq (Z[i]?) λx=>Ae x H R:=rfl
theorem Jt {X:Cx}{p:Expr} (i:Nat) {f:mi} (n:X.N[i]?=ab x:=by rfl) (g:Jn X.env.scope x:=by first | exact j3 rfl | exact fq (j3 rfl) | exact fq (fq rfl)) (m:(x==("__debug__":ap))=am:=by decide) (d:(x==("__classdict__":ap))=am:=by decide):C6 X p (.Name x f) (Dz i):=by
 intro b s Z H R I q;obtain⟨c,H3,R3,j,l,h,k⟩:=q;have h':vq (c[i]?) λx=>Ae x H3 R3:=h;cases e:c[i]? with
 |none=>rw[e] at h';exact h'.elim
 |some o =>
 cases o with
 |none=>rw[e] at h';exact h'.elim
 |some t =>
 rw[e] at h';cases t with
 |tup ts=>exact cD (v3 i n g m d) b s Z H R I ⟨c,H3,R3,j,l,by show su i c H3 _;rw[Dl,e];exact h',k⟩
 |ref a=>exact bA (v3 i n g m d) b s Z H R I ⟨c,H3,R3,j,l,by show su i c H3 _;rw[Dl,e];exact h',k⟩
 |_=>exact h'.elim
theorem aU {d:Type} (a:d->T) (xs:List d) (I:List d->xv->gV->Prop) (k:I [] Z H) (j:∀Z H,I xs Z H->still H/\D.nx Z H) (l:∀A x B Z H (N:xv->gV->Prop),xs=A++x::B->I A Z H->(∀b f,I (A++[x]) b f->N b f)->still H/\g (a x) Z H λZ2 H2=>c { D with nx:=N,ct:=N,bk:=D.nx} Z2 H2):B0 g c D still (xs.map a) Z H:=by
 have:∀(B A:List d) (Z:xv) (H:gV),xs=A++B->I A Z H->B0 g c D still (B.map a) Z H:=by
  intro B;induction B with
  |nil=>intro A Z H e h;rw[YH] at e;subst e;exact j Z H h
  |cons x B i =>
  intro A Z H e h;exact l A x B Z H (B0 g c D still (B.map a)) e h λb f h'=>i (A++[x]) b f (by rw[e];simp) h'
 exact this xs [] Z H rfl k
theorem gP {j:Type} (d:j->T) (xs:List j) (I:List j->List T->xv->gV->Prop) (n:I [] [] Z H) (m:∀a Z H,I xs a Z H->still H/\a.length<=av/\c a H) (o:∀A x B a Z H (N:List T->xv->gV->Prop),xs=A++x::B->I A a Z H->(∀f i k,I (A++[x]) f i k->N f i k) ->
   still H/\g (d x) Z H λZ2 H2=>tt Z2 H2 λb H3=>if b=ai then te Z2 H3 λy H4=>a.length<av/\N (a++[y]) Z2 H4 else N a Z2 H3):Bz g tt te still c (xs.map d) [] Z H:=by
 have:∀(B A:List j) (a:List T) (Z:xv) (H:gV),xs=A++B->I A a Z H->Bz g tt te still c (B.map d) a Z H:=by
  intro B;induction B with
  |nil=>intro A a Z H e h;rw[YH] at e;subst e;exact m a Z H h
  |cons x B l =>
  intro A a Z H e h;exact o A x B a Z H (Bz g tt te still c (B.map d)) e h λf i k h'=>l (A++[x]) f i k (by rw[e];simp) h'
 exact this xs [] [] Z H rfl n
theorem Ju (b:s.heap.IsTupleIter it t i) (g:s.heap.IsTuple t a) (h:a[i]?=ab x) (k:∀h',h'.IsTupleIter it t (i+1)->cE it s.heap h'->Q x { s with heap:=h'}):ay (aT prog w) A (bi (.ref it)) Q E s:=by
 obtain⟨o,d,j,c⟩:=id b;obtain⟨l,f,_,m,e⟩:=g;unfold bi;refine a_ (Zt (name:=dE "__next__") b.typeIs KF
  (Zk KF b.typeIs f_ ?_ (fE _)))
 show ay _ _ (r0 (.ref it) 0 >>= _) _ _ s;refine a_ (Zi d c (x:=.ref t) rfl ?_);show ay _ _ (if (a4 t==bE)=ai then _ else _) _ _ s;rw[wc (show ¬((a4 t==bE)=ai) from K_)];show ay _ _ (r0 (.ref it) 1 >>= _) _ _ s;refine a_ (Zi d c (x:=.int i 0) rfl ?_);show ay _ _ (seqItems? (.ref t) >>= _) _ _ s;refine a_ (Zv f e ?_);simp only[ZP,h];refine a_ (re d c wn (l_ ⟨x,rfl,l_ (k _ ?_ (Heap.SameBut.update ..))⟩));refine⟨_,eW _ d (Obj.isFreed_of_fields (nn c _)),(Obj.cls_mapFields ..).trans j,?_⟩;rw[nn c];simp [mE]
theorem DG (j:A.handled=ag) (c:s.heap.IsTupleIter it t i) (k:s.heap.IsTuple t b) (n:b[i]?=ag) (l:∀h' e,Heap.ExtBut it s.heap h'->(∃o,h'.get? e=ab o/\o.cls=.type "StopIteration")->E (.ref e) { s with heap:=h'}):ay (aT prog w) A (bi (.ref it)) Q E s:=by
 obtain⟨o,f,p,h⟩:=id c;obtain⟨q,g,_,r,d⟩:=k;unfold bi;refine a_ (Zt (name:=dE "__next__") c.typeIs KF
  (Zk KF c.typeIs f_ ?_ (fE _)))
 show ay _ _ (r0 (.ref it) 0 >>= _) _ _ s;refine a_ (Zi f h (x:=.ref t) rfl ?_);show ay _ _ (if (a4 t==bE)=ai then _ else _) _ _ s;rw[wc (show ¬((a4 t==bE)=ai) from K_)];show ay _ _ (r0 (.ref it) 1 >>= _) _ _ s;refine a_ (Zi f h (x:=.int i 0) rfl ?_);show ay _ _ (seqItems? (.ref t) >>= _) _ _ s;refine a_ (Zv g d ?_);simp only[ZP,n];refine a_ (gx (a_ (re f h wn ?_)));show ay _ _ (newExc (.type "StopIteration") [] >>= _) _ _ _;refine a_ ?_;simp only[newExc,newTuple];refine a_ (Zh ?_ (by size_fits));refine a_ (m:=rX _ _) (wpAny_of_eq (a:=bE) (by first | rfl | (simp only[rX];rfl)) ?_);refine Zh ?_ (by size_fits);simp only[raiseNew];refine a_ (wpAny_handled ?_);first | rw[show A.in1.handled=ag from j] | rw[j]
 refine a_ (l_ (wpAny_throw ?_));exact l _ _ (((Heap.SameBut.update ..).extBut.push _).push _) ⟨_,E_ _ rfl,rfl⟩
theorem Qx (k:A.handled=ag) (it t:af) (d:t≠it) (a:Array aw):
  kB prog w A it [it,t] a.size (λi v=>a[i]?=ab v) (λi h=>h.IsTupleIter it t i/\h.IsTuple t a) where
 live:=λ_ _ st=>let ⟨o,ho,_⟩:=st.1;⟨o,ho⟩
 frame:=λ_ _ _ st g=>⟨st.1.at λo e=>g it wn o e,st.2.at λo e=>g t wn o e⟩
 item:=λi s Q E f st l=>by
  refine Ju st.1 st.2 (x:=a[i]) (by simp [f]) λh' b c=>?_
  exact l _ h' s.toks (by simp [f]) ⟨b,st.2.extBut c.extBut d⟩ c
 done:=λs Q E st j=>DG k st.1 st.2 wn j
structure AM (z ti to i1 i2:af) (f1 f2:List af):Prop where
 ne:ti≠z/\to≠z/\ti≠to/\i1≠i2
 m1:i1∈f1
 m2:i2∈f2
 n1:z∉f1/\ti∉f1/\to∉f1/\i2∉f1
 n2:z∉f2/\ti∉f2/\to∉f2/\i1∉f2
theorem AM.i1z (D:AM z ti to i1 i2 f1 f2):i1≠z:=λe=>D.n1.1 (e▸D.m1)
theorem AM.i2z (D:AM z ti to i1 i2 f1 f2):i2≠z:=λe=>D.n2.1 (e▸D.m2)
theorem AM.i1ti (D:AM z ti to i1 i2 f1 f2):i1≠ti:=λe=>D.n1.2.1 (e▸D.m1)
theorem AM.i2ti (D:AM z ti to i1 i2 f1 f2):i2≠ti:=λe=>D.n2.2.1 (e▸D.m2)
theorem AM.i1to (D:AM z ti to i1 i2 f1 f2):i1≠to:=λe=>D.n1.2.2.1 (e▸D.m1)
theorem AM.i2to (D:AM z ti to i1 i2 f1 f2):i2≠to:=λe=>D.n2.2.2.1 (e▸D.m2)
theorem Fm {Q:aw->aI->Prop} (U:kB prog w A i1 f1 n1 P1 S1) (X:kB prog w A i2 f2 n2 P2 S2) (D:AM z ti to i1 i2 f1 f2) (J:f7 s.heap z ti to .none) (hI:c9 s.heap ti (.ref i1) (.ref i2)) (hO:c9 s.heap to a b) (h1:S1 k s.heap) (h2:S2 k s.heap) (k1:k<n1) (k2:k<n2) (hQ:∀x y h' tk,P1 k x->P2 k y->f7 h' z ti to (mE s.heap.objs.size)->c9 h' to x y->S1 (k+1) h'->S2 (k+1) h'->c9 h' s.heap.objs.size x y->h'.objs.size=s.heap.objs.size+1 ->
   (∀c o,c∉[z,to,i1,i2]->s.heap.get? c=ab o->h'.get? c=ab o)->Q (.ref s.heap.objs.size) { s with heap:=h',toks:=tk}):
  ay (aT prog w) A (et.«zip.__next__» ⟨[.ref z],[]⟩) (λT s'=>∃v,T=.done (.ret v)/\Q v s') E s:=by
 show ay _ _ (r0 (.ref z) 2 >>= _) _ _ _;refine a_ (Zi J rfl (x:=.bool am) rfl ?_);show ay _ _ (r0 (.ref z) 3 >>= _) _ _ _;refine a_ (Zi J rfl (x:=.ref ti) rfl ?_);refine a_ (Zv hI rfl ?_);show ay _ _ (cn (.ref z) >>= _) _ _ _;refine a_ ?_;unfold cn;refine a_ (Zi J rfl (x:=.none) rfl (l_ ?_));try simp only[if_true]
 refine a_ (gx ?_);refine a_ (Zi J rfl (x:=.ref to) rfl ?_);refine a_ (GE J wn λha I j=>?_);replace I:f7 ha z ti to .ellipsis:=I;refine a_ ?_;simp only[pi,qB,ZZ,F7];refine a_ (a_ (iN ?_));show ay _ _ (bi (.ref i1) >>= _) _ _ _;have t:∀{i:Nat} {h h':ci} {c:af},S1 i h->cE c h h'->c∉f1->S1 i h':=λst Z Y=>U.frame _ _ _ st λb p o e=>(Z.2 b λq=>Y (q▸p)).trans e;have B:∀{i:Nat} {h h':ci} {c:af},S2 i h->cE c h h'->c∉f2->S2 i h':=λst Z Y=>X.frame _ _ _ st λb p o e=>(Z.2 b λq=>Y (q▸p)).trans e;refine a_ (U.item k _ _ _ k1 (t h1 j D.n1.1) λx p tb px sb1 g=>l_ ?_);have K:c9 p to a b:=(g.2 to (a7 D.i1to)).trans ((j.2 to D.ne.2.1).trans hO);refine a_ (Zv K rfl ?_);refine a_ (fb K λf H n=>?_);replace H:c9 f to x b:=H;refine a_ (kH (l_ ?_));refine a_ (a_ (iN ?_));show ay _ _ (bi (.ref i2) >>= _) _ _ _;have s2c:S2 k f:=B (B (B h2 j D.n2.1) g D.n2.2.2.2) n D.n2.2.2.1;refine a_ (X.item k _ _ _ k2 s2c λy hd td py sd2 m=>l_ ?_);have L:c9 hd to x b:=(m.2 to (a7 D.i2to)).trans H;refine a_ (Zv L rfl ?_);refine a_ (fb L λd u l=>?_);replace u:c9 d to x y:=u;refine a_ (kH (l_ (l_ ?_)));refine a_ (Zv u rfl ?_);refine a_ (rg ?_);have hsz:d.objs.size=s.heap.objs.size:=by rw[l.1,m.1,n.1,g.1,j.1]
 have P:f7 d z ti to .ellipsis:=(l.2 z (a7 D.ne.2.1)).trans ((m.2 z (a7 D.i2z)).trans ((n.2 z (a7 D.ne.2.1)).trans ((g.2 z (a7 D.i1z)).trans I)));have hke:∀c o,c∉[z,to,i1,i2]->s.heap.get? c=ab o->d.get? c=ab o:=λc o f e=>by simp only[y_,YJ,AJ,not_or] at f;exact (l.2 c f.2.1).trans ((m.2 c f.2.2.2).trans ((n.2 c f.2.1).trans ((g.2 c f.2.2.1).trans ((j.2 c f.1).trans e))))
 have V:S1 (k+1) d:=t (t (t sb1 n D.n1.2.2.1) m D.n1.2.2.2) l D.n1.2.2.1;have W:S2 (k+1) d:=B sd2 l D.n2.2.2.1;have M:z<d.objs.size:=F_ P;show ay _ _ (d6 (.ref z) (.ref d.objs.size) >>= _) _ _ _;refine a_ ?_;unfold d6;have hzf:f7 (d.push { cls:=.type "tuple",data:=.seq #[x,y]}) z ti to .ellipsis:=e_ _ P;refine a_ (GE hzf wn λhg G C=>?_);replace G:f7 hg z ti to (mE d.objs.size):=G;refine GE G wn λR r F=>?_;replace r:f7 R z ti to (mE d.objs.size):=r;have S:∀c o,c≠z->d.get? c=ab o->R.get? c=ab o:=λc o c1 e=>(F.2 c c1).trans ((C.2 c c1).trans (e_ _ e));have N:c9 R d.objs.size x y:=(F.2 _ (YT M)).trans ((C.2 _ (YT M)).trans (E_ _ rfl));have O:R.objs.size=d.objs.size+1:=by rw[F.1,C.1,EX]
 rw[hsz] at r N O;refine l_ ⟨_,rfl,?_⟩;show Q (.ref d.objs.size) _;rw[hsz];exact hQ x y R _ px py r (S _ _ D.ne.2.1 u) (U.frame _ _ _ V λb p o e=>S b o (λq=>D.n1.1 (q▸p)) e) (X.frame _ _ _ W λb p o e=>S b o (λq=>D.n2.1 (q▸p)) e) N O λc o f e=>S c o (λq=>f (q▸A_)) (hke c o f e)
theorem HZ (I:kB prog w A i1 f1 n1 P1 S1) (M:kB prog w A i2 f2 n2 P2 S2) (D:AM z ti to i1 i2 f1 f2) (u:f7 s.heap z ti to .none) (Z:c9 s.heap ti (.ref i1) (.ref i2)) (X:c9 s.heap to a b) (N:S1 k s.heap) (T:S2 k s.heap) (S:k=n1\/(k<n1/\k=n2)) (O:∀h' e tk,(∀c o,c∉[z,to,i1,i2]->s.heap.get? c=ab o->h'.get? c=ab o)->(∃o,h'.get? e=ab o/\o.cls=.type "StopIteration")->E (.ref e) { s with heap:=h',toks:=tk}):
  ay (aT prog w) A (et.«zip.__next__» ⟨[.ref z],[]⟩) Q E s:=by
 show ay _ _ (r0 (.ref z) 2 >>= _) _ _ _;refine a_ (Zi u rfl (x:=.bool am) rfl ?_);show ay _ _ (r0 (.ref z) 3 >>= _) _ _ _;refine a_ (Zi u rfl (x:=.ref ti) rfl ?_);refine a_ (Zv Z rfl ?_);show ay _ _ (cn (.ref z) >>= _) _ _ _;refine a_ ?_;unfold cn;refine a_ (Zi u rfl (x:=.none) rfl (l_ ?_));try simp only[if_true]
 refine a_ (gx ?_);refine a_ (Zi u rfl (x:=.ref to) rfl ?_);refine a_ (GE u wn λY n j=>?_);replace n:f7 Y z ti to .ellipsis:=n;refine a_ ?_;simp only[pi,qB,ZZ,F7];refine a_ (a_ (iN ?_));show ay _ _ (bi (.ref i1) >>= _) _ _ _;have y:∀{i:Nat} {h h':ci} {c:af},S1 i h->cE c h h'->c∉f1->S1 i h':=λst J f=>I.frame _ _ _ st λb p o e=>(J.2 b λq=>f (q▸p)).trans e;have t:∀{i:Nat} {h h':ci} {c:af},S2 i h->cE c h h'->c∉f2->S2 i h':=λst J f=>M.frame _ _ _ st λb p o e=>(J.2 b λq=>f (q▸p)).trans e;rcases S with rfl | ⟨R,rfl⟩
 .refine a_ (I.done _ _ _ (y N j D.n1.1) λp e d ⟨K,g,m⟩=>?_);have B:f7 p z ti to .ellipsis:=d z _ (a7 D.i1z) n;have r:e≠z:=λx=>by subst x;rw[B] at g;cases g;simp at m
  refine GE B wn λH _ l=>O H e _ (λc o f x=>?_) ⟨K,(l.2 e r).trans g,m⟩;simp only[y_,YJ,AJ,not_or] at f;exact (l.2 c f.1).trans (d c _ f.2.2.1 ((j.2 c f.1).trans x))
 refine a_ (I.item k _ _ _ R (y N j D.n1.1) λx p tb px W d=>l_ ?_);have v:c9 p to a b:=(d.2 to (a7 D.i1to)).trans ((j.2 to D.ne.2.1).trans X);refine a_ (Zv v rfl ?_);refine a_ (fb v λH U l=>?_);refine a_ (kH (l_ ?_));refine a_ (a_ (iN ?_));show ay _ _ (bi (.ref i2) >>= _) _ _ _;have L:S2 k H:=t (t (t T j D.n2.1) d D.n2.2.2.2) l D.n2.2.2.1;refine a_ (M.done _ _ _ L λV e F ⟨K,g,m⟩=>?_);have G:f7 V z ti to .ellipsis:=F z _ (a7 D.i2z) ((l.2 z (a7 D.ne.2.1)).trans ((d.2 z (a7 D.i1z)).trans n));have r:e≠z:=λx=>by subst x;rw[G] at g;cases g;simp at m
 refine GE G wn λP _ C=>O P e _ (λc o f x=>?_) ⟨K,(C.2 e r).trans g,m⟩;simp only[y_,YJ,AJ,not_or] at f;exact (C.2 c f.1).trans (F c _ f.2.2.2 ((l.2 c f.2.1).trans ((d.2 c f.2.2.1).trans ((j.2 c f.1).trans x))))
theorem Jv (i:kB prog w A.in1 i1 f1 n1 P1 S1) (p:kB prog w A.in1 i2 f2 n2 P2 S2) (D:AM z ti to i1 i2 f1 f2) (d:f7 s.heap z ti to .none) (H:c9 s.heap ti (.ref i1) (.ref i2)) (G:c9 s.heap to a b) (q:S1 k s.heap) (t:S2 k s.heap) (l:k<n1) (u:k<n2) (m:∀x y h' tk,P1 k x->P2 k y->f7 h' z ti to (mE s.heap.objs.size)->c9 h' to x y->S1 (k+1) h'->S2 (k+1) h'->c9 h' s.heap.objs.size x y->h'.objs.size=s.heap.objs.size+1 ->
   (∀c o,c∉[z,to,i1,i2]->s.heap.get? c=ab o->h'.get? c=ab o)->Q (ab (.ref s.heap.objs.size)) { s with heap:=h',toks:=tk}):ay (aT prog w) A (kM (.ref z)) Q E s:=by
 have e:s.TypeIs (.ref z) "zip":=⟨_,d,rfl⟩;unfold kM;exact a_ (sB (Zt (name:=dE "__next__") e fA
  (Zk fA e p9 (Fm i p D d H G q t l u λx y h' tk v r g j f n C B h=>l_ (m x y h' tk v r g j f n C B h)) (om _))))
theorem DK (j:kB prog w A.in1 i1 f1 n1 P1 S1) (m:kB prog w A.in1 i2 f2 n2 P2 S2) (D:AM z ti to i1 i2 f1 f2) (f:f7 s.heap z ti to .none) (h:c9 s.heap ti (.ref i1) (.ref i2)) (n:c9 s.heap to a b) (t:S1 k s.heap) (q:S2 k s.heap) (p:k=n1\/(k<n1/\k=n2)) (r:∀h' tk,(∀c o,c∉[z,to,i1,i2]->s.heap.get? c=ab o->h'.get? c=ab o)->Q ag { s with heap:=h',toks:=tk}):ay (aT prog w) A (kM (.ref z)) Q E s:=by
 have d:s.TypeIs (.ref z) "zip":=⟨_,f,rfl⟩;unfold kM;refine a_ (sB (Zt (name:=dE "__next__") d fA
  (Zk fA d p9 (HZ j m D f h n t q p λh' e tk g ⟨o,i,l⟩=>?_) (om _))))
 refine a_ (IF (T:="StopIteration") (b:=ai) ⟨o,i,l⟩ isSubtype_stop ?_);exact l_ (r _ _ g)
abbrev Mm (t:af):dQ:={ cls:=.type "tuple_iterator",data:=.fields #[.ref t,.int 0 0]}
theorem Qy (g:A.handled=ag) (it t:af) (c:t≠it) (a:Array aw) (k:Nat) (b:a[k]?=ag):
  kB prog w A it [it,t] k (λ_ _=>True) (λi h=>i=k/\h.IsTupleIter it t i/\h.IsTuple t a) where
 live:=λ_ _ st=>let ⟨o,ho,_⟩:=st.2.1;⟨o,ho⟩
 frame:=λ_ _ _ st b=>⟨st.1,st.2.1.at λo e=>b it wn o e,st.2.2.at λo e=>b t wn o e⟩
 item:=λi s Q E f st j=>wT st.1 (L_ f)
 done:=λs Q E st d=>DG g st.2.1 st.2.2 b d
section
variable {X:Cx}{P8:List (af × dQ)}{Z:L2.St}
theorem ye {ch:List af} (I:Inv X P8 Z H s) (k:∀b o,b∉ch->s.heap.get? b=ab o->h'.get? b=ab o) (f:∀b∈ch,lY X P8 H b):Inv X P8 Z H { s with heap:=h',toks:=t'}:=by
 have d:∀b u,H b=ab u->b∉ch:=λb u e z=>by rw[(f b z).1] at e;cases e
 refine I.step (g':=s.gens) (d':=s.drawn) (ch:=ch) (λb l=>?_) (λb o _ _ a e _=>k b o a e) (λb o _ _ a e _=>⟨o.slots,k b o a e⟩) (λ_ _ _ _ n=>n)
  (λb o a e=>⟨o,k b o a e⟩) (λ_ _ e=>e) (λ_ _ _ e=>e) (λb ps e=>⟨#[],by rw[e];simp⟩) (λm h=>?_) (λb u e=>?_) I.bare
 .obtain⟨_,w,_,g,p,i⟩:=f b l;exact⟨g,w,p,i⟩
 .obtain⟨o,t,ep,j,r⟩:=h;exact⟨o,t,ep,k _ o (λz=>(f _ z).2.1 rfl) j,r⟩
 refine (I.hok b u e).stay (λc v a q=>k c v ?_ q) (λ_ q=>q) λ_ _ q=>q;rcases a with z | z
 .rw[z];exact d b u e
 exact d c _ z
end
theorem EO {x p q:af}(b:x≠p) (a:x≠q):x∉[p,q]:=λh=>by
 rcases y_.mp h with e | e
 .exact b e
 exact a (j_.mp e)
theorem Oy (c:a<d/\b<d) (h:d<e) (m:e<f) (j:f<g) (k:g<z):AM z f g d e [d,a] [e,b] :=
 have l:d<f:=YX h m
 have i:d<g:=YX l j
 have n:d<z:=YX i k
 have o:e<g:=YX m j
 have q:e<z:=YX o k
 have p:f<z:=YX j k
 ⟨⟨L_ p,L_ k,L_ j,L_ h⟩,A_,A_,
  ⟨EO (YT n) (YT (YX c.1 n)),EO (YT l) (YT (YX c.1 l)),EO (YT i) (YT (YX c.1 i)),EO (YT h) (YT (YX c.1 h))⟩,
  ⟨EO (YT q) (YT (YX c.2 n)),EO (YT m) (YT (YX c.2 l)),EO (YT o) (YT (YX c.2 i)),EO (L_ h) (YT c.2)⟩⟩
def gh:List T->List T->List T
 |x::xs,y::ys=>.tup [x,y]::gh xs ys
 |_,_=>[]
theorem tu:∀(xs a:List T) (i:Nat),(gh xs a)[i]?=(match xs[i]?,a[i]? with
  |some x,ab y=>ab (.tup [x,y])
  |_,_=>ag)
 |[],a,i=>by simp [gh]
 |x::xs,[],i=>by
  simp only[gh,List.getElem?_nil]
  cases (x::xs)[i]? <;> rfl
 |x::xs,y::a,0=>by simp [gh]
 |x::xs,y::a,i+1=>by simp only[gh,Ze];exact tu xs a i
theorem tD:∀(xs a:List T),(gh xs a).length=min xs.length a.length
 |[],a=>by simp [gh]
 |x::xs,[]=>by simp [gh]
 |x::xs,y::a=>by simp [gh,tD xs a]
theorem DN:a8 "zip"=ab (.type "zip"):=by decide +kernel
theorem lA {p:Type} (m l f:p->T) (e:List p) (wq:xv) (j:still H) (s:e.length<=av) (q:∀a∈e,∀Q:wv,Q (f a) H->te (ab (m a)::ab (l a)::wq) H Q) (i:h (e.map f) H):
  Bz (xO 2 (qu (jx 0) (qu (jx 1) CG))) xQ te still h (e.map λa=>.tup [m a,l a]) [] (v::u::wq) H:=by
 refine mU (λr o Z n=>∃(d g:List p) (v u:Option T),Z=v::u::wq/\r=d.map (λa=>.tup [m a,l a])/\o=g.map f/\g++d=e/\n=H) ⟨e,[],v,u,rfl,rfl,rfl,rfl,rfl⟩ ?_ ?_
 .rintro o Z n ⟨d,g,v,u,rfl,c,rfl,b,rfl⟩;have k:d=[]:=GU.mp c.symm;subst k;rw[YH] at b;subst b;exact⟨j,by rw[g_];exact s,i⟩
 rintro x r o Z n N ⟨d,g,v,u,rfl,c,rfl,b,rfl⟩ w;cases d with
 |nil=>cases c
 |cons t d =>
 injection c with a1 a2;subst a1 a2;refine⟨j,rfl,?_⟩;show te (ab (m t)::ab (l t)::wq) n _;refine q t (by rw[<- b];simp) _ ⟨?_,w _ _ _ ⟨d,g++[t],_,_,rfl,rfl,wn,by rw[<- b];simp,rfl⟩⟩;have:=YB a5 b;simp only[b_,n_] at this;rw[g_];omega
theorem vR (x:ap):zd "str" (.str x) H=ab ai:=rfl
theorem vU (x:Int):zd "str" (.int x) H=ab am:=rfl
theorem vV (x:List T):zd "str" (.tup x) H=ab am:=rfl
theorem Af (x:Bool):zd "str" (.bl x) H=ab am:=rfl
theorem vW  : zd "str" (.non) H=ab am:=rfl
theorem vX (x:ap):zd "int" (.str x) H=ab am:=rfl
theorem vY (x:Int):zd "int" (.int x) H=ab ai:=rfl
theorem vZ (x:List T):zd "int" (.tup x) H=ab am:=rfl
theorem Ag (x:Bool):zd "int" (.bl x) H=ab ai:=rfl
theorem wg  : zd "int" (.non) H=ab am:=rfl
theorem Jw (x:T):Di [x,.ty "bool"] H Q=oq (zd "bool" x H) λb=>Q (.bl b) H:=by rw[Vi];exact propext ⟨λh=>h.2,λh=>⟨wn,h⟩⟩
theorem tE (x:ap):zd "bool" (.str x) H=ab am:=rfl
theorem tG (x:Int):zd "bool" (.int x) H=ab am:=rfl
theorem tH (x:List T):zd "bool" (.tup x) H=ab am:=rfl
theorem wj (x:Bool):zd "bool" (.bl x) H=ab ai:=rfl
theorem tK  : zd "bool" (.non) H=ab am:=rfl
theorem qI (x:ap):zd "tuple" (.str x) H=ab am:=rfl
theorem qJ (x:Int):zd "tuple" (.int x) H=ab am:=rfl
theorem qK (x:List T):zd "tuple" (.tup x) H=ab ai:=rfl
theorem tL (x:Bool):zd "tuple" (.bl x) H=ab am:=rfl
theorem qL  : zd "tuple" (.non) H=ab am:=rfl
theorem tM (x:ap):zd "list" (.str x) H=ab am:=rfl
theorem tO (x:Int):zd "list" (.int x) H=ab am:=rfl
theorem tQ (x:List T):zd "list" (.tup x) H=ab am:=rfl
theorem wu (x:Bool):zd "list" (.bl x) H=ab am:=rfl
theorem tR  : zd "list" (.non) H=ab am:=rfl
open L2 PySem.Builtin PySem.Builtin.Str
def Na (x:T) (H:gV) (Q:wv):Prop:=match x with
 |.int i=>Q (.int (-i)) H
 |_=>False
def Mp (a:wE):wE:=λZ H Q=>a Z H λx b=>Na x b Q
theorem Vz (a:wE) {Z:xv}{H:gV}{Q:wv}:Mp a Z H Q=a Z H λx b=>Na x b Q:=rfl
theorem VB (i:Int) {H:gV}{Q:wv}:Na (.int i) H Q=Q (.int (-i)) H:=rfl
theorem qM (g:wP X a ta):wP X (.UnaryOp .USub a P9) (Mp ta):=by
 refine PE.imp (TQ O1 g) ?_;rintro Z H Q ⟨j,H3,Q3,f,e,h,k⟩;refine⟨j,H3,_,f,e,h,λv l t d c b r q=>?_⟩;cases t with
 |int i=>exact⟨i,r.int,k _ _ _ _ c b .ofInt q⟩
 |_=>exact q.elim
theorem kj:d7 X (bt .LShift) (FB HH λi j=>.int (i*2^j.toNat)):=CV OD λ_ _ _=>.ofInt
def LP (o:Option O3) (H:gV) (Q:wv):Prop:=match o with
 |some (.lst xs)=>oq (bV xs) λa=>Q (.bl (a.any id)) H
 |some (.rol xs)=>oq (bV xs) λa=>Q (.bl (a.any id)) H
 |_=>False
def Mq:List T->gV->wv->Prop:=λts H Q=>match ts with
 |[.ref a]=>LP (H a) H Q
 |_=>False
theorem VD (a:af):Mq [.ref a] H Q=LP (H a) H Q:=rfl
theorem VF (xs:List T):LP (ab (.lst xs)) H Q=oq (bV xs) λa=>Q (.bl (a.any id)) H:=rfl
theorem Cn (c:List Bool):(ax c.length).any (λi=>c.getD i ai)=c.any id:=by
 rw[Yx,Z5,Z5];constructor
 .rintro⟨i,d,h⟩;have a:=T_.mp d;refine⟨c[i],YZ a,?_⟩;simpa [i8,a] using h
 rintro⟨b,e,h⟩;obtain⟨i,d,rfl⟩:=LU.mp e;refine⟨i,T_.mpr d,?_⟩;simpa [i8,d] using h
theorem Qz (L:X.calm=ai):dC X (.builtin "any") Mq:=by
 intro t s Z H xs us Q I N h;obtain⟨ts,H3,Q3,r,F,h,k⟩:=h
 match ts,h,r with
 |[.ref a],h,r =>
 obtain⟨v,rfl,B⟩:=r.one';obtain⟨u,rfl,G⟩:=xz N;rw[B.ref] at G;cases G;have f:∀{j:List T} {m:List V},y8 X.K H a m->ql X.K H j m->oq (bV j) (λd=>Q3 (.bl (d.any id)) H3)->ay (aT X.prog X.w) X.A (jS (.builtin "any") [.ref a]) (EP X t Z Q) X.xe s:=by
  intro j m l p q;cases e:bV j with
  |none=>rw[e] at q;exact q.elim
  |some d =>
  rw[e] at q;obtain⟨R,y,D,_⟩:=I.list l;have O:=iK e p y;subst O;have E:a≠s.heap.objs.size:=λz=>by obtain⟨o,n,g,_⟩:=D;have:=F_ g;rw[z] at this;exact YQ _ this
  refine call_any_walk (JO D.isList ?_);refine⟨s.heap.objs.size,_,_,_,_,_,λi=>d.getD i ai,rfl,Walks.list (A:=X.A.in1) (I.ok.hd L) s.heap.objs.size a E (d.map c8).toArray,⟨⟨_,E_ _ rfl,rfl,rfl⟩,D.isList.push _⟩,λi v s' U S P C=>?_,λh' tk M=>?_⟩
  .have c:(d.map c8)[i]?=ab v:=by simpa using P
   rw[C_] at c;cases x:d[i]? with
   |none=>rw[x] at c;cases c
   |some b =>
   rw[x] at c;cases c;have:d.getD i ai=b:=by simp [i8,x]
   dsimp only at C;rw[this] at C;exact Zg C
  have J:(d.map c8).toArray.size=d.length:=wn
  rw[J,Cn];refine⟨.bl (d.any id),H,I.kept λb o e=>M b o (λz=>?_) (e_ _ e),rfl,k _ _ _ _ .refl F .ofBl q⟩;have:=F_ e;rw[j_.mp z] at this;exact YQ _ this
 have h':LP (H3 a) H3 Q3:=h;cases g:H3 a with
 |none=>rw[g] at h';exact h'.elim
 |some o =>
 rw[g] at h';cases o with
 |lst j=>obtain⟨m,l,p⟩:=F.sqL (.inl g);exact f l p h'
 |rol j=>obtain⟨m,l,p⟩:=F.sqL (.inr g);exact f l p h'
 |_=>exact h'.elim
def DP:List T->gV->wv->Prop:=λts H Q=>match ts with
 |[.int i,.int j]=>Q (.int (if j>i then j else i)) H
 |_=>False
def DQ:List T->gV->wv->Prop:=λts H Q=>match ts with
 |[.int i,.int j]=>Q (.int (if j<i then j else i)) H
 |_=>False
theorem QB (i j:Int):DP [.int i,.int j] H Q=Q (.int (if j>i then j else i)) H:=rfl
theorem QC (i j:Int):DQ [.int i,.int j] H Q=Q (.int (if j<i then j else i)) H:=rfl
theorem yf (g:X.calm=ai):dC X (.builtin "max") DP:=by
 intro c s Z H xs us Q I e h;obtain⟨ts,H3,Q3,r,l,h,k⟩:=h
 match ts,h,r with
 |[.int i,.int j],h,r =>
 obtain⟨v,q,rfl,f,d⟩:=r.two';obtain⟨p,o,rfl,b,a⟩:=Dx e;rw[f.int] at b;rw[d.int] at a;obtain⟨t,rfl⟩:=b;obtain⟨n,rfl⟩:=a;refine max_two_ints (I.ok.hd g) λh' tk m=>?_;refine⟨.int (if j>i then j else i),H,I.kept m,?_,k _ _ _ _ .refl l .ofInt h⟩;by_cases z:j>i
 .rw[we z,we z];exact⟨_,rfl⟩
 rw[wc z,wc z];exact⟨_,rfl⟩
theorem Jx (g:X.calm=ai):dC X (.builtin "min") DQ:=by
 intro c s Z H xs us Q I e h;obtain⟨ts,H3,Q3,r,l,h,k⟩:=h
 match ts,h,r with
 |[.int i,.int j],h,r =>
 obtain⟨v,q,rfl,f,d⟩:=r.two';obtain⟨p,o,rfl,b,a⟩:=Dx e;rw[f.int] at b;rw[d.int] at a;obtain⟨t,rfl⟩:=b;obtain⟨n,rfl⟩:=a;refine min_two_ints (I.ok.hd g) λh' tk m=>?_;refine⟨.int (if j<i then j else i),H,I.kept m,?_,k _ _ _ _ .refl l .ofInt h⟩;by_cases z:j<i
 .rw[we z,we z];exact⟨_,rfl⟩
 rw[wc z,wc z];exact⟨_,rfl⟩
theorem gK:d7 X (bt .BitAnd) (qC λi j=>.int (a3 i j)):=mO OJ λ_ _ _=>.ofInt
theorem yg:d7 X (bt .BitOr) (qC λi j=>.int (cr i j)):=mO TV λ_ _ _=>.ofInt
theorem jC:a8 "max"=ab (.builtin "max"):=by decide +kernel
theorem QD:a8 "min"=ab (.builtin "min"):=by decide +kernel
theorem aX {N P:List ap}{h:Scope}(a:h.kind=.function:=by rfl) (b:h.isCoroutine=am:=by rfl) (c:h.isGenerator=am:=by rfl) (d:N.Nodup:=by decide +kernel) (e:N.take P.length=P:=by rfl)
 (f:∀x∈P,h.names.lookup x=ab .local\/h.names.lookup x=ab .cell:=by decide +kernel) (g:∀y∈h.names,y.2≠.free:=by decide +kernel):fY N P h:=⟨a,b,c,d,e,f,g⟩
theorem lK {p:Prop} [Decidable p] (h:¬p):¬(decide p=ai) := λe=>h (Zq e)
theorem EE (h:H a=ab u) (b:H q=ag):eH H q o a=ab u := by rw[aH (bF h b)];exact h
structure Z1 (P:br) (w:bb) (K:a6) (mg:ap->Option aw) (base:ci) (k:Nat) (x:ap) (st:ef) (ps:List ap) (sp:xi):Prop where
 ex:∃(f:af) (fd:dk),G3 K mg x st ps f fd/\lz P w K mg base k f fd ps sp
theorem DR {st:ef}{p a:mi} (D:Z1 X.prog X.w X.K X.mg X.base k x st ps sp) (n:zc k X.A) (l:Gl X x) (i:A5 X (e::c) t) (h:(x==("__debug__":ap))=am:=by decide) (j:aE (e::c) X.env=(am,bP e X.env)::aE c X.env:=by rfl) (d:(cv a (aE c X.env)).any (·.1)=am:=by rfl):
  wP X (.Call (.Name x p) (e::c) [] a) (qz sp t):=by
 obtain⟨f,o,g,F⟩:=D.ex;exact Jc F n l g.m g.fn.kp g.b i h j d
theorem aN {st:ef}{p a:mi} (D:Z1 X.prog X.w X.K X.mg X.base k x st ps sp) (l:zc j X.A) (i:Gl X x) (f:A5 X (e::b) t) (g:k<=j:=by decide) (d:(x==("__debug__":ap))=am:=by decide) (h:aE (e::b) X.env=(am,bP e X.env)::aE b X.env:=by rfl) (c:(cv a (aE b X.env)).any (·.1)=am:=by rfl):wP X (.Call (.Name x p) (e::b) [] a) (qz sp t):=DR D (l.mono g) i f d h c
def MA (o:Option O3) (k:Int) (H:gV) (Q:wv):Prop:=match o with
 |some (.lst xs)=>(-(2^63)<=k/\k<2^63/\xs.length*k.toNat<=av)/\∀p,H p=ag->Q (.ref p) (eH H p (.lst (aS k.toNat xs).flatten))
 |_=>False
def Mr:R3:=λx y H Q=>match x,y with
 |.ref a,.int k=>MA (H a) k H Q
 |_,_=>False
theorem Ms (a:af) (k:Int) (H:gV) (Q:wv):Mr (.ref a) (.int k) H Q=MA (H a) k H Q:=rfl
theorem Mt (xs:List T) (k:Int) (H:gV) (Q:wv):MA (ab (.lst xs)) k H Q=((-(2^63)<=k/\k<2^63/\xs.length*k.toNat<=av)/\∀p,H p=ag->Q (.ref p) (eH H p (.lst (aS k.toNat xs).flatten))):=rfl
def ql.rep {K:a6} (r:ql K H ts vs):∀k:Nat,ql K H (aS k ts).flatten (aS k vs).flatten
 |0=>.nil
 |k+1=>by rw[Zc,Zc,ZQ,ZQ];exact r.append (ql.rep r k)
theorem DW:d7 X (bt .Mult) Mr:=by
 refine xB.imp Pj ?_;rintro x y H Q ⟨f,l,H3,Q3,j,m,c,h,k⟩;cases f with
 |ref a =>
  cases l with
  |int n =>
   rw[Ms] at h;cases e:H3 a with
   |none=>rw[e] at h;exact h.elim
   |some o =>
   rw[e] at h;cases o with
   |lst xs=>rw[Mt] at h;obtain⟨vs,i,d⟩:=c a _ e;obtain⟨⟨r,q,g⟩,h'⟩:=h;refine⟨a,n,vs,j.ref,m.int,i,r,q,by rw[<- d.length];exact g,λp b=>?_⟩;exact k _ _ _ _ (aQ b) (c.newLst b (d.rep n.toNat)) .ofRef (h' p (c.fresh b))
   |_=>exact h.elim
  |_=>exact h.elim
 |_=>exact h.elim
theorem P6:Slot "list_reverseiterator" "__length_hint__" "list_reverseiterator.__length_hint__":=.of (owner:="list_reverseiterator") (n:="__length_hint__") (by rw[ku,eT];kernel_rfl) xo xo xo
 (by first | exact .inr xo | exact .inl xo) (by rw[rS];kernel_rfl)
theorem DX:mx (.type "list_reverseiterator") "__len__"=ce ag:=by rw[ku,eT];kernel_rfl
theorem QF:isSubtype (.type "list_reverseiterator") (.type "list_reverseiterator")=ce ai:=by rw[rS];kernel_rfl
theorem DY {a b:Array aw}(h:rc (λi v=>a[a.size - 1 - i]?=ab v) b a.size):b=a.reverse:=by
 refine Array.ext (by rw[h.1];simp) λj c e=>?_;have q:a[a.size - 1 - j]?=ab b[j]:=h.2 j b[j] (Ll c);have d:j<a.size:=by rw[<- h.1];exact c
 rw[Ll uS] at q;rw[Array.getElem_reverse];exact (P_ q).symm
theorem Ah (G:A.handled=ag) (x:l≠I) (hsz:c.size<=av) (p:S∉[I,l]) (j:s.heap.IsRevIter I l ((c.size:Int) - 1)) (y:s.heap.IsList l c) (D:s.heap.get? S=ab { cls:=.type "list",data:=.seq #[] o}) (z:∀s' d k,Moved (S::[I]) (λa b=>b=a) s s'->s'.heap.get? S=ab { cls:=.type "list",dict:=ag,data:=.seq d k,slots:=#[]}->rc (λi v=>c[c.size - 1 - i]?=ab v) d c.size->R (.ok (.ret n)) s'):
  ay (aT prog w) A.in1 (ca (.ref S) (.ref I) n)
   (λr s'=>match r with | .done f=>R (.ok f) s' | .again k=>k.quiet=ai/\eJ (aT prog w) A k R s') (λe s'=>R (.error e) s') s:=by
 have W:=(Walks.listRev (prog:=prog) (w:=w) (A:=A.in1) G I l x c).toS;have t:S≠I:=λe=>p (e▸A_);have st:(λ(i:Nat) (s:aI)=>i<=c.size/\s.heap.IsRevIter I l ((c.size:Int) - 1 - (i:Int))/\s.heap.IsList l c) 0 s:=⟨Y5 _,by simpa using j,y⟩;have g:s.TypeIs (.ref I) "list_reverseiterator":=j.typeIs;unfold ca;refine a_ (FL g ?_);have C:i5 (.ref S) (.ref I)=am:=by simp [i5,t]
 have H:(ev "list_reverseiterator"==ev "list")=am:=by decide
 have E:(ev "list_reverseiterator"==ev "tuple")=am:=by decide
 simp only[C,H,E,mr,v_,V_];refine a_ (fe j ?_);refine a_ (Zx ?_);unfold Builtin.List.listLengthHint;refine a_ (Fc g DX ?_);show ay _ A.in1 (specialOf (a4 I) (dE "__length_hint__") >>= _) _ _ _;refine a_ (Fc g P6.lookup ?_);generalize h:("list_reverseiterator.__length_hint__":String)=q
 (fail_if_success (clear h q))
 wp_delta
 rw[show splitId q=ab ("list_reverseiterator","__length_hint__") from by subst h;decide +kernel];subst h;refine a_ (IF (b:=ai) g QF ?_);rw[wc (show ¬(!ai)=ai from K_)];dsimp only;rw[we xo];rw[wc (show ¬((i3 "list_reverseiterator.__length_hint__"==i3 "range_iterator.__length_hint__")=ai) from vS)];refine l_ ?_;try rw[wc K_]
 refine l_ ⟨me F.plain_extend_loop _,?_⟩;exact codeAny_extend_loopS W hsz _ p _ c.size 0 _ _ _ rfl (Y5 _) st D (ItemsOf.nil _) λs' d k B u m=>z s' d k B u m
theorem Jy (J:A.handled=ag) (x:l≠I) (hsz:d.size<=av) (j:S∉[I,l]) (z:s.heap.IsRevIter I l ((d.size:Int) - 1)) (B:s.heap.IsList l d) (y:s.heap.get? S=ab { cls:=.type "list",data:=.seq #[]}) (C:∀s' g n,Moved (S::[I]) (λa b=>b=a) s s'->s'.heap.get? S=ab { cls:=.type "list",dict:=ag,data:=.seq g n,slots:=#[]}->rc (λi v=>d[d.size - 1 - i]?=ab v) g d.size->R (.ok (.ret .none)) s'):
  ay (aT prog w) A.in1 (et.«list.__init__» ⟨[.ref S,.ref I],[]⟩)
   (λq s'=>match q with | .done f=>R (.ok f) s' | .again n=>n.quiet=ai/\eJ (aT prog w) A n R s') (λe s'=>R (.error e) s') s:=by
 show ay _ A.in1 (do let t <- ki (.ref S);ja (.ref S) (λ_=>#[]);letGo t.toList.reverse;ca (.ref S) (.ref I) .none) _ _ s;refine a_ ?_;unfold ki;refine a_ (Zv y rfl (l_ ?_));show ay _ A.in1 (updateSeq S (λ_=>#[]) >>= λ_=>letGo (#[]:Array aw).toList.reverse >>= λ_=>ca (.ref S) (.ref I) .none) _ _ s;refine a_ (wpAny_updateSeq y rfl ?_);have m:=eW (bS (λ_=>(#[]:Array aw))) y rfl;have k:∀b o,b≠S->s.heap.get? b=ab o->(s.heap.update S (bS (λ_=>(#[]:Array aw)))).get? b=ab o :=
  λb o r e=>(LJ _ _ (a7 r)).trans e
 refine a_ (kH ?_);have K:I≠S:=λe=>j (by simp [e]);have D:l≠S:=λe=>j (by simp [e]);refine Ah J x hsz j (z.at λo e=>k _ o K e) (B.at λo e=>k _ o D e) m λs' g n F u p=>?_;exact C s' g n (Moved.trans (G:=λa b=>b=a) (λa b c E H=>H.trans E) ((Moved.refl (G:=λa b=>b=a) λ_=>rfl).then_heap (u_ _) λb o r e=>k b o (λh=>r (h▸A_)) e) F) u p
theorem oK (z:A.handled=ag) (r:l≠I) (hsz:c.size<=av) (k:s.heap.IsRevIter I l ((c.size:Int) - 1)) (v:s.heap.IsList l c) (y:∀s' t,Moved (s.heap.objs.size::[I]) (λa b=>b=a) { s with heap:=s.heap.push { cls:=.type "list",data:=.seq #[]}} s' ->
   s'.heap.get? s.heap.objs.size=ab { cls:=.type "list",dict:=ag,data:=.seq c.reverse t,slots:=#[]}->Q (.ref s.heap.objs.size) s'):
  ay (aT prog w) A (jS (.type "list") [.ref I]) Q E s:=by
 have h:I<s.heap.objs.size:=by obtain⟨o,n,_⟩:=k;exact F_ n
 have g:l<s.heap.objs.size:=by obtain⟨o,n,_⟩:=v;exact F_ n
 have m:s.heap.objs.size∉[I,l]:=λq=>by
  rcases y_.mp q with e | e
  .rw[<- e] at h;exact YQ _ h
  rw[<- j_.mp e] at g;exact YQ _ g
 refine r4 (Q₁:=λi d=>i=.ref s.heap.objs.size/\d={ s with heap:=s.heap.push { cls:=.type "list",data:=.seq #[]}}) F.called_list (F.typeCall_list_1 _) F.entry_list_init
  (code_list_new _ ⟨rfl,rfl⟩) λi d j=>?_
 obtain⟨rfl,rfl⟩:=j;have x:(s.heap.push { cls:=.type "list",data:=.seq #[]}).get? s.heap.objs.size=ab { cls:=.type "list",data:=.seq #[]}:=E_ _ rfl;refine⟨⟨_,x,rfl⟩,F.args_list_init_2 _ _,Jy (A:=A.in1) z r hsz m (k.at λo e=>e_ _ e) (v.at λo e=>e_ _ e) x λs' u t q p f=>?_⟩;refine⟨rfl,y s' t q ?_⟩;rw[<- DY f];exact p
def Mo (K:a6) (a:af) (n:Nat):It :=
 ⟨λi H=>∃xs x,y8 K H a xs/\xs.length=n/\i<n/\xs[n - 1 - i]?=ab x,λi H x b=>b=H/\∀xs,y8 K H a xs->xs[n - 1 - i]?=ab x,λi _=>n<=i⟩
theorem Ea {K:a6} (a it:af) (n:Nat):BO P w K tg (Mo K a n) [it] it (λi h=>i<=n/\h.IsRevIter it a ((n:Int) - 1 - (i:Int))) where
 mem:=by simp
 obj:=λi h st b g=>by
  have e:b=it:=by simpa using g
  subst e
  obtain⟨_,o,e,c,d⟩:=st
  exact⟨o,e,λv z=>by rw[d] at z;cases z⟩
 keep:=λi h h' st k=>⟨st.1,st.2.at λo e=>k it wn o e⟩
 item:=by
  intro X t q A F i f s Z H E I l st D
  subst t q A
  obtain⟨xs,x,G,hn,Y,J⟩:=D
  obtain⟨its,V,p,hz⟩:=I.list G
  obtain⟨u,W,Q⟩:=V.get J
  obtain⟨C,y,f2,r,B,m⟩:=l it wn
  have e:(n:Int) - 1 - (i:Int)=((n - 1 - i:Nat):Int):=uS
  obtain⟨_,st⟩:=st
  rw[e] at st
  refine wpAny_pyNext_rev_item st p.isList (x:=u) (by simpa using W) λh' j U=>?_
  have T:Inv X f Z H { s with heap:=h'}:=I.turned (t':=s.toks) (λb o g e=>(U.2 b g).trans e) C y r B m
  obtain⟨o,O,c,d⟩:=id j
  have S:((n - 1 - i:Nat):Int) - 1=(n:Int) - 1 - ((i+1:Nat):Int):=uS
  rw[S] at j
  exact⟨u,rfl,xF (s:={ s with heap:=h'}) O c d vS ⟨x,H,T,Q,⟨rfl,λys L=>by rw[I.list_inj L G];exact J⟩,⟨Y,j⟩,λb g=>(l b g).1⟩⟩
 done:=by
  intro X t q A F i f s Z H E I l st D
  subst t q A
  obtain⟨C,y,f2,r,B,m⟩:=l it wn
  obtain⟨R,st⟩:=st
  have M:n<=i:=D
  have e:(n:Int) - 1 - (i:Int) = -1:=uS
  rw[e] at st
  exact wpAny_pyNext_rev_end (I.ok.hd F) st λh' N=>⟨rfl,I.turned (t':=s.toks) (λb o g e=>N b o g e) C y r B m⟩
 self:=λ_ _ _ _ _ st h=>fe st.2 h
theorem lB:a8 "reversed"=ab (.type "reversed"):=by decide +kernel
section
variable {X:Cx}{tg e:Expr}{p p1 p2 P9 QA:mi}
def Yh (K:a6) (te:TE):TI:=λZ H R=>te Z H λx b=>∃a xs,x=.ref a/\y8 K b a xs/\R (Mo K a xs.length) b
theorem QG (C:Gl X "reversed") (A:X.mg "reversed"=ag) (n:PE X e te) (l:aE [e] X.env=(am,bP e X.env)::aE [] X.env:=by rfl) (i:(cv P9 (aE [] X.env)).any (·.1)=am:=by rfl):
  PI X tg (.Call (.Name "reversed" p) [e] [] P9) (Yh X.K te):=by
 intro f s Z H R I h;refine FV (gY I C A lB ?_ vS vS);refine Za ?_ l i;rw[l];show ay _ _ (rb ((am,bP e X.env)::cv P9 (aE [] X.env))) _ _ s;refine KP (wx (n f s Z H _ I h) λu c ⟨x,z,g,B,a,xs,t,v,q⟩=>?_);subst t;cases B;refine LM ?_;obtain⟨j,y,w,D⟩:=g.list v;have d:=y.length;refine mN w.isList ?_;have m:((j.toArray.size:Nat):Int) - 1=(xs.length:Int) - 1:=by simp [d]
 rw[m];have k:(c.heap.push (tP a ((xs.length:Int) - 1))).IsRevIter c.heap.objs.size a ((xs.length:Int) - 1):=⟨_,E_ _ rfl,rfl,rfl⟩;refine fe k ?_;refine⟨c.heap.objs.size,[c.heap.objs.size],_,_,z,rfl,g.kept (t':=c.toks) λb o e=>e_ _ e,Ea a c.heap.objs.size xs.length,⟨Y5 _,by simpa using k⟩,λb r=>?_,q⟩;have e:b=c.heap.objs.size:=by simpa using r
 subst e;exact g.fpOk (u_ _) (g.hok.fresh (u_ _))
def Lu (o:Option O3) (a:af) (H:gV) (R:List T->(gV->Prop)->gV->Prop):Prop:=match o with
 |some (.lst ts)=>R ts.reverse (bI a ts) H
 |_=>False
def Mu (te:wE):CU:=λZ H R=>te Z H λx b=>match x with
 |.ref a=>Lu (b a) a b R
 |_=>False
theorem Eb {K:a6}{xs:List V} (k:xs.length=ts.length):mK K (Mo K a xs.length) ts.reverse (bI a ts) H:=λq l p f st=>by
 obtain⟨d,g,c⟩:=f.sqL st;have n:=c.length;rw[k];refine⟨λi b=>by rw[Zo] at b;exact b,λi t e=>?_⟩;have b:i<ts.length:=by have:=(ZJ.mp e).1;rw[Zo] at this;exact this
 rw[kF b] at e;obtain⟨v,h,j⟩:=c.get e;refine⟨⟨d,v,g,n.symm,b,h⟩,λx o y=>?_⟩;obtain⟨m,y⟩:=y;subst m;have:=y d g;rw[h] at this;cases this;exact⟨.refl,f,j⟩
theorem QH (w:Gl X "reversed") (g:X.mg "reversed"=ag) (l:wP X e te) (x:aE [e] X.env=(am,bP e X.env)::aE [] X.env:=by rfl) (f:(cv P9 (aE [] X.env)).any (·.1)=am:=by rfl):
  C6 X tg (.Call (.Name "reversed" p) [e] [] P9) (Mu te):=by
 refine PI.imp (QG w g l x f) ?_;rintro Z H R ⟨s,H3,R3,u,m,h,k⟩;refine⟨s,H3,_,u,m,h,λv y t b i c r q=>?_⟩;cases t with
 |ref a =>
  have d:Lu (b a) a b R3:=q
  cases e:b a with
  |none=>rw[e] at d;exact d.elim
  |some o =>
   rw[e] at d
   cases o with
   |lst ts =>
    obtain⟨xs,n,j⟩:=c.sqL (.inl e)
    exact⟨a,xs,r.ref,n,k _ _ (bI a ts) y b i c (Eb j.length.symm) d⟩
   |_=>exact d.elim
 |_=>exact q.elim
def QJ (te:wE) {Z:xv}{H:gV}{R:List T->(gV->Prop)->gV->Prop}:Mu te Z H R=te Z H λx b=>match x with
 |.ref a=>Lu (b a) a b R
 |_=>False:=rfl
theorem VG (ts:List T) (a:af) (H:gV) (R:List T->(gV->Prop)->gV->Prop):Lu (ab (.lst ts)) a H R=R ts.reverse (bI a ts) H:=rfl
def QK (te:TE):TE:=λZ H Q=>te Z H λx a=>∃p b,x=.ref p/\y8 X.K a p b/\∀l,a l=ag->Q (.ref l) (wS a l (.lst b.reverse))
theorem Ec (F:X.calm=ai) (k:Gl X "list") (t:X.mg "list"=ag) (v:Gl X "reversed") (m:X.mg "reversed"=ag) (D:PE X e te) (y:aE [e] X.env=(am,bP e X.env)::aE [] X.env:=by rfl) (d:(cv P9 (aE [] X.env)).any (·.1)=am:=by rfl) (g:(cv QA (aE [] X.env)).any (·.1)=am:=by rfl):
  PE X (.Call (.Name "list" p1) [.Call (.Name "reversed" p2) [e] [] QA] [] P9) (QK (X:=X) te):=by
 intro c s Z H Q I h;refine FV (gY I k t qF ?_ vS vS);refine Za ?_ rfl d;show ay _ _ (rb ((am,bP (.Call (.Name "reversed" p2) [e] [] QA) X.env)::cv P9 (aE [] X.env))) _ _ s;refine KP ?_;refine FV (gY I v m lB ?_ vS vS);refine Za ?_ y g;rw[y];show ay _ _ (rb ((am,bP e X.env)::cv QA (aE [] X.env))) _ _ s;refine KP (wx (D c s Z H _ I h) λu s1 ⟨x,K,j,T,p,R,S,G,q⟩=>?_);subst S;cases T;obtain⟨a,A,l,E⟩:=j.list G;have C:=A.length;have hsz:a.toArray.size<=av:=by simp only[x_];omega
 refine LM ?_;refine mN l.isList ?_;refine LM ?_;have d:p<s1.heap.objs.size:=by obtain⟨o,O,_⟩:=l.isList;exact F_ O
 have r:(s1.heap.push (tP p ((a.toArray.size:Int) - 1))).IsRevIter s1.heap.objs.size p ((a.toArray.size:Int) - 1):=⟨_,E_ _ rfl,rfl,rfl⟩;refine oK (s:={ s1 with heap:=s1.heap.push (tP p ((a.toArray.size:Int) - 1))}) (j.ok.hd F) (L_ d) hsz r (l.isList.at λo e=>e_ _ e) λs' N i B=>?_;generalize n:(s1.heap.push (tP p ((a.toArray.size:Int) - 1))).objs.size=z at i B;have f:s1.heap.objs.size<z:=by rw[<- n];simp [Heap.push]
 have P:∀b u,s1.heap.get? b=ab u->s'.heap.get? b=ab u:=λb u w=>i.heap b u (λJ=>by
  have:=F_ w
  rcases y_.mp J with e | e
  ·
   rw[e] at this;exact wT (YX this f) (YQ _)
  ·
   rw[j_.mp e] at this;exact YQ _ this) (e_ _ (e_ _ w))
 have M:s'={ s1 with heap:=s'.heap,toks:=s'.toks}:=by
  obtain⟨a1,Y,V,W,U⟩:=s';have:=i.gens;have:=i.drawn;have:=i.os
  simp_all
 have L:Inv X c Z (wS K z (.lst R.reverse)) { s1 with heap:=s'.heap,toks:=s'.toks} :=
  j.laid (t':=s'.toks) P (ZC f) ⟨by rw[Zo];exact E,a.reverse,N,A.reverse,by simpa using B⟩
 rw[M];exact⟨.ref z,_,L,rfl,q _ (j.hok.fresh (ZC f))⟩
def KU (o:Option O3) (H:gV) (Q:wv):Prop:=match o with
 |some (.lst xs)=>∀p,H p=ag->Q (.ref p) (eH H p (.lst xs.reverse))
 |_=>False
def yh (te:wE):wE:=λZ H Q=>te Z H λx b=>match x with
 |.ref a=>KU (b a) b Q
 |_=>False
theorem Ed (s:X.calm=ai) (g:Gl X "list") (n:X.mg "list"=ag) (p:Gl X "reversed") (j:X.mg "reversed"=ag) (B:wP X e te) (u:aE [e] X.env=(am,bP e X.env)::aE [] X.env:=by rfl) (m:(cv P9 (aE [] X.env)).any (·.1)=am:=by rfl) (d:(cv QA (aE [] X.env)).any (·.1)=am:=by rfl):
  wP X (.Call (.Name "list" p1) [.Call (.Name "reversed" p2) [e] [] QA] [] P9) (yh te):=by
 refine PE.imp (Ec s g n p j B u m d) ?_;rintro Z H Q ⟨C,H3,Q3,A,z,h,k⟩;refine⟨C,H3,_,A,z,h,λv D t c x b r q=>?_⟩;cases t with
 |ref a =>
  have f:KU (c a) c Q3:=q
  cases e:c a with
  |none=>rw[e] at f;exact f.elim
  |some o =>
   rw[e] at f
   cases o with
   |lst ts =>
    obtain⟨xs,w,y⟩:=b.sqL (.inl e)
    exact⟨a,xs,r.ref,w,λl i=>k _ _ _ _ (x.trans (aQ i)) (b.newLst i y.reverse) .ofRef (f l (b.fresh i))⟩
   |_=>exact f.elim
 |_=>exact q.elim
def Jz (te:wE) {Z:xv}{H:gV}{Q:wv}:yh te Z H Q=te Z H λx b=>match x with
 |.ref a=>KU (b a) b Q
 |_=>False:=rfl
theorem VH (xs:List T) (H:gV) (Q:wv):KU (ab (.lst xs)) H Q=∀p,H p=ag->Q (.ref p) (eH H p (.lst xs.reverse)):=rfl
variable {Qr Qb:mi}{Ty id:String}
def Ef (c:String) (m:T->List T->gV->wv->Prop) (b:wE):wE:=λZ H Q=>b Z H λx a=>IC c x a/\m x [] a Q
theorem ww (t:nh Ty) (c:Slot Ty name id) (f:tN (.builtin id)=ce (.type "method_descriptor")) (n:vK X id m) (q:wP X o to)
  (a:dP o name X.env (bP o X.env)=bP o X.env:=by rfl) (b:(Qr.endLine==Qb.line)=ai:=by rfl) :
  wP X (.Call (.Attribute o name Qr) [] [] Qb) (Ef Ty m to):=by
 refine PE.imp (Pg t c f n q a b) ?_;rintro Z H Q ⟨s,H3,Q3,p,r,h,k⟩;exact⟨s,H3,_,p,r,h,λx u l e g d j i=>⟨LQ d j i.1,l,[],e,Q3,j,.nil,d,i.2,k.at g⟩⟩
def L6 (o:Option O3) (H:gV) (Q:wv):Prop:=match o with
 |some (.lst xs)=>oq (w9 xs) λns=>ns≠[]/\∀M,M∈ns->(∀a∈ns,a<=M)->Q (.int M) H
 |_=>False
def Eg:List T->gV->wv->Prop:=λts H Q=>match ts with
 |[.ref a]=>L6 (H a) H Q
 |_=>False
theorem Eh (a:af) (H:gV) (Q:wv):Eg [.ref a] H Q=L6 (H a) H Q:=rfl
theorem Mv (xs:List T) (H:gV) (Q:wv):L6 (ab (.lst xs)) H Q=oq (w9 xs) λns=>ns≠[]/\∀M,M∈ns->(∀a∈ns,a<=M)->Q (.int M) H:=rfl
theorem jN (B:X.calm=ai):dC X (.builtin "max") Eg:=by
 intro x s Z H xs us Q I F h;obtain⟨ts,H3,Q3,r,w,h,k⟩:=h;cases ts with
 |nil=>exact h.elim
 |cons t ts =>
 cases ts with
 |cons _ _=>cases t <;> exact h.elim
 |nil =>
 cases t with
 |ref a =>
  rw[Eh] at h;obtain⟨v,rfl,i⟩:=r.one';obtain⟨u,rfl,p⟩:=xz F;rw[i.ref] at p;cases p;cases e:H3 a with
  |none=>rw[e] at h;exact h.elim
  |some o =>
  rw[e] at h;cases o with
  |lst M =>
   rw[Mv] at h;obtain⟨O,C,L⟩:=w.sqL (.inl e);cases l:w9 M with
   |none=>rw[l] at h;exact h.elim
   |some ns =>
   rw[l,dZ] at h;obtain⟨m,h⟩:=h;obtain⟨b,g,D,_⟩:=I.list C;have q:=jz l L g;have d:AllInts b.toArray:=q.allInts;obtain⟨c,y⟩:=d.items;have n:s.heap.IsList a (intItems c):=by rw[<- y];exact D.isList
   have f:=sF c;rw[<- y,show b.toArray.toList=b from rfl,q.numsOf] at f;have A:0<c.size:=by have:=YB a5 f;simp at this;have:=List.length_pos_iff.mpr m;omega
   refine max_intList (I.ok.hd B) n A λv h' tk K E=>?_;obtain⟨t,rfl⟩:=intItems_at K;obtain⟨N,J⟩:=argBest_gt (numAt c) (c.size - 1);refine⟨.int _,H,I.kept E,⟨t,rfl⟩,k _ _ _ _ .refl w .ofInt (h _ ?_ λa z=>?_)⟩
   .rw[f,numAt_eq];exact getD_mem (by rw[g_,HC];omega)
   rw[f] at z;obtain⟨j,G,rfl⟩:=mem_getD z;rw[g_,HC] at G;rw[<- numAt_eq];exact J j uS
  |_=>exact h.elim
 |_=>cases h
end
open L2 HT
theorem jD (b:qo s.heap t a) (l:s.heap.IsSliceOf i k j .none) (pl:hG k c) (n:hG j f) (m:sIx a.size 0 c=0/\sIx a.size a.size f=a.size) (h:Q (.ref t) s):ay (aT prog w) A (eI (.ref t) (.ref i)) Q E s:=by
 obtain⟨os,g,e,o⟩:=id l;have d:s.TypeIs (.ref i) "slice":=⟨os,g,e⟩;unfold eI;try with_reducible refine Zx ?_
 first | refine a_ (l_ ?_) | skip
 refine a_ (ii b.typeIs vS ?_);refine a_ (Zt (name:=dE "__getitem__") b.typeIs YK
  (Zk YK b.typeIs fR ?_ (gS _ _)))
 show ay _ _ (c_ (.ref t) >>= _) _ _ s;refine a_ (l9 b ?_);refine a_ (FL d ?_);rw[we vS];refine a_ (gO l pl n ?_);show ay _ _ (if (((sIx a.size 0 c:Nat):Int)==0&&(1:Int)==1&&(sIx a.size a.size f - sIx a.size 0 c)==a.size)=ai then _ else _) _ _ s;rw[we (by rw[m.1,m.2];simp)];have p:=b.typeIs
 wp_walk
 exact⟨_,rfl,l_ h⟩
theorem JB:EJ X (λx f e H Q=>∃a xs,x=.ref a/\yB X.K H a xs/\(HT.sIx xs.length 0 f=0/\HT.sIx xs.length xs.length e=xs.length)/\Q (.ref a) H):=by
 intro g s Z H x v p n f e t Q I j l pl k h;obtain⟨a,xs,rfl,i,m,q⟩:=h;cases j;obtain⟨c,r,d,o⟩:=I.tuple i;have b:c.toArray.size=xs.length:=by rw[x_];exact r.length.symm
 refine⟨"tuple",_,YK.lookup,d.typeIs,?_⟩;exact jD d l pl k (by rw[b];exact m) ⟨.ref a,H,I,rfl,q⟩
def Ei:T->Option Int->Option Int->gV->wv->Prop:=λx b a H Q=>match x with
 |.tup ts=>Q (.tup (dY ts b a)) H
 |_=>False
def Mw (te:wE) (a d:DV):wE:=λZ H Q=>te Z H λx c=>a Z c λl b=>d Z b λu H3=>Ei x l u H3 Q
theorem Ej (ts:List T) (b a:Option Int) (H:gV) (Q:wv):Ei (.tup ts) b a H Q=Q (.tup (dY ts b a)) H:=rfl
theorem QL (te:wE) (a b:DV) (Z:xv) (H:gV) (Q:wv):Mw te a b Z H Q=te Z H λx d=>a Z d λl c=>b Z c λu H3=>Ei x l u H3 Q:=rfl
theorem km {B E:Option Expr}{D A:DV} (F:wP X e te) (G:FG X B D) (K:FG X E A):wP X (.Subscript e (.Slice B E ag O) v) (Mw te D A):=by
 refine PE.imp (rM (NU.or JB) F G K) ?_;rintro Z H Q ⟨z,H3,Q3,y,N,h,k⟩;refine⟨z,H3,_,y,N,h,λx P L q b m I J=>⟨z,q,_,y.mono b,m,J,λl R w c s M=>⟨z,w,_,y.mono (b.trans c),s,M,λu S n d g f=>?_⟩⟩⟩;have C:=k.at (b.trans (c.trans d));have t:=I.mono (c.trans d);cases L with
 |tup ts =>
  rw[Ej] at f;obtain⟨a,xs,rfl,j,r⟩:=t.tup;by_cases i:HT.sIx xs.length 0 l=0/\HT.sIx xs.length xs.length u=xs.length
  .refine .inr ⟨a,xs,rfl,j,i,C _ _ _ _ .refl g (.ofTup j r) ?_⟩;have e:dY ts l u=ts:=by unfold dY;rw[r.length,i.1,i.2,Nat.sub_zero,k9,<- r.length,F1]
   rw[e] at f;exact f
  exact .inl ⟨a,xs,rfl,j,i,λp o=>C _ _ _ _ (aQ o) (g.new o) (My.newTup (H3:=n) o (lN r l u)) f⟩
 |_=>exact f.elim
theorem Ek (l : List aw) : ((ax l.length).filterMap λ(k : Nat) => l.toArray[((l.length : Int) - 1 + (k : Int) * (-1)).toNat]?) = l.reverse:=by
 have e:(ax l.length).map (λ(k:Nat)=>l.toArray[((l.length:Int) - 1+(k:Int)*(-1)).toNat]?)=l.reverse.map ab:=by
  apply IT;intro i;rw[C_,C_];by_cases h:i<l.length
  .rw[YL h,kF h];have c:((l.length:Int) - 1+(i:Int)*(-1)).toNat=l.length - 1 - i:=uS
   have b:l.length - 1 - i<l.length:=uS
   simp only[kv,c,List.getElem?_toArray];rw[d_ b];rfl
  rw[U_ (by simp;omega),U_ (by simp;omega)];rfl
 have a:=YB (so id) e;rw [g9,g9] at a;have d : so (id ∘ ab) l.reverse = l.reverse:=List.filterMap_some;rw [d] at a;exact a
section
variable {w:bb}
theorem JC (n:Nat):cf ag ag (-1) (n:Int)=((n:Int) - 1,-1):=by
 unfold cf;simp
theorem wy (n:Nat):bo ((n:Int) - 1) (-1) (-1)=n:=by
 unfold bo;have a:¬((-1:Int)>0):=uS
 simp only[a,V_,Int.neg_neg,oj];split <;> omega
theorem kE {n:Nat} (e:s.heap.IsSliceOf c .none .none vs) (ps:hG vs (ab (-1))) (h:Q ((n:Int) - 1,-1,n) s):ay (aT prog w) A (da (.ref c) (ce (n:Int))) Q E s:=by
 obtain⟨os,a,d,b⟩:=id e;unfold da ic;refine a_ (a_ (Zi a b (x:=.none) rfl (a_ (Zi a b (x:=.none) rfl (a_ (Zi a b (x:=vs) rfl (l_ ?_)))))));refine a_ (jr ps ?_);show ay _ _ (if ((-1:Int)==0)=ai then _ else _) _ _ s;rw[wc vS];refine a_ (gE (a_ (gE (a_ (l_ ?_)))));show ay _ _ (match cf ag ag (-1) (n:Int) with | (lo,hi)=>ce (lo,(-1:Int),bo lo hi (-1))) _ _ s;rw[JC n];show ay _ _ (ce ((n:Int) - 1,(-1:Int),bo ((n:Int) - 1) (-1) (-1))) _ _ s;rw[wy];exact l_ h
theorem jO {b:List aw} (c:qo s.heap t b.toArray) (i:s.heap.IsSliceOf g .none .none vs) (ps:hG vs (ab (-1))) (h:Q (.ref s.heap.objs.size) { s with heap:=s.heap.push { cls:=.type "tuple",data:=.seq b.reverse.toArray}}) (hsz:b.length<=av):ay (aT prog w) A (eI (.ref t) (.ref g)) Q E s:=by
 obtain⟨os,f,e,j⟩:=id i;have d:s.TypeIs (.ref g) "slice":=⟨os,f,e⟩;have a:sizeOk (.seq b.reverse.toArray):=by show b.reverse.toArray.size<=av;rw[x_,Zo];exact hsz
 unfold eI;try with_reducible refine Zx ?_
 first | refine a_ (l_ ?_) | skip
 refine a_ (ii c.typeIs vS ?_);refine a_ (Zt (name:=dE "__getitem__") c.typeIs YK
  (Zk YK c.typeIs fR ?_ (gS _ _)))
 show ay _ _ (c_ (.ref t) >>= _) _ _ s;refine a_ (l9 c ?_);refine a_ (FL d ?_);rw[we vS];refine a_ (kE i ps ?_);rw[x_];show ay _ _ (if (((b.length:Int) - 1)==0&&(-1:Int)==1&&b.length==b.toArray.size)=ai then _ else _) _ _ s;rw[wc wn,Ek];first
  |exact a_ (m:=bp _) (Zh (l_ ⟨_,rfl,l_ h⟩) a)
  |exact a_ (m:=bp _) (Zh (a_ (l_ (l_ ⟨_,rfl,l_ h⟩))) a)
  |exact a_ (a_ (m:=bp _) (Zh (l_ (l_ ⟨_,rfl,l_ h⟩)) a))
  |exact a_ (a_ (m:=bp _) (Zh (l_ ⟨_,rfl,l_ h⟩) a))
variable {e st:Expr}
def VJ (K:a6) (te:TE) (ts:TO):TE:=λZ H Q=>te Z H λx c=>ts Z c λo b=>o=ab (-1)/\∃a xs,x=.ref a/\yB K b a xs/\∀p,b p=ag->Q (.ref p) (wS b p (.tup xs.reverse))
theorem JD (k:PE X e te) (y:PO X (ab st) ts):PE X (.Subscript e (.Slice ag ag (ab st) p2) P9) (VJ X.K te ts):=by
 intro c s Z H Q I h;refine mT (wx (k c s Z H _ I h) λv t ⟨x,m,p,D,u⟩=>?_);refine wpAny_Slice ?_;rw[mf];refine l_ (l_ (wx (y c t Z m _ p u) λvs s3 ⟨o,H3,n,ps,z,a,xs,l,B,q⟩=>?_));subst z l;cases D;have d:Inv X c Z H3 { s3 with heap:=s3.heap.push { cls:=.type "slice",data:=.fields #[.none,.none,vs]}}:=n.kept (t':=s3.toks) λb C q=>e_ _ q;obtain⟨f,r,g,j⟩:=d.tuple B;have i:=r.length;show ay (aT X.prog X.w) X.A (iP e (.Slice ag ag (ab st) p2) (.ref a) (.ref s3.heap.objs.size)) (EP X c Z Q) X.xe { s3 with heap:=s3.heap.push { cls:=.type "slice",data:=.fields #[.none,.none,vs]}};refine tx (T:="tuple") (ops:=[.ref a,.ref s3.heap.objs.size]) g.typeIs YK.lookup ?_ (by with_unfolding_all rfl);refine jO g (Heap.IsSliceOf.new ..) ps ?_ uS;refine⟨.ref (s3.heap.push { cls:=.type "slice",data:=.fields #[.none,.none,vs]}).objs.size,_,d.laid (t':=s3.toks) (o:=.tup xs.reverse) (λb C q=>e_ _ q) (u_ _) ?_,rfl,q _ (d.hok.fresh (u_ _))⟩;exact⟨by simpa using j,f.reverse,r.reverse,DO.new _ _⟩
def Me (x:T) (o:Option Int) (H:gV) (Q:wv):Prop:=match x with
 |.tup ts=>o=ab (-1)/\Q (.tup ts.reverse) H
 |_=>False
def El (te:wE) (ts:DV):wE:=λZ H Q=>te Z H λx b=>ts Z b λo a=>Me x o a Q
theorem QM (te:wE) (ts:DV):El te ts Z H Q=te Z H λx b=>ts Z b λo a=>Me x o a Q:=rfl
theorem Mx (xs:List T) (o:Option Int):Me (.tup xs) o H Q=(o=ab (-1)/\Q (.tup xs.reverse) H):=rfl
theorem JF (q:wP X e te) (v:FG X (ab st) ts):wP X (.Subscript e (.Slice ag ag (ab st) p2) P9) (El te ts):=by
 refine PE.imp (JD q v) ?_;rintro Z H Q ⟨n,H3,Q3,m,y,h,k⟩;refine⟨n,H3,_,m,y,h,λx z w i b f t u=>⟨n,i,_,m.mono b,f,u,λo A l c j d=>?_⟩⟩;cases w with
 |tup ts=>rw[Mx] at d;obtain⟨a,xs,rfl,s,r⟩:=(t.mono c).tup;exact⟨d.1,a,xs,rfl,s,λp g=>k _ _ _ _ (b.trans (c.trans (aQ g))) (j.new g) (My.newTup (H3:=l) g r.reverse) d.2⟩
 |_=>exact d.elim
end
end L3
open L3.T renaming int→t3,str→t4,tup→t5,ref→t9
namespace L2
end L2
namespace L3
open L2
def OH (x:T) (p q:Prop):Prop:=match x with
 |.non=>p
 |.tup (_::_)=>q
 |_=>False
def VL (c b:wE):wE:=λZ H Q=>c Z H λx a=>OH x (b Z a Q) (Q x a)
end L3
namespace L2
theorem Ai:mx (.type "list") "keys"=ce ag:=by rw[ku,eT];kernel_rfl
theorem wz (i:s.heap.get? a=ab { cls:=.type "list",dict:=ag,data:=.seq xs k,slots:=j}) (l:A.handled=ag) (h:∀h' tk e,Heap.NewExcOf s.heap h' e "AttributeError"->Q ag { s with heap:=h',toks:=tk}):ay (aT prog w) A (getAttr? (.ref a) "keys") Q E s:=by
 obtain⟨m,g,d,tk,os⟩:=s;have f:∀b,(⟨m,g,d,b,os⟩:aI).TypeIs (.ref a) "list":=λ_=>⟨_,i,rfl⟩;have r:=sub_AttributeError;have n:=Nc.lookup;have t:=Nc.bind (.ref a);have o:=am_list_getattr_none;unfold getAttr? getAttrBy? getAttrBy;repeat (any_goals (first | assumption | exact f _ | ((with_reducible show ay _ _ (jS (i3 "list.__getattribute__") _ _) _ _ _);refine EQ Nc (f _) am_entry_list_getattribute (F.args_list_getattribute_2 _ _) (meets_getattribute_miss_list a xs k j "keys" _ Ai vS vS) ⟨i,l,λh' b e c=>?_⟩) | wp_step))
 obtain⟨t',p,q⟩:=c.there;show ay _ _ (mI _ _ _ _ _ _ _) _ _ _;unfold mI;repeat (any_goals (first | assumption | wp_step))
 all_goals exact h _ _ _ c.of
theorem jf:plainId "dict.update.loop"=ai:=by decide +kernel
theorem pH:entryFor table "dict.update.loop"=ab et.«dict.update.loop»:=entryFor_of_tree zh
def QQ (h:ci) (p:af) (k v:aw):Prop:=∃o n,h.get? p=ab o/\o.cls=.type "tuple"/\o.data=.seq #[k,v] n
end L2
namespace L3
open L2
def yj (k:Int):List (Int × T)->Option T
 |[]=>ag
 | (k',v)::r=>if k'=k then ab v else yj k r
def tU (k:Int) (v:T) (kvs:List (Int × T)):List (Int × T) :=
 if (kvs.any λa=>decide (a.1=k))=ai then kvs.map (λa=>if a.1=k then (a.1,v) else a) else kvs++[(k,v)]
def Em {K:a6} (h:wr K H t v) (r:CI K H kvs vs):CI K H (tU k t kvs) (xD vs (dS k:xb) v):=by
 have e:∀{kvs:List (Int × T)} {vs:List (xb × V)},CI K H kvs vs->(kvs.any λa=>decide (a.1=k))=(vs.any λa=>decide (a.1=(dS k:xb)))/\CI K H (kvs.map (λa=>if a.1=k then (a.1,t) else a)) (vs.map (λa=>if a.1=(dS k:xb) then (a.1,v) else a)):=by
  intro kvs;induction kvs with
  |nil=>intro vs r;cases r;exact⟨rfl,.nil⟩
  |cons p l m =>
  intro vs r;cases r with
  |cons q n =>
  rename_i b o;obtain⟨g,f⟩:=m n;obtain⟨j,i⟩:=q;obtain⟨s,u⟩:=b;simp only at j i;subst j;by_cases d:p.1=k
  .refine⟨by simp [d],?_⟩;simp only[J_,d,if_true];exact .cons ⟨rfl,h⟩ f
  have c:¬(dS p.1:xb)=dS k:=λz=>d (Sum.inl.inj z);refine⟨by simp only[HI,d,c,Zd,IA];exact g,?_⟩;simp only[J_,d,c,V_];exact .cons ⟨rfl,i⟩ f
 obtain⟨g,f⟩:=e r;unfold tU xD;rw[g];split
 .exact f
 exact F8 r ⟨rfl,h⟩
section
variable {K:a6}
theorem My.wrI (s:My K H3 H) (h:H a=ab (.dK g)) (r:CI K H kvs c):My K (eH H3 a (.dci kvs)) (wS H a (.dK c)):=λb o e=>by
 have f:Pr K H (wS H a (.dK c)):=cJ (by rw[h];exact trivial);by_cases d:b=a
 .subst d;rw[aq] at e;cases e;exact⟨c,cI,r.mono f⟩
 rw[aH d] at e;exact (s b o e).stay f λu q=>by rw[bz d];exact q
theorem My.newI (s:My K H3 H) (c:H p=ag):My K (eH H3 p (.dci [])) (wS H p (.dK [])):=λa o e=>by
 by_cases b:a=p
 .subst b;rw[aq] at e;cases e;exact⟨[],cI,.nil⟩
 rw[aH b] at e;exact s.new c a o e
end
def ym:wE:=λ_ H Q=>∀p,H p=ag->Q (.ref p) (eH H p (.dci []))
theorem En:wP X (.Dict [] [] P9) ym:=by
 refine PE.imp rW ?_;rintro Z H Q ⟨d,H3,Q3,c,b,h,k⟩ p a;exact k _ _ _ _ (aQ a) (b.newI a) .ofRef (h p (b.fresh a))
def OS (y:T) (p:af) (v:T) (H:gV) (Q:wv):Prop:=match y with
 |.int k=>H p=ab (.dci [])/\Q (.ref p) (eH H p (.dci [(k,v)]))
 |_=>False
def JG (tk a:wE):wE:=λZ H Q=>∀p,H p=ag->tk Z (eH H p (.dci [])) λy c=>a Z c λv b=>OS y p v b Q
def Op (x y v:T) (H:gV) (Q:gV->Prop):Prop:=match x,y with
 |.ref a,.int k=>match H a with
  |some (.dci kvs)=>kvs.length<av/\Q (eH H a (.dci (tU k v kvs)))
  |_=>False
 |_,_=>False
def QR (o:Option O3) (a:af) (k:Int) (v:T) (H:gV) (Q:gV->Prop):Prop:=match o with
 |some (.dci kvs)=>kvs.length<av/\Q (eH H a (.dci (tU k v kvs)))
 |_=>False
def yo (f e a:wE):zo:=λD Z H=>a Z H λv c=>f Z c λx b=>e Z b λy H3=>Op x y v H3 λd=>D.nx Z d
theorem VM (a:af) (k:Int) (v:T) (Q:gV->Prop):Op (.ref a) (.int k) v H Q=QR (H a) a k v H Q:=rfl
theorem Eo (kvs:List (Int × T)) (a:af) (k:Int) (v:T) (Q:gV->Prop):QR (ab (.dci kvs)) a k v H Q=(kvs.length<av/\Q (eH H a (.dci (tU k v kvs)))):=rfl
theorem Ep (M:X.A.units+1<cc) (G:wP X o td) (N:wP X i w) (R:wP X value q) (O:dL value (ab (.Subscript o i QA)) P9.line X.env=ce am:=by rfl) :
  CB X (.Assign [.Subscript o i QA] value P9) (yo td w q):=by
 refine PS.imp (xK M G N R O) ?_;rintro D Z H ⟨n,H3,P,l,T,h,F,_⟩;refine⟨n,H3,_,l,T,h,λv V q z c s J L=>⟨n,z,_,l.mono c,s,L,λx W Q C d B I S=>⟨n,C,_,l.mono (c.trans d),B,S,λy m w f b j E p=>?_⟩⟩⟩;cases Q with
 |ref a =>
  cases w with
  |int key =>
   have h':QR (f a) a key q f λm=>P.nx n m:=p
   cases e:f a with
   |none=>rw[e] at h';exact h'.elim
   |some U =>
    rw[e] at h'
    cases U with
    |dci kvs =>
     rw[Eo] at h'
     obtain⟨vs,t,r⟩:=j a _ e
     have u:=J.mono (d.trans b)
     have g:Pr X.K m (wS m a (.dK (xD vs (dS key:xb) v))):=cJ (by rw[t];exact trivial)
     refine⟨a,_,(I.mono b).ref,?_,F _ _ _ _ (c.trans (d.trans (b.trans g))) (l.mono (c.trans (d.trans (b.trans g)))) (j.wrI t (Em u r)) h'.2⟩
     rw[E.int]
     exact ET.k (k:=dS key) t (by rw[<- EK r];exact h'.1)
    |_=>exact h'.elim
  |_=>exact p.elim
 |_=>exact p.elim
def P7 (neg:Bool) (y:T) (o:Option O3) (H:gV) (Q:wv):Prop:=match y,o with
 |.int k,ab (.dci kvs)=>Q (.bl (if neg then !(yj k kvs).isSome else (yj k kvs).isSome)) H
 |_,_=>False
def Yi (neg:Bool) (y x:T) (H:gV) (Q:wv):Prop:=match x with
 |.ref a=>P7 neg y (H a) H Q
 |_=>False
def QS (neg:Bool) (a c:wE):wE:=λZ H Q=>a Z H λy d=>c Z d λx b=>Yi neg y x b Q
def OR (o:Option O3) (a:af) (k:Int) (v:T) (H:gV) (Q:wv):Prop:=match o with
 |some (.dci kvs)=>kvs.length<av/\match yj k kvs with
  |some t=>Q t H
  |none=>Q v (eH H a (.dci (tU k v kvs)))
 |_=>False
def PM (x y v:T) (H:gV) (Q:wv):Prop:=match x,y with
 |.ref a,.int k=>OR (H a) a k v H Q
 |_,_=>False
def Yj (o:Option O3):Prop:=match o with
 |some (.dci _)=>True
 |_=>False
def Yk (x:T) (H:gV):Prop:=match x with
 |.ref a=>Yj (H a)
 |_=>False
def QT (e d b:wE):wE:=λZ H Q=>e Z H λx a=>Yk x a/\d Z a λy c=>b Z c λv H3=>PM x y v H3 Q
def pI {K:a6}:∀{c:List (ap × T)}{vs:List (ap × V)}{t:T},D2 K H c vs->aR f c=ab t->∃v,vs.lookup f=ab v/\wr K H t v
 |[],_,_,_,e=>by cases e
 | (g,t')::r,_,t,.cons (b:=(g',v')) ⟨e1,rv⟩ rr,e=>by
  simp only at e1 rv
  subst e1
  unfold aR at e
  by_cases a:g'=f
  ·
   rw[we a] at e
   cases e
   exact⟨v',by rw[ZF,show (f==g')=ai from CY.mpr a.symm],rv⟩
  ·
   rw[wc a] at e
   obtain⟨v,d,q⟩:=pI rr e
   exact⟨v,by rw[ZF,show (f==g')=am from Y6.mpr (a7 a)];exact d,q⟩
theorem mV {K:a6}:∀{c:List (ap × T)}{vs:List (ap × V)},D2 K H c vs->aR f c=ag->vs.lookup f=ag
 |[],_,.nil,_=>rfl
 | (g,t')::r,_,.cons (b:=(g',v')) ⟨e1,rv⟩ rr,e=>by
  simp only at e1 rv
  subst e1
  unfold aR at e
  by_cases a:g'=f
  ·
   rw[we a] at e;cases e
  ·
   rw[wc a] at e
   rw[ZF,show (f==g')=am from Y6.mpr (a7 a)]
   exact mV rr e
def eN (f:ap) (v:T):List (ap × T)->List (ap × T)
 |[]=>[(f,v)]
 | (g,x)::r=>if g=f then (g,v)::r else (g,x)::eN f v r
def tV {K:a6} (c:wr K H t v):∀{d:List (ap × T)}{vs:List (ap × V)},D2 K H d vs->D2 K H (eN f t d) (ie f v vs)
 |[],_,.nil=>.cons ⟨rfl,c⟩ .nil
 | (g,t')::r,_,.cons (b:=(g',v')) ⟨e1,r1⟩ rr=>by
  simp only at e1 r1
  subst e1
  unfold eN ie
  by_cases a:g'=f
  ·
   rw[we a,we a];exact .cons ⟨rfl,c⟩ rr
  ·
   rw[wc a,wc a];exact .cons ⟨rfl,r1⟩ (tV c rr)
structure BY (K:a6) (C:af) (ns:List ap):Prop where
 cls:CC K C
 no:∀n∈ns,E6 K C n
structure FU (P:br) (w:bb) (K:a6) (mg:ap->Option aw) (base:ci) (C:af) (k:Nat) (m:ap) (ps:List ap) (sp:xi):Prop where
 cls:CC K C
 ex:∃(f:af) (fd:dk),D5 K C m f/\xI K fd ps []/\lz P w K mg base k f fd ps sp
structure Md (P:br) (w:bb) (K:a6) (mg:ap->Option aw) (base:ci) (C:af) (k:Nat) (x:ap) (ps:List ap) (sp:xi):Prop where
 at_:mg x=ab (.ref C)
 ex:∃(f:af) (fd:dk),Mk K C f/\xI K fd ps []/\lz P w K mg base k f fd ps sp
structure GM (K:a6) (C:af) (m qual:ap) (st:ef) (ps:List ap) (f:af) (fd:dk):Prop where
 cls:CC K C
 fn:DD K m qual st f fd
 b:xI K fd ps []
 mt:D5 K C m f
structure GI (K:a6) (mg:ap->Option aw) (C:af) (x qual:ap) (st:ef) (ps:List ap) (f:af) (fd:dk):Prop where
 mk_:Mk K C f
 fn:DD K "__init__" qual st f fd
 b:xI K fd ps []
 at_:mg x=ab (.ref C)
theorem My.wrO {K:a6} (s:My K H3 H) (i:H a=ab (.ins C d vs)) (r:D2 K H h c):My K (eH H3 a (.ins C h)) (wS H a (.ins C d c)):=λb o e=>by
 have g:Pr K H (wS H a (.ins C d c)):=cJ (by rw[i];exact trivial);by_cases f:b=a
 .subst f;rw[aq] at e;cases e;exact⟨d,c,cI,r.mono g⟩
 rw[aH f] at e;exact (s b o e).stay g λu q=>by rw[bz f];exact q
section
variable {P9 QA Qr p:mi}{H:gV}
def QV (C:af) (f:ap) (u:Option O3) (H:gV) (Q:wv):Prop:=match u with
 |some (.ins C' fs)=>C'=C/\oq (aR f fs) λt=>Q t H
 |_=>False
def VN (C:af) (f:ap) (x:T) (H:gV) (Q:wv):Prop:=match x with
 |.ref a=>QV C f (H a) H Q
 |_=>False
def Mz (C:af) (f:ap) (a:wE):wE:=λZ H Q=>a Z H λx b=>VN C f x b Q
theorem Er (a:af):VN C f (.ref a) H Q=QV C f (H a) H Q:=rfl
theorem QW (a:List (ap × T)):QV C f (ab (.ins C a)) H Q=oq (aR f a) λt=>Q t H:=propext ⟨λh=>h.2,λh=>⟨rfl,h⟩⟩
theorem eE (c:BY X.K C ns) (n:wP X e ta) (y:f∈ns:=by simp) (o:dP e f X.env (bP e X.env)=bP e X.env:=by rfl):wP X (.Attribute e f P9) (Mz C f ta):=by
 refine PE.imp (O2 n o) ?_;rintro Z H Q ⟨F,H3,Q3,E,D,h,k⟩;refine⟨F,H3,_,E,D,h,λv G t d z b r q=>?_⟩;cases t with
 |ref a =>
  rw[Er] at q;cases i:d a with
  |none=>rw[i] at q;exact q.elim
  |some w =>
  rw[i] at q;cases w with
  |ins m l =>
   obtain⟨rfl,g⟩:=(show m=C/\oq (aR f l) λt=>Q3 t d from q);clear q;obtain⟨B,vs,s,A⟩:=b a _ i;cases j:aR f l with
   |none=>rw[j] at g;exact g.elim
   |some t =>
   rw[j,dZ] at g;obtain⟨p,u,x⟩:=pI A j;exact⟨a,m,B,vs,p,r.ref,s,c.cls,c.no f y,u,k _ _ _ _ z b x g⟩
  |_=>exact q.elim
 |_=>exact q.elim
def MI (C:af) (f:ap) (a:af) (y:T) (u:Option O3) (H:gV) (Q:gV->Prop):Prop:=match u with
 |some (.ins C' fs)=>C'=C/\fs.length<1000/\Q (eH H a (.ins C (eN f y fs)))
 |_=>False
def NR (C:af) (f:ap) (x y:T) (H:gV) (Q:gV->Prop):Prop:=match x with
 |.ref a=>MI C f a y (H a) H Q
 |_=>False
def MF (C:af) (f:ap) (b a:wE):zo:=λD Z H=>a Z H λy d=>b Z d λx c=>NR C f x y c λH3=>D.nx Z H3
theorem MJ (a:af) (y:T) (Q:gV->Prop):NR C f (.ref a) y H Q=MI C f a y (H a) H Q:=rfl
theorem VP (a:af) (y:T) (b:List (ap × T)) (Q:gV->Prop):MI C f a y (ab (.ins C b)) H Q=(b.length<1000/\Q (eH H a (.ins C (eN f y b)))):=propext ⟨λh=>h.2,λh=>⟨rfl,h⟩⟩
theorem qN (c:BY X.K C ns) (Q:wP X o ta) (N:wP X value tv) (I:f∈ns:=by simp) (J:dL value (ab (.Attribute o f QA)) P9.line X.env=ce am:=by rfl):CB X (.Assign [.Attribute o f QA] value P9) (MF C f ta tv):=by
 refine PS.imp (O4 Q N J) ?_;rintro D Z H ⟨s,H3,L,k,O,h,A,_⟩;refine⟨s,H3,_,k,O,h,λy R F n b l z G=>⟨s,n,_,k.mono b,l,G,λx u M j d i E e=>?_⟩⟩;cases M with
 |ref a =>
  rw[MJ] at e;cases p:j a with
  |none=>rw[p] at e;exact e.elim
  |some P =>
  rw[p] at e;cases P with
  |ins r t=>obtain⟨rfl,B,q⟩:=(show r=C/\t.length<1000/\L.nx s (eH j a (.ins C (eN f F t))) from e);obtain⟨w,vs,m,v⟩:=i a _ p;have g:Pr X.K u (wS u a (.ins r w (ie f y vs))):=cJ (by rw[m];exact trivial);exact⟨a,r,w,vs,E.ref,m,c.cls,c.no f I,by rw[<- EK v];exact B,A _ _ _ _ (b.trans (d.trans g)) (k.mono (b.trans (d.trans g))) (i.wrO m (tV (z.mono d) v)) q⟩
  |_=>exact e.elim
 |_=>exact e.elim
def MC (C:af) (m:ap) (u:Option O3) (q:Prop):Prop:=match u with
 |some (.ins C' fs)=>C'=C/\aR m fs=ag/\q
 |_=>False
def OA (C:af) (m:ap) (x:T) (H:gV) (q:Prop):Prop:=match x with
 |.ref a=>MC C m (H a) q
 |_=>False
def Es (C:af) (m:ap) (sp:xi) (b:wE) (t:AK):wE:=λZ H Q=>b Z H λx a=>OA C m x a (t Z a λvs c=>sp (x::vs) c Q)
theorem MK (a:af) (q:Prop):OA C m (.ref a) H q=MC C m (H a) q:=rfl
theorem VR (a:List (ap × T)) (q:Prop):MC C m (ab (.ins C a)) q=(aR m a=ag/\q):=propext ⟨λh=>h.2,λh=>⟨rfl,h⟩⟩
theorem qO {pl:Sem Bool}(M:FU X.prog X.w X.K X.mg X.base C n m ps sp) (S:zc n X.A) (y:wP X o ta) (U:A5 X (e::es) t)
  (i:aE (e::es) X.env=(am,bP e X.env)::aE es X.env:=by rfl) (g:(cv P9 (aE es X.env)).any (·.1)=am:=by rfl)
  (B:bP (.Call (.Attribute o m Qr) (e::es) [] P9) X.env=(do
   let ov <- bP o X.env
   nz Qr.atName
   let (f,first) <- e9 [ov] (oS ov m pl)
   callWith P9 f first (cv P9 (aE (e::es) X.env)) (r_ P9 (kQ [] X.env))):=by rfl) :
  wP X (.Call (.Attribute o m Qr) (e::es) [] P9) (Es C m sp ta t):=by
 obtain⟨f,V,J,z,F⟩:=M.ex;refine PE.imp (HY (dvs:=[]) (E:=E0) y M.cls J F S z .nil Ca U i g B) ?_;rintro Z H Q ⟨x,H3,Q3,s,R,h,k⟩;refine⟨x,H3,_,s,R,h,λv Y t d u b r q=>?_⟩;cases t with
 |ref a =>
  rw[MK] at q;cases l:d a with
  |none=>rw[l] at q;exact q.elim
  |some T =>
  rw[l] at q;cases T with
  |ins C' W=>obtain⟨rfl,D,q⟩:=q;obtain⟨P,vs,G,O⟩:=b a _ l;refine⟨a,P,vs,r.ref,G,mV O D,x,d,_,s.mono u,b,q,λus I ts p c j L N=>?_⟩;show sG X.K sp (v::(us++[])) I Q E0;rw[YH];exact⟨_,p,Q3,.cons (r.mono c) L,j,N,k.at (u.trans c)⟩
  |_=>exact q.elim
 |_=>exact q.elim
def Et (C:af) (sp:xi) (t:AK):wE:=λZ H Q=>t Z H λvs b=>∀a,b a=ag->sp (.ref a::vs) (eH b a (.ins C [])) λv c=>v=.non/\Q (.ref a) c
theorem JH (M:Md X.prog X.w X.K X.mg X.base C n x ps sp) (Y:zc (n+1) X.A) (hg:Gl X x) (r:A5 X (e::es) t) (u:(x==("__debug__":ap))=am:=by decide)
  (N:aE (e::es) X.env=(am,bP e X.env)::aE es X.env:=by rfl) (y:(cv P9 (aE es X.env)).any (·.1)=am:=by rfl):wP X (.Call (.Name x p) (e::es) [] P9) (Et C sp t):=by
 obtain⟨f,fd,P,o,F⟩:=M.ex;refine PE.imp (Ia (dvs:=[]) (E:=E0) P F Y hg M.at_ o .nil Ca r u N y) ?_;rintro Z H Q ⟨O,H3,Q3,L,W,h,k⟩;refine⟨O,H3,_,L,W,h,λus l ts D U g R q=>λa c r j z=>?_⟩;show sG X.K sp (V.ref a::(us++[])) _ _ E0;rw[YH];have G:wS l c (.own a) a=ag:=by rw[bz (a7 z)];exact r
 have d:Pr X.K l (wS l c (.own a)):=aQ j;have i:Pr X.K (wS l c (.own a)) (wS (wS l c (.own a)) a (.ins C c [])):=aQ G;refine⟨t9 a::ts,eH D a (.ins C []),_,.cons .ofRef (R.mono (d.trans i)),λb ob m=>?_,q a (g.fresh r),λv H2 t2 S s B J I=>⟨?_,?_⟩⟩
 .by_cases o:b=a
  .subst o;rw[aq] at m;cases m;exact⟨c,[],cI,.nil⟩
  rw[aH o] at m;exact ((g.new j).new G) b ob m
 .obtain⟨rfl,_⟩:=I;exact J.non
 exact k _ _ _ _ (U.trans (d.trans (i.trans s))) B .ofRef I.2
end
end L3
namespace L2
def PH (X:Cx) (H:Hp) (x y:V) (a b:af) (k:NK) (ks:List (NK × af × V)):Prop:=x=.ref a/\y=.ref b/\H a=ab (C5 X.w a ks)/\z6 X.K H ks/\BF X.K H k b
def V0 (X:Cx) (neg:Bool) (e f:TE):TE:=λZ H Q=>e Z H λy d=>f Z d λx c=>∃a b k ks,PH X c x y a b k ks/\Q (.bl (if neg then !(fJ ks k).isSome else (fJ ks k).isSome)) c
theorem QX (w:X.A.units+30<cc) (z:PE X i ty) (m:PE X o td):PC X .In i o (V0 X am ty td):=by
 intro c s Z H Q I h;refine wx (z c s Z H _ I h) λe t ⟨y,l,q,f,v⟩=>wx (m c t Z l _ q v) λu G ⟨x,r,C,n,a,b,k,ks,⟨g,d,B,j,E⟩,D⟩=>?_;subst g d;obtain rfl:u=a4 a:=n;obtain rfl:e=a4 b:=f;exact XQ w C B j E λF p=>⟨.bl (fJ ks k).isSome,r,p,rfl,D⟩
theorem Aj (w:X.A.units+30<cc) (z:PE X i ty) (m:PE X o td):PC X .NotIn i o (V0 X ai ty td):=by
 intro c s Z H Q I h;refine wx (z c s Z H _ I h) λe t ⟨y,l,q,f,v⟩=>wx (m c t Z l _ q v) λu G ⟨x,r,C,n,a,b,k,ks,⟨g,d,B,j,E⟩,D⟩=>?_;subst g d;obtain rfl:u=a4 a:=n;obtain rfl:e=a4 b:=f;exact Iu w C B j E λF p=>⟨.bl (!(fJ ks k).isSome),r,p,rfl,D⟩
end L2
namespace L3
open L2
theorem tW:∀{ts:List T}{ns:List ap},mR ts=ab ns->ts=ns.map t4
 |[],_,h=>by cases h;rfl
 |t::r,ns,h=>by
  cases t with
  |str x =>
   obtain⟨l,e,rfl⟩:=IN.mp (show (mR r).map (x::·)=ab ns from h)
   rw[tW e];rfl
  |_=>cases h
def FR:T->Option NK
 |.tup [.int i,.tup ts]=>(mR ts).map λns=>(i,ns)
 |_=>ag
theorem Eu (i:Int) (ns:List ap):FR (.tup [.int i,.tup (ns.map t4)])=ab (i,ns):=by
 show (mR (ns.map t4)).map _=_;rw[pB];rfl
def tX {K:a6}:∀{ns:List ap}{xs:List V},ql K H (ns.map t4) xs->xs=ns.map V.str
 |[],_,r=>r.inv0
 |n::ns,xs,r=>by
  obtain⟨v,a,rfl,q,b⟩:=r.inv
  rw[J_,<- tX b,q.str]
def yp {K:a6} (e:FR t=ab k) (r:wr K H t v):∃a,v=.ref a/\BF K H k a:=by
 unfold FR at e;split at e
 .rename_i i ts;obtain⟨ns,j,rfl⟩:=IN.mp e;rw[tW j] at r;obtain⟨a,xs,rfl,d,l⟩:=r.tup;obtain⟨s,p,rfl,p1,h⟩:=l.inv;obtain⟨q,n,rfl,f,g⟩:=h.inv;obtain⟨b,o,rfl,c,m⟩:=f.tup;rw[g.inv0,p1.int] at d;rw[tX m] at c;exact⟨a,rfl,b,d,c⟩
 cases e
def bL (k:NK):List (NK × T)->Option T
 |[]=>ag
 | (k',v)::r=>if k'=k then ab v else bL k r
def pJ (k:NK) (v:T) (kvs:List (NK × T)):List (NK × T):=if (bL k kvs).isSome then kvs.map (λx=>if x.1=k then (x.1,v) else x) else kvs++[(k,v)]
section
variable {K:a6}
def AO.look (r:AO K H kvs ks) (k:NK):(bL k kvs=ag/\fJ ks k=ag)\/∃t v,bL k kvs=ab t/\fJ ks k=ab v/\wr K H t v:=by
 induction r with
 |nil=>exact .inl ⟨rfl,rfl⟩
 |@cons p q l m h _ b =>
 obtain⟨p1,f⟩:=p;obtain⟨d,i,g⟩:=q;obtain⟨e,_,a⟩:=h;dsimp only at e a;subst e;unfold bL;unfold fJ at b |-;rw[EA];by_cases c:d=k
 .rw[we c,k_ (by exact c)];exact .inr ⟨f,g,rfl,rfl,a⟩
 rw[wc c,m_ (by exact c)];exact b
def AO.put (r:AO K H kvs ks) (j:BF K H k b) (f:wr K H t v):AO K H (pJ k t kvs) (Cj ks k b v):=by
 have e:(bL k kvs).isSome=(fJ ks k).isSome:=by rcases r.look k with ⟨a,b⟩ | ⟨t,v,a,b,_⟩ <;> rw[a,b] <;> rfl
 unfold pJ Cj;rw[e];split
 .rename_i c;clear e c;induction r with
  |nil=>exact .nil
  |@cons p q l m h _ i =>
  obtain⟨p1,n⟩:=p;obtain⟨s,o,u⟩:=q;obtain⟨e,d,g⟩:=h;dsimp only at e g d;subst e;refine .cons ?_ i;dsimp only;split <;> exact⟨rfl,d,by assumption⟩
 exact F8 r ⟨rfl,j,f⟩
theorem AO.all (r:AO K H kvs ks):z6 K H ks:=by
 induction r with
 |nil=>intro x a;exact nomatch a
 |cons h _ b =>
 intro x a;rcases y_.mp a with rfl | a
 .exact h.2.1
 exact b x a
end
def LI (u:Option O3) (w:bb) (Q:List (NK × T)->Prop):Prop:=match u with
 |some (.dcn w' kvs)=>w'=w/\Q kvs
 |_=>False
def nq (w:bb) (x y:T) (H:gV) (Q:af->NK->List (NK × T)->Prop):Prop:=match x with
 |.ref a=>oq (FR y) λk=>LI (H a) w (Q a k)
 |_=>False
theorem Yl (w:bb) (a:af) (i:Int) (ns:List ap):nq w (.ref a) (.tup [.int i,.tup (ns.map t4)]) H Q=LI (H a) w (Q a (i,ns)):=by
 unfold nq;rw[Eu];rfl
theorem V1 (w:bb) (kvs:List (NK × T)):LI (ab (.dcn w kvs)) w Q=Q kvs:=by
 show (w=w/\Q kvs)=Q kvs;rw[eq_self,true_and]
def QZ {K:a6} (l:My K H3 H) (j:wr K H f x) (m:wr K H g y) (q:nq w f g H3 Q):
  ∃a b k kvs ks,x=.ref a/\y=.ref b/\H a=ab (C5 w a ks)/\H3 a=ab (.dcn w kvs)/\AO K H kvs ks/\BF K H k b/\Q a k kvs:=by
 cases f with
 |ref a =>
  cases e:FR g with
  |none=>unfold nq at q;rw[e] at q;exact q.elim
  |some k =>
  unfold nq at q;rw[e] at q;have c:LI (H3 a) w (Q a k):=q;cases d:H3 a with
  |none=>rw[d] at c;exact c.elim
  |some n =>
  rw[d] at c;cases n with
  |dcn s kvs=>obtain⟨rfl,h⟩:=c;obtain⟨ks,p,o⟩:=l a _ d;obtain⟨b,i,r⟩:=yp e m;exact⟨a,b,k,kvs,ks,j.ref,i,p,d,o,r,h⟩
  |_=>exact c.elim
 |_=>exact q.elim
def wA (w:bb) (neg:Bool) (b d:wE):wE:=λZ H Q=>b Z H λy c=>d Z c λx a=>nq w x y a λ_ k kvs=>Q (.bl (if neg then !(bL k kvs).isSome else (bL k kvs).isSome)) a
def yq {neg:Bool}{K:a6}{d f:T}{Q3:wv} (l:My K H3 H) (j:wr K H d x) (m:wr K H f y) (q:nq w d f H3 λ_ k kvs=>Q3 (.bl (if neg then !(bL k kvs).isSome else (bL k kvs).isSome)) H3):
  ∃a b k ks c,(x=.ref a/\y=.ref b/\H a=ab (C5 w a ks)/\z6 K H ks/\BF K H k b)/\(if neg then !(fJ ks k).isSome else (fJ ks k).isSome)=c/\Q3 (.bl c) H3:=by
 obtain⟨a,b,k,kvs,ks,p,o,i,_,g,n,h⟩:=QZ l j m q;refine⟨a,b,k,ks,_,⟨p,o,i,g.all,n⟩,rfl,?_⟩;have e:(bL k kvs).isSome=(fJ ks k).isSome:=by rcases g.look k with ⟨a,b⟩ | ⟨t,v,a,b,_⟩ <;> rw[a,b] <;> rfl
 rwa [e] at h
theorem yr (s:X.w=w) (C:X.A.units+30<cc) (D:wP X i ti) (t:wP X o td) (z:b9 .In o=am:=by rfl):wP X (.Compare i [.In] [o] P9) (wA w am ti td):=by
 subst s;refine PE.imp (N7 (QX C D t) z) ?_;rintro Z H Q ⟨p,H3,Q3,n,G,h,k⟩;refine⟨p,H3,_,n,G,h,λy I J m d l r B=>⟨p,m,_,n.mono d,l,B,λx K L E f j u F=>?_⟩⟩;obtain⟨a,b,v,ks,c,g,e,q⟩:=yq j u (r.mono f) F;exact⟨a,b,v,ks,g,by rw[e];exact k _ _ _ _ (d.trans f) j .ofBl q⟩
end L3
namespace L2
abbrev PN:=NK × af × aw
def A9 (ps:List PN):List PN:=ps.foldl (λxs p=>js xs p.1 p.2.1 p.2.2) []
theorem tY (ps:List PN) (p:PN):A9 (ps++[p])=js (A9 ps) p.1 p.2.1 p.2.2:=by unfold A9;rw[Lv];rfl
theorem qP (ps:List PN):(A9 ps).length<=ps.length/\∀x∈A9 ps,∃p∈ps,p.1=x.1/\p.2.1=x.2.1:=by
 have:∀(n:Nat) (ps:List PN),ps.length=n->(A9 ps).length<=n/\∀x∈A9 ps,∃p∈ps,p.1=x.1/\p.2.1=x.2.1:=λn=>by
  induction n with
  |zero=>intro ps h;rw[HM.mp h];exact⟨u_ _,λx a=>nomatch a⟩
  |succ n g =>
  intro ps h;have b:ps≠[]:=λz=>by rw[z] at h;cases h
  have e:=Zj b;rw[<- e,tY];obtain⟨j,i⟩:=g ps.dropLast (by rw[fg];omega);have d:∀x∈A9 ps.dropLast,∃p∈ps.dropLast++[ps.getLast b],p.1=x.1/\p.2.1=x.2.1:=λx a=>by obtain⟨p,c,z⟩:=i x a;exact⟨p,YC _ c,z⟩
  unfold js;split
  .refine⟨by rw[g_];omega,λx a=>?_⟩;obtain⟨y,f,rfl⟩:=o_.mp a;obtain⟨p,c,z⟩:=d y f;refine⟨p,c,?_⟩;unfold putAt;split <;> exact z
  refine⟨by rw[b_,t_];omega,λx a=>?_⟩;rcases q_.mp a with q | q
  .exact d x q
  rw[j_.mp q];exact⟨_,X_ _ (.head _),rfl,rfl⟩
 exact this _ ps rfl
def Go (prog:br) (w:bb) (c:List af) (h:ci) (k:NK) (a:af):Prop:=∃o t b n,h.get? a=ab o/\o.cls=.type "tuple"/\o.data=.seq #[.int k.1 t,.ref b] n/\sv (bO prog w) h (rY k.2) b/\a∉c/\b∉c
theorem Go.is (x:Go prog w c h k a):AS prog w h k a:=let ⟨o,t,b,n,h1,h2,h3,h4,_⟩:=x;⟨o,t,b,n,h1,h2,h3,h4⟩
theorem Go.kp (x:Go prog w d h k a) (f:∀c o,c∉d->h.get? c=ab o->h'.get? c=ab o):Go prog w d h' k a:=by
 obtain⟨o,t,b,n,s,r,j,⟨m,e,l,q,p⟩,g,i⟩:=x;exact⟨o,t,b,n,f _ _ g s,r,j,⟨m,e,l,f _ _ i q,p⟩,g,i⟩
def V2 (prog:br) (w:bb) (a:List af) (h:ci) (ps:List PN):Prop:=∀p∈ps,Go prog w a h p.1 p.2.1
theorem tZ {h h':ci} (x:h.DictOfH (fj prog w) d (A9 (ps.take i))) (t:∀o,h.get? d=ab o->h'.get? d=ab o) (f:∀c o,c∉a->h.get? c=ab o->h'.get? c=ab o) (n:V2 prog w a h ps):h'.DictOfH (fj prog w) d (A9 (ps.take i)):=by
 obtain⟨o,r,ep,s,q,j,k,_,g⟩:=x;refine⟨o,r,ep,t _ s,q,j,k,λy b=>?_,g⟩;obtain⟨p,e,m,l⟩:=(qP _).2 y b;have:=((n p (KG e)).kp f).is
 rwa [m,l] at this
theorem wB {St:Nat->ci->Prop} (hu:A.units+30<cc) (W:Walks prog w A.in1 J Z g n P St) (d:af) (Y:d∉Z) (ps:List PN) (hn:ps.length=n) (h8:n<=av):
  ∀(k i:Nat) (s:aI),n - i=k->i<=n->St i s.heap->s.heap.DictOfH (fj prog w) d (A9 (ps.take i))->V2 prog w (d::g) s.heap ps ->
   (∀j v,P j v->∃q p,ps[j]?=ab q/\v=.ref p/\p∉d::g/\QQ s.heap p (.ref q.2.1) q.2.2) ->
   (∀s',Moved (d::g) (λa b=>b=a) s s'->s'.heap.DictOfH (fj prog w) d (A9 ps)->R (.ok (.ret .none)) s') ->
   eJ (aT prog w) A (.builtin "dict.update.loop" ⟨[.ref d,.ref J,mE i,.none],[]⟩) R s:=by
 have E:=W.toS;have U:d∉g:=λh=>Y (E.sub _ h);have F:∀c∈g,c∈d::g:=λc f=>z_ _ f;intro k;induction k with
 |zero =>
  intro i s hk hi st N B S u;obtain rfl:i=n:=by omega
  refine HG pH ?_;rw[lh jf _];show ay _ A.in1 (kM (.ref J) >>= _) _ _ s;refine a_ (E.done s _ _ st λs' x=>?_);show ay _ A.in1 (do Builtin.Dict.addKeywords d [];ret bE) _ _ s';have t:=tZ N (λo=>x.heap d o U) (λc o f=>x.heap c o λz=>f (F c z)) B;rw[<- hn,F1] at t;exact a_ (l_ (l_ (u s' (x.mono F) t)))
 |succ k ih =>
 intro i s hk hi st N B S u;have V:i<n:=uS
 refine HG pH ?_;rw[lh jf _];show ay _ A.in1 (kM (.ref J) >>= _) _ _ s;refine a_ (E.item i s _ _ V st λv s' pv K x=>?_);obtain⟨q,p,y,rfl,r,o,X,I,f,O⟩:=S i v pv;have l:∀c o,c∉d::g->s.heap.get? c=ab o->s'.heap.get? c=ab o:=λc o f=>x.heap c o λz=>f (F c z);have D:s'.heap.get? p=ab o:=l p _ r I;have t:=tZ N (λo=>x.heap d o U) l B;have hq:q∈ps:=S_ y;refine a_ (Zx ?_);refine a_ (m:=tryCatch (Builtin.Dict.pairItems (.ref p)) _) (wpAny_tryCatch ?_);unfold Builtin.Dict.pairItems;refine a_ (FL (T:="tuple") ⟨o,D,f⟩ ?_);rw[we vS];refine a_ (Zv D O (l_ ?_));have hm:(A9 (ps.take i)).length<=av:=by have h1:=(qP (ps.take i)).1;rw[Y0] at h1;omega
 show ay _ A.in1 (e9 [.ref q.2.1,q.2.2] (dictSet d (.ref q.2.1) q.2.2)) _ _ s';refine Zx (wpAny_dictSet_heap (knd:=fj prog w) (show A.units+1+1<cc by omega) ((B q hq).kp l).is t (λh' H M=>?_) hm);have C:∀c o,c∉d::g->s.heap.get? c=ab o->h'.get? c=ab o:=λc o f e=>by rw[M.2 c (λz:c=d=>f (by rw[z];exact A_))];exact l c o f e
 refine l_ ⟨me jf _,ih (i+1) _ uS V (E.frame _ s' _ _ K (pc _ _) λc f o e=>?_) ?_ (λp y=>(B p y).kp C) (λj v pj=>?_) λQ L G=>?_⟩
 .rw[M.2 c (λz:c=d=>Y (by rw[<- z];exact f))];exact e
 .rw[List.take_succ,y];show h'.DictOfH (fj prog w) d (A9 (ps.take i++[q]));rw[tY];exact H
 .obtain⟨q,p,y,e,r,o,X,I,f,O⟩:=S j v pj;exact⟨q,p,y,e,r,o,X,C p _ r I,f,O⟩
 refine u Q (Moved.trans E.gtrans ((x.mono F).then_heap (pc _ _) λc o f e=>?_) L) G;rw[M.2 c (λz:c=d=>f (by rw[z];exact A_))];exact e
theorem t7 (hu:A.units+40<cc) (hh:A.handled=ag) (L:s.heap.get? l=ab { cls:=.type "list",dict:=ag,data:=.seq a M,slots:=O}) (S:ps.length=a.size) (R:a.size<=av) (al:∀p∈ps,AS prog w s.heap p.1 p.2.1) (hT:∀(j:Nat) (v:aw),a[j]?=ab v->∃q p,ps[j]?=ab q/\v=.ref p/\QQ s.heap p (.ref q.2.1) q.2.2) (h:∀(h':ci) (tk:Nat),h'.DictOfH (fj prog w) s.heap.objs.size (A9 ps)->(∀b o,s.heap.get? b=ab o->h'.get? b=ab o)->Q (.ref s.heap.objs.size) { s with heap:=h',toks:=tk}):
  ay (aT prog w) A (jS (.type "dict") [.ref l]) Q E s:=by
 refine r4 (Q₁:=λu g=>u=.ref s.heap.objs.size/\g={ s with heap:=s.heap.push { cls:=.type "dict",data:=.dict #[]}}) F.kt_called_dict (F.kt_typeCall_dict_1 _) F.entry_dict_init (kt_code_dict_new _ ⟨rfl,rfl⟩) ?_;rintro u g ⟨rfl,rfl⟩;have c:(s.heap.push { cls:=.type "dict",data:=.dict #[]}).DictOfH (fj prog w) s.heap.objs.size []:=Heap.DictOfH.new s.heap;have k:(s.heap.push { cls:=.type "dict",data:=.dict #[]}).get? l=ab { cls:=.type "list",dict:=ag,data:=.seq a M,slots:=O}:=e_ _ L;refine⟨c.typeIs,F.args_dict_init_2 _ _,?_⟩;unfold et.«dict.__init__»;refine a_ ?_;unfold Builtin.Dict.selfAndRest;refine a_ (wpAny_notOrdered_dict c.typeIs ?_);show ay _ _ (ce (s.heap.objs.size,[a4 l])) _ _ _;refine l_ ?_;show ay _ _ (Builtin.Dict.updateFrom "dict.__init__" s.heap.objs.size (.ref l) [] .none) _ _ _;unfold Builtin.Dict.updateFrom;refine a_ (FL (T:="list") ⟨_,k,rfl⟩ ?_);rw[we vS];have r:A.in1.in1.handled=ag:=by simp [hh]
 refine a_ (wz k r λi tk e B=>?_);show ay _ _ (do rule _;let it <- tS (.ref l);again (.builtin "dict.update.loop" ⟨[.ref s.heap.objs.size,it,mE 0,.none],[]⟩)) _ _ _;refine a_ (gx ?_);have m:=B.keeps _ _ k;refine a_ (JO (s:={ s with heap:=i,toks:=tk}) ⟨_,m,rfl,_,rfl⟩ (l_ ?_));have P:l<i.objs.size:=F_ m;have K:s.heap.objs.size<i.objs.size:=F_ (B.keeps s.heap.objs.size _ (E_ _ rfl));have G:l<s.heap.objs.size:=F_ L;have V:s.heap.objs.size∉[i.objs.size,l]:=by
  intro z;simp only[y_,YJ,AJ] at z;rcases z with z | z
  .exact wT z (L_ K)
  exact wT z (YT G)
 have d:∀b o,s.heap.get? b=ab o->b∉[s.heap.objs.size,i.objs.size]:=λb o e z=>by
  have:=F_ e;simp only[y_,YJ,AJ] at z;rcases z with z | z
  .exact wT z (L_ this)
  exact wT z (L_ (YX this K))
 have f:∀b o,s.heap.get? b=ab o->(i.push { cls:=.type "list_iterator",data:=.fields #[.ref l,.int 0 0]}).get? b=ab o:=λb o e=>e_ _ (B.keeps _ _ (e_ _ e));refine⟨me jf _,?_⟩;refine wB (by have:A.in1.units=A.units+1:=rfl;omega) (Walks.list r _ l (L_ P) a) s.heap.objs.size V ps S R (a.size - 0) 0 _ uS (Y5 _) ⟨⟨_,E_ _ rfl,rfl,rfl⟩,⟨_,e_ _ m,rfl,_,rfl⟩⟩ ?_ ?_ ?_ ?_
 .obtain⟨o,es,ep,y,i,h3,h4,_,Y⟩:=c;exact⟨o,es,ep,e_ _ (B.keeps _ _ y),i,h3,h4,(λ_ z=>nomatch z),Y⟩
 .intro p H;obtain⟨o,t,b,n,N,f2,Z,o',its',n',J,g2⟩:=al p H;exact⟨o,t,b,n,f _ _ N,f2,Z,⟨o',its',n',f _ _ J,g2⟩,d _ _ N,d _ _ J⟩
 .intro j v e;obtain⟨q,p,H,rfl,o,X,y,U,hd⟩:=hT j v e;exact⟨q,p,H,rfl,d _ _ y,o,X,f _ _ y,U,hd⟩
 intro s' x I;obtain⟨h',g',d',C,D⟩:=s';have eg:g'=s.gens:=x.gens;have W:d'=s.drawn:=x.drawn;have eo:D=s.os:=x.os;subst eg W eo;exact⟨rfl,h h' C I λb o e=>x.heap b o (d b o e) (f b o e)⟩
def KM (l ks:List (NK × af × V)):List (NK × af × V):=ks.foldl (λl q=>Cj l q.1 q.2.1 q.2.2) l
theorem KA.mg:∀{ks:List (NK × af × V)}{ps:List PN}{l:List (NK × af × V)}{m:List PN},KA ks ps->KA l m->KA (KM l ks) (ps.foldl (λxs p=>js xs p.1 p.2.1 p.2.2) m)
 |_,_,_,_,.nil,h=>h
 | (k,b,v)::ks,(k',b',u)::ps,l,m,.cons ⟨e1,e2,rv⟩ r,h=>by
  dsimp only at e1 e2 rv
  subst e1 e2
  exact KA.mg (ks:=ks) (ps:=ps) r (h.put k b rv)
end L2
namespace L3
open L2
def EU (l kvs:List (NK × T)):List (NK × T):=kvs.foldl (λl q=>pJ q.1 q.2 l) l
theorem AO.mg {K:a6}:∀{kvs:List (NK × T)}{ks:List (NK × af × V)}{l:List (NK × T)}{m:List (NK × af × V)},AO K H kvs ks->AO K H l m->AO K H (EU l kvs) (KM m ks)
 |_,_,_,_,.nil,h=>h
 | (k,t)::kvs,(k',b,v)::ks,l,m,.cons ⟨e1,hk,rv⟩ r,h=>by
  dsimp only at e1 hk rv
  subst e1
  exact AO.mg (kvs:=kvs) (ks:=ks) r (h.put hk rv)
def Ew:T->Option (NK × T)
 |.tup [k,v]=>(FR k).map λk=>(k,v)
 |_=>ag
def ue:List T->Option (List (NK × T))
 |[]=>ab []
 |t::r=>match Ew t,ue r with
  |some p,ab ps=>ab (p::ps)
  |_,_=>ag
theorem uf {a:Type}(f:a->Int × List ap) (g:a->T):∀xs:List a,ue (xs.map λx=>t5 [.tup [.int (f x).1,.tup ((f x).2.map t4)],g x])=ab (xs.map λx=>(f x,g x))
 |[]=>rfl
 |x::r=>by
  rw[J_,J_]
  unfold ue
  rw[uf f g r]
  have e:Ew (.tup [.tup [.int (f x).1,.tup ((f x).2.map t4)],g x])=ab (f x,g x):=by
   show (FR (.tup [.int (f x).1,.tup ((f x).2.map t4)])).map _=_
   rw[Eu]
   rfl
  rw[e]
section
variable {X:Cx}
def ug {Z:L2.St} (I:Inv X c Z H s):∀{ts:List T}{us:List V}{a:List aw}{kvs:List (NK × T)},ue ts=ab kvs->ql X.K H ts us->wf us a ->
  ∃(ks:List (NK × af × V)) (ps:List PN),AO X.K H kvs ks/\KA ks ps/\ps.length=a.length/\(∀p∈ps,AS X.prog X.w s.heap p.1 p.2.1)/\∀(j:Nat) (v:aw),a[j]?=ab v->∃q p,ps[j]?=ab q/\v=.ref p/\QQ s.heap p (.ref q.2.1) q.2.2
 |[],us,a,kvs,e,r,rv=>by
  cases e
  rw[r.inv0] at rv
  cases rv
  exact⟨[],[],.nil,.nil,rfl,(λ_ z=>nomatch z),λj v h=>by simp at h⟩
 |t::ts,us,a,kvs,e,r,rv=>by
  unfold ue at e
  split at e
  ·
   rename_i p G d J
   cases e
   obtain⟨v,ur,rfl,k,R⟩:=r.inv
   cases rv with
   |cons q Q =>
    rename_i it Y
    obtain⟨ks,ps,a1,U,C,B,E⟩:=ug I J R Q
    unfold Ew at d
    split at d
    ·
     rename_i tk tv
     obtain⟨x,e3,rfl⟩:=IN.mp d
     obtain⟨W,xs,rfl,m,rs⟩:=k.tup
     obtain⟨k0,r1,rfl,L,g⟩:=rs.inv
     obtain⟨P,r2,rfl,N,l⟩:=g.inv
     obtain⟨b,rfl,u⟩:=yp e3 L
     rw[l.inv0] at m
     cases q
     obtain⟨y,f,⟨o,M,D,n,hd⟩,_⟩:=I.tuple m
     cases f with
     |cons z1 O =>
      rename_i F l2
      cases O with
      |cons z3 A =>
       rename_i S l3
       cases A
       cases (show F=a4 b from z1)
       refine⟨(x,b,P)::ks,(x,b,S)::ps,.cons ⟨rfl,u,N⟩ a1,.cons ⟨rfl,rfl,z3⟩ U,by simp [C],λp i=>?_,λj w h=>?_⟩
       ·
        rcases y_.mp i with rfl | i
        ·
         exact u.is I
        ·
         exact B p i
       ·
        cases j with
        |zero =>
         simp only[Y8,GA] at h
         subst h
         exact⟨_,W,rfl,rfl,o,n,M,D,hd⟩
        |succ j =>
         rw[Ze] at h |-
         exact E j w h
    ·
     cases d
  ·
   cases e
def Mn (w:bb) (o:Option O3) (H:gV) (Q:wv):Prop:=match o with
 |some (.lst xs)=>oq (ue xs) λkvs=>∀p,H p=ag->Q (.ref p) (eH H p (.dcn w (EU [] kvs)))
 |_=>False
def yt (w:bb):List T->gV->wv->Prop:=λts H Q=>match ts with
 |[.ref a]=>Mn w (H a) H Q
 |_=>False
theorem yu (w:bb) (a:af) (H:gV) (Q:wv):yt w [.ref a] H Q=Mn w (H a) H Q:=rfl
theorem MN (w:bb) (xs:List T) (H:gV) (Q:wv):Mn w (ab (.lst xs)) H Q=oq (ue xs) λkvs=>∀p,H p=ag->Q (.ref p) (eH H p (.dcn w (EU [] kvs))):=rfl
theorem Ex (E:X.w=w) (M:X.A.units+40<cc) (C:X.calm=ai):dC X (.type "dict") (yt w):=by
 subst E;intro q s Z H xs us Q I L h;obtain⟨ts,H3,Q3,r,l,h,k⟩:=h
 match ts,h,r with
 |[.ref a],h,r =>
 obtain⟨v,rfl,g⟩:=r.one';obtain⟨u,rfl,m⟩:=xz L;rw[g.ref] at m;cases m;rw[yu] at h;cases e:H3 a with
 |none=>rw[e] at h;exact h.elim
 |some o =>
 rw[e] at h;cases o with
 |lst W =>
  rw[MN] at h;cases i:ue W with
  |none=>rw[i] at h;exact h.elim
  |some kvs =>
  rw[i,dZ] at h;obtain⟨ys,G,U⟩:=l a _ e;obtain⟨z,T,n,N,p,F⟩:=I.lstM G;obtain⟨ks,ps,R,O,x,t,D⟩:=ug I i U N;have f:H s.heap.objs.size=ag:=I.hok.fresh (u_ _);refine t7 M (I.ok.hd C) F (by rw[x_];exact x) (by rw[x_];omega) t (λj v e=>D j v (by simpa using e)) λh' tk V S=>?_;have b:KA (KM [] ks) (A9 ps):=KA.mg O .nil;have B:(KM [] ks).length<=av:=by have h1:=EK b;have h2:=(qP ps).1;omega
  obtain⟨o,P,ep,J,Y,y,d4,_,K⟩:=V;refine⟨.ref s.heap.objs.size,_,I.laid (a:=s.heap.objs.size) (h':=h') (t':=tk) S (u_ _) (C5.ok (w:=X.w) ⟨B,Y6.mpr (YT I.big),_,b,o,P,ep,J,Y,y,d4,K⟩),rfl,?_⟩;refine k _ _ _ _ (aQ f) (λc u z=>?_) .ofRef (h _ (l.fresh f));by_cases d:c=s.heap.objs.size
  .subst d;rw[aq] at z;cases z;exact⟨_,cI,(AO.mg R .nil).mono (aQ f)⟩
  rw[aH d] at z;exact l.new f c u z
 |_=>exact h.elim
end
def Ey:R3:=λx y H Q=>match x,y with
 |.tup [.int i,.int j],.tup [.int k,.int l]=>Q (.bl (if i=k then decide (j<l) else decide (i<k))) H
 |_,_=>False
theorem V3 (i j k l:Int):Ey (.tup [.int i,.int j]) (.tup [.int k,.int l]) H Q=Q (.bl (if i=k then decide (j<l) else decide (i<k))) H:=rfl
theorem Q0 (F:X.A.units+30<cc):d7 X (a9 .Lt) Ey:=by
 refine xB.imp (O9 uS) ?_;rintro x y H Q ⟨K,E,H3,Q3,q,o,w,h,k⟩;unfold Ey at h;split at h
 .rename_i i j d l;obtain⟨a,xs,rfl,f,t⟩:=q.tup;obtain⟨b,I,rfl,g,r⟩:=o.tup;obtain⟨D,M,rfl,p1,s⟩:=t.inv;obtain⟨G,B,rfl,m,v⟩:=s.inv;obtain⟨v3,L,rfl,n,u⟩:=r.inv;obtain⟨C,J,rfl,z,p⟩:=u.inv;rw[v.inv0,p1.int,m.int] at f;rw[p.inv0,n.int,z.int] at g;refine⟨a,b,[i,j],[d,l],rfl,rfl,f,g,k _ _ _ _ .refl w .ofBl ?_⟩;have e:HT.lexLt [i,j] [d,l]=if i=d then decide (j<l) else decide (i<d):=by
   rw[HT.acB,HT.acB,HT.acA];by_cases c:j=l
   .rw[we c,show decide (j<l)=am from m_ uS]
   rw[wc c]
  rw[e];exact h
 exact h.elim
theorem O0 (r:zc k A):A.units+40<cc:=by have:=r.un;omega
theorem wC (s:X.w=w) (C:X.A.units+30<cc) (D:wP X i ti) (t:wP X o td) (z:b9 .NotIn o=am:=by rfl):BB X (.Compare i [.NotIn] [o] P9) (jw (wA w ai ti td)):=by
 subst s;refine PT.imp (vd (Aj C D t) z) ?_;rintro Z H Q ⟨p,H3,Q3,n,I,h,k⟩;refine⟨p,H3,_,n,I,h,λy J K m d l r B=>⟨p,m,_,n.mono d,l,B,λx L M F f j u G=>?_⟩⟩;obtain⟨a,b,v,ks,c,g,e,q⟩:=yq (neg:=ai) (w:=X.w) (Q3:=λx E=>match x with | .bl k=>Q3 k E | _=>False) j u (r.mono f) G;exact⟨a,b,v,ks,g,c,by rw[e],k _ _ _ (d.trans f) j q⟩
theorem JK (g:A.handled=ag) (it t:af) (c:t≠it) (a:Array aw) (k:Nat) (b:a[k]?=ag):
  kB prog w A it [it,t] k (λ_ _=>True) (λi h=>i=k/\h.IsListIter it t i/\h.IsList t a) where
 live:=λ_ _ st=>let ⟨o,ho,_⟩:=st.2.1;⟨o,ho⟩
 frame:=λ_ _ _ st b=>⟨st.1,st.2.1.at λo e=>b it wn o e,st.2.2.at λo e=>b t wn o e⟩
 item:=λi s Q E f st j=>wT st.1 (L_ f)
 done:=λs Q E st d=>wpAny_nextOf_list_end g st.2.1 st.2.2 b d
structure Fu where
 Sq:a6->Hp->af->List V->Prop
 It:ci->af->af->Nat->Prop
 Is:ci->af->Array aw->Prop
 itAt:∀{h h':ci} {it a:af} {i:Nat},It h it a i->(∀o,h.get? it=ab o->h'.get? it=ab o)->It h' it a i
 itOb:∀{h:ci} {it a:af} {i:Nat},It h it a i->∃o,h.get? it=ab o/\∀v,o.data≠.cell v
 lt:∀{h:ci} {a:af} {xs:Array aw},Is h a xs->a<h.objs.size
 seq:∀{X:Cx} {pins:List (af × dQ)} {Z:L2.St} {H:Hp} {s:aI} {a:af} {xs:List V},L2.Inv X pins Z H s->Sq X.K H a xs->∃its:List aw,wf xs its/\Is s.heap a its.toArray
 inj:∀{X:Cx} {pins:List (af × dQ)} {Z:L2.St} {H:Hp} {s:aI} {a:af} {xs ys:List V},L2.Inv X pins Z H s->Sq X.K H a xs->Sq X.K H a ys->xs=ys
 dr:∀{prog:br} {w:bb} {A:dA} (hh:A.handled=ag) (it t:af) (hne:t≠it) (items:Array aw),kB prog w A it [it,t] items.size (λi v=>items[i]?=ab v) (λi h=>It h it t i/\Is h t items)
 drE:∀{prog:br} {w:bb} {A:dA} (hh:A.handled=ag) (it t:af) (hne:t≠it) (items:Array aw) (k:Nat) (hk:items[k]?=ag),kB prog w A it [it,t] k (λ_ _=>True) (λi h=>i=k/\It h it t i/\Is h t items)
def kL:Fu:=⟨y8,λh=>h.IsListIter,λh=>h.IsList,λx k=>x.at k,λ⟨o,e,_,d⟩=>⟨o,e,λv z=>by rw[d] at z;cases z⟩,λ⟨_,e,_⟩=>F_ e,λI q=>let ⟨its,r,p,_⟩:=I.list q;⟨its,r,p.isList⟩,λI a b=>I.list_inj a b,Draws.list,JK⟩
def kT:Fu:=⟨yB,λh=>h.IsTupleIter,λh=>h.IsTuple,λx k=>x.at k,λ⟨o,e,_,d⟩=>⟨o,e,λv z=>by rw[d] at z;cases z⟩,λ⟨_,e,_⟩=>F_ e,λI q=>let ⟨its,r,p,_⟩:=I.tuple q;⟨its,r,p⟩,λI a b=>I.tuple_inj a b,Qx,Qy⟩
def Q4 (e d:Fu) (K:a6) (a b:af):It :=
 ⟨λi H=>∃xs c x y,e.Sq K H a xs/\d.Sq K H b c/\xs[i]?=ab x/\c[i]?=ab y,
  λi H v f=>∃p x y,v=.ref p/\H p=ag/\f=wS H p (.tup [x,y])/\(∀xs,e.Sq K H a xs->xs[i]?=ab x)/\∀c,d.Sq K H b c->c[i]?=ab y,
  λi H=>∃xs c,e.Sq K H a xs/\d.Sq K H b c/\(xs.length<=i\/c.length<=i)⟩
def Ym (d c:Fu) (a b z e f g j:af) (i:Nat) (h:ci):Prop:=f7 h z e f .none/\c9 h e (.ref g) (.ref j)/\(∃u v,c9 h f u v)/\d.It h g a i/\c.It h j b i
theorem Ak (f g:Fu) {K:a6} (a b z t n j l:af) (M:a<j/\b<j) (V:j<l) (l3:l<t) (l4:t<n) (l5:n<z):
  BO P w K (.Tuple S x1 P9) (Q4 f g K a b) [z,t,n,j,l] z (Ym f g a b z t n j l) where
 mem:=A_
 obj:=λi h st c d=>by
  obtain⟨F,C,⟨u,v,L⟩,J,G⟩:=st
  simp only[y_,YJ,AJ] at d
  rcases d with rfl | rfl | rfl | rfl | rfl
  ·
   exact⟨_,F,λv z=>by cases z⟩
  ·
   exact⟨_,C,λv z=>by cases z⟩
  ·
   exact⟨_,L,λv z=>by cases z⟩
  ·
   exact f.itOb J
  ·
   exact g.itOb G
 keep:=λi h h' st k=>by
  obtain⟨F,C,⟨u,v,L⟩,J,G⟩:=st
  exact⟨k z wn _ F,k t wn _ C,⟨u,v,k n wn _ L⟩,f.itAt J λo e=>k j wn o e,g.itAt G λo e=>k l wn o e⟩
 item:=by
  intro X hP hw hK d i m s Z H E I U st hg
  subst hP hw hK
  obtain⟨xs,ys,x,y,qx,qy,ex,ey⟩:=hg
  obtain⟨p,rv,p1⟩:=f.seq I qx
  obtain⟨r,N,p2⟩:=g.seq I qy
  obtain⟨u,hu,ru⟩:=rv.get ex
  obtain⟨v,hv,rv'⟩:=N.get ey
  have F:=st.1
  have C:=st.2.1
  obtain⟨a0,b0,L⟩:=st.2.2.1
  have J:=st.2.2.2.1
  have G:=st.2.2.2.2
  have Y:p.toArray[i]?=ab u:=by simpa using hu
  have hv':r.toArray[i]?=ab v:=by simpa using hv
  have D:AM z t n j l [j,a] [l,b]:=Oy M V l3 l4 l5
  have d1:=f.dr (prog:=X.prog) (w:=X.w) (A:=X.A.in1) (I.ok.hd d) j a (L_ M.1) p.toArray
  have d2:=g.dr (prog:=X.prog) (w:=X.w) (A:=X.A.in1) (I.ok.hd d) l b (L_ (YX M.2 V)) r.toArray
  refine Jv d1 d2 D F C L ⟨J,p1⟩ ⟨G,p2⟩ (Array.getElem?_eq_some_iff.mp Y).1 (Array.getElem?_eq_some_iff.mp hv').1 λO Q h' tk px py hz' hO' s1 s2 hT hsz kp=>?_
  have e1:O=u:=P_ (px.symm.trans Y)
  have e2:Q=v:=P_ (py.symm.trans hv')
  subst e1 e2
  refine⟨_,rfl,wpAny_letOwnedTupleGo_zip hz' λT hz2' sb=>?_⟩
  have W:∀c o,c∉[z,n,j,l]->s.heap.get? c=ab o->T.get? c=ab o:=λc o nc e=>(sb.2 c λq=>nc (q▸A_)).trans (kp c o nc e)
  have B:∀c∈[z,n,j,l],c∈[z,t,n,j,l]:=λc d=>by simp only[y_,YJ,AJ] at d |-;rcases d with q | q | q | q <;> simp [q]
  have R:∀{c o},s.heap.get? c=ab o->s.heap.objs.size≠c:=λe=>YT (F_ e)
  have lt1:∀{c:af},c∈[z,t,n,j,l]->c≠s.heap.objs.size:=λ{c} d=>by
   simp only[y_,YJ,AJ] at d
   rcases d with q | q | q | q | q <;> subst q
   ·
    exact a7 (R F)
   ·
    exact a7 (R C)
   ·
    exact a7 (R L)
   ·
    obtain⟨o,e,_⟩:=f.itOb J;exact a7 (R e)
   ·
    obtain⟨o,e,_⟩:=g.itOb G;exact a7 (R e)
  have hTz:s.heap.objs.size≠z:=R F
  have I1:Inv X m Z (wS H s.heap.objs.size (.tup [x,y])) { s with heap:=s.heap.push { cls:=.type "tuple",data:=.seq #[O,Q]},toks:=tk} :=
   I.laid (t':=tk) (λb o e=>e_ _ e) (u_ _) (show y4 X.prog X.w _ _ _ (.tup [x,y]) from ⟨by show 2<=av;decide,[O,Q],.cons ru (.cons rv' .nil),DO.new _ _⟩)
  have I2:Inv X m Z (wS H s.heap.objs.size (.tup [x,y])) { s with heap:=T,toks:=tk}:=ye (s:={ s with heap:=s.heap.push { cls:=.type "tuple",data:=.seq #[O,Q]},toks:=tk}) (ch:=[z,n,j,l]) (t':=tk) I1 (λc o nc e=>by
   by_cases q:c=s.heap.objs.size
   ·
    subst q
    have e':(s.heap.push { cls:=.type "tuple",data:=.seq #[O,Q]}).get? s.heap.objs.size=ab o:=e
    rw[E_ _ rfl] at e'
    cases e'
    exact (sb.2 _ hTz).trans hT
   ·
    have e':(s.heap.push { cls:=.type "tuple",data:=.seq #[O,Q]}).get? c=ab o:=e
    rw[Heap.get?_push_ne _ _ _ q] at e'
    exact W c o nc e') λc d=>⟨by rw[bz (lt1 (B c d))];exact (U c (B c d)).1,(U c (B c d)).2⟩
  refine⟨.ref s.heap.objs.size,_,I2,rfl,⟨s.heap.objs.size,x,y,rfl,I.hok.fresh (u_ _),rfl,λzs hq=>by rw[f.inj I hq qx];exact ex,λzs hq=>by rw[g.inj I hq qy];exact ey⟩,?_,λc d=>by rw[bz (lt1 d)];exact (U c d).1⟩
  have n1:t≠z:=D.ne.1
  refine⟨hz2',?_,⟨O,Q,(sb.2 n D.ne.2.1).trans hO'⟩,f.itAt s1.1 λo e=>(sb.2 j D.i1z).trans e,g.itAt s2.1 λo e=>(sb.2 l D.i2z).trans e⟩
  refine W t _ ?_ C
  simp only[y_,YJ,AJ,not_or]
  exact⟨D.ne.1,D.ne.2.2.1,a7 D.i1ti,a7 D.i2ti⟩
 done:=by
  intro X hP hw hK d i m s Z H E I U st hg
  subst hP hw hK
  obtain⟨xs,ys,qx,qy,hg⟩:=hg
  obtain⟨p,rv,p1⟩:=f.seq I qx
  obtain⟨r,N,p2⟩:=g.seq I qy
  have F:=st.1
  have C:=st.2.1
  obtain⟨a0,b0,L⟩:=st.2.2.1
  have J:=st.2.2.2.1
  have G:=st.2.2.2.2
  have n1:=rv.length
  have n2:=N.length
  have D:AM z t n j l [j,a] [l,b]:=Oy M V l3 l4 l5
  have fin:∀(h':ci) (tk:Nat),(∀c o,c∉[z,n,j,l]->s.heap.get? c=ab o->h'.get? c=ab o)->(ag:Option aw)=ag/\Inv X m Z H { s with heap:=h',toks:=tk}:=λh' tk kp=>⟨rfl,ye I kp λc d=>U c (by
   simp only[y_,YJ,AJ] at d |-;rcases d with q | q | q | q <;> simp [q])⟩
  have d1:=f.dr (prog:=X.prog) (w:=X.w) (A:=X.A.in1) (I.ok.hd d) j a (L_ M.1) p.toArray
  have d2:=g.dr (prog:=X.prog) (w:=X.w) (A:=X.A.in1) (I.ok.hd d) l b (L_ (YX M.2 V)) r.toArray
  by_cases hi:xs.length<=i
  ·
   have e1:=f.drE (prog:=X.prog) (w:=X.w) (A:=X.A.in1) (I.ok.hd d) j a (L_ M.1) p.toArray i (by simp;omega)
   exact DK (k:=i) e1 d2 D F C L ⟨rfl,J,p1⟩ ⟨G,p2⟩ (.inl rfl) fin
  ·
   have hy:ys.length<=i:=hg.resolve_left hi
   have e2:=g.drE (prog:=X.prog) (w:=X.w) (A:=X.A.in1) (I.ok.hd d) l b (L_ (YX M.2 V)) r.toArray i (by simp;omega)
   exact DK (k:=i) d1 e2 D F C L ⟨J,p1⟩ ⟨rfl,G,p2⟩ (.inr ⟨by simp;omega,rfl⟩) fin
 self:=λ_ _ _ _ _ st h=>ox st.1 h
abbrev Ez (t:af):dQ:={ cls:=.type "list_iterator",data:=.fields #[.ref t,.int 0 0]}
theorem wD (a b:af) (xs n:Array aw) :
  Meets (et.«zip.__new__» ⟨[.type "zip",.ref a,.ref b],[]⟩) (λ_ R s=>s.heap.IsTuple a xs/\s.heap.IsList b n/\∀l k c m,l=s.heap.push (Mm a)->k=l.push (Ez b)->c=k.push { cls:=.type "tuple",data:=.seq #[.ref s.heap.objs.size,.ref l.objs.size]}->m=c.push { cls:=.type "tuple",data:=.seq #[.none,.none]} ->
   R (.ok (.ret (.ref m.objs.size))) { s with heap:=m.push { cls:=.type "zip",data:=.fields #[.none,.bool am,.bool am,.ref k.objs.size,.ref c.objs.size]}}) :=
 .of_wp λprog w A R s h=>by
  obtain⟨o,g,d,tk,os⟩:=s;obtain⟨f,j,h⟩:=h;have p:=sub_zip;have e:Heap.IsTuple (Shared.heap ⟨o,g,d,tk,os⟩) a xs:=f;have i:Heap.IsList (Shared.heap ⟨o.push { cls:=.type "tuple_iterator",data:=.fields #[.ref a,.int 0 0]},g,d,tk,os⟩) b n:=Heap.IsList.push j _
  wp_walk using mv e,JO i
  exact⟨_,rfl,h _ _ _ _ rfl rfl rfl rfl⟩
section
variable {s:aI}
theorem Al (j:s.heap.IsTuple e xs) (k:s.heap.IsList f y) (h:∀h' i1 i2 ti to z,f7 h' z ti to .none->c9 h' ti (.ref i1) (.ref i2)->c9 h' to .none .none->h'.IsTupleIter i1 e 0->h'.IsListIter i2 f 0 ->
   s.heap.objs.size<=i1->i1<i2->i2<ti->ti<to->to<z->(∀c o,s.heap.get? c=ab o->h'.get? c=ab o)->Q (.ref z) { s with heap:=h'}):
  ay (aT prog w) A (jS (.type "zip") [.ref e,.ref f]) Q E s:=by
 refine callType_new F.called_zip vS (F.typeCall_zip_2 _ _) (F.newCall_zip_2 _ _) (λn=>F.args_object_init_3 n _ _) F.entry_zip_new
  (wD e f xs y) ⟨j,k,λa b d g t l u m=>?_⟩
 have p:∀(h:ci) (o:dQ),h.objs.size<(h.push o).objs.size:=λh o=>by rw[EX];exact ZD _
 have x:=E_ g (o:={ cls:=.type "zip",data:=.fields #[.none,.bool am,.bool am,.ref b.objs.size,.ref d.objs.size]}) rfl;have H:g.get? d.objs.size=ab { cls:=.type "tuple",data:=.seq #[.none,.none]}:=by rw[m];exact E_ _ rfl
 have D:d.get? b.objs.size=ab { cls:=.type "tuple",data:=.seq #[.ref s.heap.objs.size,.ref a.objs.size]}:=by rw[u];exact E_ _ rfl
 have G:b.get? a.objs.size=ab (Ez f):=by rw[l];exact E_ _ rfl
 have B:a.get? s.heap.objs.size=ab (Mm e):=by rw[t];exact E_ _ rfl
 have C:∀c o,s.heap.get? c=ab o->a.get? c=ab o:=λc o q=>by rw[t];exact e_ _ q
 have v:∀c o,a.get? c=ab o->b.get? c=ab o:=λc o q=>by rw[l];exact e_ _ q
 have r:∀c o,b.get? c=ab o->d.get? c=ab o:=λc o q=>by rw[u];exact e_ _ q
 have i:∀c o,d.get? c=ab o->g.get? c=ab o:=λc o q=>by rw[m];exact e_ _ q
 refine⟨⟨_,x,rfl⟩,h _ s.heap.objs.size a.objs.size b.objs.size d.objs.size g.objs.size x (e_ _ (i _ _ D)) (e_ _ H) ⟨_,e_ _ (i _ _ (r _ _ (v _ _ B))),rfl,rfl⟩ ⟨_,e_ _ (i _ _ (r _ _ G)),rfl,rfl⟩
  (u_ _) ?_ ?_ ?_ ?_ λc o q=>e_ _ (i _ _ (r _ _ (v _ _ (C _ _ q))))⟩
 .rw[t];exact p _ _
 .rw[l];exact p _ _
 .rw[u];exact p _ _
 rw[m];exact p _ _
end
def EY (b a:Fu) (prog:br) (w:bb):Prop:=∀(A:dA) (E:aw->aI->Prop) (s:aI) (t1 t2:af) (xs ys:Array aw) (Q:aw->aI->Prop),b.Is s.heap t1 xs->a.Is s.heap t2 ys ->
 (∀h' f g d e z,f7 h' z d e .none->c9 h' d (.ref f) (.ref g)->c9 h' e .none .none->b.It h' f t1 0->a.It h' g t2 0->s.heap.objs.size<=f->f<g->g<d->d<e->e<z->(∀c o,s.heap.get? c=ab o->h'.get? c=ab o)->Q (.ref z) { s with heap:=h'}) ->
 ay (aT prog w) A (jS (.type "zip") [.ref t1,.ref t2]) Q E s
theorem PD:EY kL kL prog w:=λ_ _ _ _ _ _ _ _ p1 b h=>call_zip_2 p1 b λh' c f d g e _ a=>h h' _ _ _ _ _ c f d g e (u_ _) (ZD _) (ZD _) (ZD _) (ZD _) a
section
variable {X:Cx}{QO:List Expr}{x1:Nat}{QP P9 p:mi}
def V4 (d c:Fu) (K:a6) (t:TA):TI:=λZ H R=>t Z H λvs e=>∃a b,vs=[.ref a,.ref b]/\(∃xs,d.Sq K e a xs)/\(∃f,c.Sq K e b f)/\R (Q4 d c K a b) e
theorem yw (E:EY d f X.prog X.w) (J:Gl X "zip") (O:X.mg "zip"=ag) (hv:a8 "zip"=ab (.type "zip")) (ha:PA X [ea,eb] t) (W:aE [ea,eb] X.env=[(am,bP ea X.env),(am,bP eb X.env)]:=by rfl) (i:aE [eb] X.env=[(am,bP eb X.env)]:=by rfl):
  PI X (.Tuple QO x1 QP) (.Call (.Name "zip" p) [ea,eb] [] P9) (V4 d f X.K t):=by
 intro g s Z H R I h;refine Call_ (gY I J O hv (Za (wx (ha P9 g s Z H _ I h) λus P ⟨vs,v,j,r1,Q⟩=>?_) (by rw[W,i]) (by rw[i];rfl)));obtain⟨a,b,e,⟨xs,N⟩,⟨ys,L⟩,q⟩:=Q;subst e;cases r1 with
 |cons r n =>
 cases n with
 |cons S n =>
 cases n;cases r;cases S;obtain⟨its,rv,p1⟩:=d.seq j N;obtain⟨D,T,o⟩:=f.seq j L;refine E _ _ _ _ _ _ _ _ p1 o λh' m A x y z u hI hO M V l F B G C Y=>ox u ?_;have U:∀c,m<=c->lY X g v c:=λc k=>j.fpOk (R_ l k) (j.hok.fresh (R_ l k));refine⟨z,[z,x,y,m,A],_,_,v,rfl,j.kept (t':=P.toks) Y,Ak d f a b z x y m A ⟨Yz (d.lt p1) l,Yz (f.lt o) l⟩ F B G C,⟨u,hI,⟨_,_,hO⟩,M,V⟩,λc k=>U c ?_,q⟩;simp only[y_,YJ,AJ] at k;simp only[af] at *;omega
def pK {K:a6} (B:∀d c,Pr K H d->My K c d->S c->(∃xs,h.Sq K d a xs/\ql K d ts xs)/\∃f,j.Sq K d b f/\ql K d us f):mK K (Q4 h j K a b) (gh ts us) S H:=λd c G w st=>by
 obtain⟨⟨xs,o,s⟩,f,n,u⟩:=B d c G w st;have L:=s.length;have M:=u.length;refine⟨λi E=>⟨xs,f,o,n,by rw[tD] at E;omega⟩,λi t e=>?_⟩;rw[tu] at e;cases k:ts[i]? with
 |none=>rw[k] at e;cases e
 |some x =>
 cases m:us[i]? with
 |none=>rw[k,m] at e;cases e
 |some y =>
 rw[k,m] at e;cases e;obtain⟨v,r,C⟩:=s.get k;obtain⟨A,g,l⟩:=u.get m;refine⟨⟨xs,f,v,A,o,n,r,g⟩,λz J F=>?_⟩;obtain⟨p,N,O,rfl,q,rfl,D,I⟩:=F;have:=(D xs o).symm.trans r;cases this;have:=(I f n).symm.trans g;cases this;exact⟨aQ q,w.new q,My.newTup (H3:=c) q (.cons C (.cons l .nil))⟩
def L4 (o u:Option O3) (a b:af) (H:gV) (R:List T->(gV->Prop)->gV->Prop):Prop:=match o,u with
 |some (.lst xs),ab (.lst ys)=>R (gh xs ys) (λc=>bI a xs c/\bI b ys c) H
 |_,_=>False
def Fb (d:AK):CU:=λZ H R=>d Z H λvs c=>match vs with
 |[.ref a,.ref b]=>L4 (c a) (c b) a b c R
 |_=>False
theorem yx (G:Gl X "zip") (x:X.mg "zip"=ag) (F:A5 X [ea,eb] j) (A:aE [ea,eb] X.env=[(am,bP ea X.env),(am,bP eb X.env)]:=by rfl) (f:aE [eb] X.env=[(am,bP eb X.env)]:=by rfl):
  C6 X (.Tuple QO x1 QP) (.Call (.Name "zip" p) [ea,eb] [] P9) (Fb j):=by
 refine PI.imp (yw PD G x DN F A f) ?_;rintro Z H R ⟨m,H3,R3,E,D,h,k⟩;refine⟨m,H3,_,E,D,h,λvs e ts c B d r q=>?_⟩
 match ts,q,r with
 |[.ref a,.ref b],q,r =>
  have g:(match c a,c b with
   |some (.lst xs),ab (.lst i)=>R3 (gh xs i) (λe=>bI a xs e/\bI b i e) c
   |_,_=>False):=q
  obtain⟨v,w,rfl,C,l⟩:=r.two'
  split at g
  ·
   rename_i xs i y o
   obtain⟨us,u,I⟩:=d.sqL (.inl y)
   obtain⟨n,t,J⟩:=d.sqL (.inl o)
   exact⟨a,b,by rw[C.ref,l.ref],⟨_,u⟩,⟨_,t⟩,k _ _ _ e c B d (pK λ_ _ _ s z=>⟨s.sqL z.1,s.sqL z.2⟩) g⟩
  ·
   exact g.elim
def JL (d:AK) {Z:xv}{H:gV}{R:List T->(gV->Prop)->gV->Prop}:Fb d Z H R=d Z H λvs c=>match vs with
 |[.ref a,.ref b]=>L4 (c a) (c b) a b c R
 |_=>False:=rfl
theorem MP (xs c:List T) (a b:af) (H:gV) (R:List T->(gV->Prop)->gV->Prop):L4 (ab (.lst xs)) (ab (.lst c)) a b H R=R (gh xs c) (λd=>bI a xs d/\bI b c d) H:=rfl
end
open L2 PySem.W
section
variable {O:kf}
def Kw (O:kf) (key:Nat->O.α) (n:Nat) {b:Type}:KasT b->(b->Prop)->Prop
 |.ret a,Q=>Q a
 |.ask i j k,Q=>i<n/\j<n/\Kw O key n (k (O.blt (key i) (key j))) Q
theorem Kw.bind {f:b->KasT c}{Q:c->Prop}:∀{t:KasT b},Kw O key n t (λa=>Kw O key n (f a) Q)->Kw O key n (t.bind f) Q
 |.ret a,h=>h
 |.ask i j k,h=>⟨h.1,h.2.1,Kw.bind h.2.2⟩
theorem Kw.wp (e:∀i j (C:Bool->aI->Prop),i<n->j<n->C (O.blt (key i) (key j)) s->b i j C s) {Q:c->Prop}{R:c->aI->Prop} (d:∀a,Q a->R a s):
  ∀{t:KasT c},Kw O key n t Q->t.kasWp b R s
 |.ret a,h=>d a h
 |.ask i j k,h=>e i j _ h.1 h.2.1 (Kw.wp e d h.2.2)
structure Pm (n:Nat) (p:Array Nat):Prop where
 pm:p.toList.Perm (ax n)
 n1:1<=n
theorem Pm.sz (h:Pm n p):p.size=n:=by
 have:=h.pm.length_eq;rw[D_] at this;simpa using this
theorem Pm.lt (h:Pm n p) (i:Nat):p.getD i 0<n:=by
 rw[Z9];by_cases a:i<p.size
 .rw[Ll a];exact T_.mp (h.pm.mem_iff.mp wn)
 rw[Array.getElem?_eq_none uS];exact h.n1
theorem Pm.by (h:Pm n p) (e:q.Perm p):Pm n q:=⟨(Array.perm_iff_toList_perm.mp e).trans h.pm,h.n1⟩
def Ky (O:kf) (key:Nat->O.α) (p:Array Nat) (i:Nat):O.α:=key (p.getD i 0)
def Up (O:kf) (key:Nat->O.α) (p:Array Nat) (k:Nat):Prop:=∀i j,i<=j->j<k->O.kle (Ky O key p i) (Ky O key p j)
def Dn (O:kf) (key:Nat->O.α) (p:Array Nat) (k:Nat):Prop:=∀i j,i<=j->j<k->O.kle (Ky O key p j) (Ky O key p i)
theorem Ky.congr (h:p[i]?=q[j]?):Ky O key p i=Ky O key q j:=by unfold Ky;rw[Z9,Z9,h]
theorem Ky.mir (a:j<=p.size) (k:Nat):Ky O key (kas_rev p i j) k=if i<=k/\k<j then Ky O key p (i+j - 1 - k) else Ky O key p k:=by
 have e:=getElem?_mirror_all (i:=i) a k;split at e <;> rename_i h
 .rw[we h];exact Ky.congr e
 rw[wc h];exact Ky.congr e
theorem Ky.mirEq (b:j<=p.size) (a:∀k,i<=k->k<j->Ky O key p k=Ky O key p (j - 1)) (k:Nat):Ky O key (kas_rev p i j) k=Ky O key p k:=by
 rw[Ky.mir b];split
 .rw[a _ uS uS,a k uS uS]
 rfl
theorem Ky.bub (c:s<p.size) (f:d<=s) (k:Nat):Ky O key (bubble p s d) k=if k=s - d then Ky O key p s else if s - d<k/\k<=s then Ky O key p (k - 1) else Ky O key p k:=by
 have e:=getElem?_bubble c d f k;by_cases a:k=s - d
 .rw[we a] at e |-;exact Ky.congr e
 rw[wc a] at e |-;by_cases b:s - d<k/\k<=s
 .rw[we b] at e |-;exact Ky.congr e
 rw[wc b] at e |-;exact Ky.congr e
theorem Pm.rev (h:Pm n p) (i j:Nat):Pm n (kas_rev p i j):=h.by (mirror_perm _ _ _ _)
theorem Up.one:Up O key p 1:=λi j b a=>by
 obtain rfl:i=j:=by omega
 exact E3 _
theorem Up.more (d:1<=k) (h:Up O key p k) (e:O.kle (Ky O key p (k - 1)) (Ky O key p k)):Up O key p (k+1):=λi j c f=>by
 by_cases a:j<k
 .exact h i j c a
 obtain rfl:j=k:=by omega
 by_cases b:i=j
 .subst b;exact E3 _
 exact e6 (h i (j - 1) uS uS) e
theorem Dn.more (d:1<=k) (h:Dn O key p k) (e:O.kle (Ky O key p k) (Ky O key p (k - 1))):Dn O key p (k+1):=λi j c f=>by
 by_cases a:j<k
 .exact h i j c a
 obtain rfl:j=k:=by omega
 by_cases b:i=j
 .subst b;exact E3 _
 exact e6 e (h i (j - 1) uS uS)
theorem wF (b:Pm n p):∀(f a:Nat),1<=a->Up O key p a->(∀m,a<=m->m<=a+f->Up O key p m->m=a+f\/O.klt (Ky O key p m) (Ky O key p (m - 1))->Q m)->Kw O key n (kas_asc p f a) Q
 |0,a,_,h,k=>k a (u_ _) (u_ _) h (.inl rfl)
 |f+1,a,ha,h,k=>by
  refine⟨b.lt _,b.lt _,?_⟩
  cases e:O.blt (key (p.getD a 0)) (key (p.getD (a - 1) 0)) with
  |true=>exact k a (u_ _) uS h (.inr e)
  |false=>exact wF b f (a+1) uS (h.more ha e) λm i g c d=>k m uS uS c (d.imp (λq=>by omega) id)
theorem lO:∀(f:Nat) (p:Array Nat) (a q:Nat),Pm n p->1<=a->a+f<=n->Dn O key p a->q+1<=a->(∀i,a - (q+1)<=i->i<a->Ky O key p i=Ky O key p (a - 1)) ->
  (∀b m r,Pm n b->a<=m->m<=a+f->Dn O key b m->r+1<=m->(∀i,m - (r+1)<=i->i<m->Ky O key b i=Ky O key b (m - 1))->Q (b,m,r))->Kw O key n (kas_desc f p a q) Q
 |0,p,a,q,hp,_,_,h,hq,he,k=>k p a q hp (u_ _) (u_ _) h hq he
 |f+1,p,a,q,hp,ha,hn,h,hq,he,k=>by
  refine⟨hp.lt _,hp.lt _,?_⟩
  cases e:O.blt (key (p.getD a 0)) (key (p.getD (a - 1) 0)) with
  |true =>
   have z:a<=p.size:=by rw[hp.sz];omega
   have s:∀b:Array Nat,∀i,a+1 - (0+1)<=i->i<a+1->Ky O key b i=Ky O key b (a+1 - 1):=λb i v u=>by rw[show i=a+1 - 1 by omega]
   dsimp only
   rw[we rfl]
   by_cases l:q>0
   ·
    rw[we l]
    have t:=Ky.mirEq (O:=O) (key:=key) (i:=a - (q+1)) z he
    refine lO f _ (a+1) 0 (hp.rev _ _) uS uS (Dn.more ha (λi j v u=>by rw[t,t];exact h i j v u) (by rw[t,t];exact IZ e)) uS (s _) λb m r c y w o g d=>k b m r c uS uS o g d
   ·
    rw[wc l]
    exact lO f p (a+1) 0 hp uS uS (h.more ha (IZ e)) uS (s _) λb m r c y w o g d=>k b m r c uS uS o g d
  |false =>
   dsimp only
   rw[wc K_]
   refine⟨hp.lt _,hp.lt _,?_⟩
   cases B:O.blt (key (p.getD (a - 1) 0)) (key (p.getD a 0)) with
   |true=>exact k p a q hp (u_ _) uS h hq he
   |false =>
    dsimp only
    rw[wc K_]
    have x:Ky O key p a=Ky O key p (a - 1):=l6 B e
    refine lO f p (a+1) (q+1) hp uS uS (h.more ha (by rw[x];exact E3 _)) uS (λi v u=>?_) λb m r c y w o g d=>k b m r c uS uS o g d
    rw[show a+1 - 1=a by omega]
    by_cases A:i=a
    ·
     rw[A]
    ·
     rw[x];exact he i uS uS
theorem yz (b:Pm n p) (d:1<=a) (f:a<=n) (h:Dn O key p a) (k:∀m p',Pm n p'->1<=m->m<=n->Up O key p' m->Q (m,p')):Kw O key n (kas_tail3 a n p) Q:=by
 refine Kw.bind (wF (b.rev 0 a) _ a d (λi j l g=>?_) λm l g e _=>k m _ (b.rev 0 a) uS uS e);have c:a<=p.size:=by rw[b.sz];exact f
 rw[Ky.mir c,Ky.mir c,we uS,we uS];exact h _ _ uS uS
theorem lC (o:Pm n p) (v:a+1<=n) (h:Dn O key p (a+1)) (k:∀m b,Pm n b->1<=m->m<=n->Up O key b m->Q (m,b)):Kw O key n (kas_descPart a n p) Q:=by
 refine Kw.bind (lO _ p (a+1) 0 o uS uS h uS (λi l g=>by rw[show i=a+1 - 1 by omega]) λb m r c w u e t q=>?_);dsimp only;have s:m<=b.size:=by rw[c.sz];omega
 by_cases f:r>0
 .rw[we f];have d:=Ky.mirEq (O:=O) (key:=key) (i:=m - (r+1)) s q;exact yz (c.rev _ _) uS uS (λi j l g=>by rw[d,d];exact e i j l g) k
 rw[wc f];exact yz c uS uS e k
theorem Fd (a:Pm n p) (k:∀m p',Pm n p'->1<=m->m<=n->Up O key p' m->Q (m,p')):Kw O key n (kas_count n p) Q:=by
 have u:=a.n1;refine Kw.bind (wF a _ 1 (u_ _) Up.one λm g v d t=>?_);by_cases h:m=n
 .rw[we (by simpa using h)];exact k m p a g uS d
 rw[wc (by simpa using h)];have c:O.klt (Ky O key p m) (Ky O key p (m - 1)):=t.resolve_left uS;by_cases l:m>1
 .rw[we l];refine⟨a.lt _,a.lt _,?_⟩;cases e:O.blt (key (p.getD 0 0)) (key (p.getD (m - 1) 0)) with
  |true=>exact k m p a g uS d
  |false =>
  dsimp only;rw[wc K_];have r:m<=p.size:=by rw[a.sz];omega
  have b:∀i,0<=i->i<m->Ky O key p i=Ky O key p (m - 1):=λi _ s=>l6 (d i (m - 1) uS uS) (e6 e (d 0 i uS s));have f:=Ky.mirEq (O:=O) (key:=key) (i:=0) r b;refine lC (a.rev _ _) uS (Dn.more g (λi j q o=>?_) ?_) k
  .rw[f,f,b i uS uS,b j uS uS];exact E3 _
  rw[f,f];exact IZ c
 rw[wc l];obtain rfl:m=1:=by omega
 refine lC a uS (Dn.more (u_ _) (λi j q o=>?_) (IZ c)) k;obtain rfl:i=j:=by omega
 exact E3 _
theorem mW (a:Pm n p):∀(f l r:Nat),l<=r->r<=k->r - l<=f->(∀i,i<l->O.kle (Ky O key p i) (Ky O key p k))->(∀i,r<=i->i<k->O.klt (Ky O key p k) (Ky O key p i))->Up O key p k ->
  (∀l,l<=k->(∀i,i<l->O.kle (Ky O key p i) (Ky O key p k))->(∀i,l<=i->i<k->O.klt (Ky O key p k) (Ky O key p i))->Q l)->Kw O key n (kas_place p k f l r) Q
 |0,l,r,h1,h2,h3,lo,hi,_,q=>by
  obtain rfl:l=r:=by omega
  exact q l h2 lo hi
 |f+1,l,r,h1,h2,h3,lo,hi,hu,q=>by
  unfold kas_place
  by_cases h:l ≥ r
  ·
   obtain rfl:l=r:=by omega
   rw[we h]
   exact q l h2 lo hi
  ·
   rw[wc h]
   refine⟨a.lt _,a.lt _,?_⟩
   cases e:O.blt (key (p.getD k 0)) (key (p.getD ((l+r) / 2) 0)) with
   |true=>exact mW a f l ((l+r) / 2) uS uS uS lo (λi b c=>KeyOrd.klt_of_klt_of_kle e (hu _ i b c)) hu q
   |false=>exact mW a f ((l+r) / 2+1) r uS h2 uS (λi b=>e6 (hu i ((l+r) / 2) uS uS) e) hi hu q
theorem Fe:∀(f:Nat) (p:Array Nat) (k:Nat),Pm n p->k+f=n->Up O key p k->(∀b,Pm n b->Up O key b n->Q b)->Kw O key n (kas_bin f p k) Q
 |0,p,k,hp,e,h,q=>by
  obtain rfl:k=n:=by omega
  exact q p hp h
 |f+1,p,k,hp,e,h,q=>by
  have c:k<p.size:=by rw[hp.sz];omega
  refine Kw.bind (mW hp k 0 k (Y5 _) (u_ _) uS (λ_ z=>wT z (fw _)) (λ_ w s=>wT s uS) h λl u r o=>?_)
  refine Fe f _ (k+1) (hp.by (bubble_perm _ _ _)) uS (λi j t v=>?_) q
  rw[Ky.bub c uS,Ky.bub c uS,show k - (k - l)=l by omega]
  by_cases g:i=l
  ·
   rw[we g]
   by_cases a:j=l
   ·
    rw[we a];exact E3 _
   ·
    rw[wc a,we uS];exact IZ (o _ uS uS)
  ·
   rw[wc g]
   by_cases m:l<i/\i<=k
   ·
    rw[we m,wc uS,we uS];exact h _ _ uS uS
   ·
    rw[wc m]
    by_cases a:j=l
    ·
     rw[we a];exact r i uS
    ·
     rw[wc a]
     by_cases d:l<j/\j<=k
     ·
      rw[we d];exact h _ _ uS uS
     ·
      rw[wc d];exact h _ _ t uS
theorem JM (f:1<=n):Kw O key n (kas_sort n) λp=>Pm n p/\Up O key p n:=by
 have e:Pm n (List.toArray (ax n)):=⟨.refl _,f⟩;refine Kw.bind (Fd e λm p c j i d=>?_);dsimp only;by_cases h:m<n
 .rw[we h,show max m 1=m by omega];exact Fe _ p m c uS d λg a b=>⟨a,b⟩
 rw[wc h];obtain rfl:m=n:=by omega
 exact⟨c,d⟩
def DI (h h':ci):Prop:=∀b o,h.get? b=ab o->h'.get? b=ab o
end
theorem kI:a8 "sorted"=ab (.builtin "sorted"):=by decide +kernel
def IS (O:kf) (key:Nat->O.α) (n:Nat) (ps:List Nat):Prop:=ps.Perm (ax n)/\∀i j,i<=j->j<n->O.kle (key (ps.getD i 0)) (key (ps.getD j 0))
theorem IS.of (h:Pm n p) (u:Up O key p n):IS O key n p.toList:=⟨h.pm,λi j b a=>by
 have:=u i j b a;unfold Ky at this;rw[Z9,Z9] at this;rw[i_,i_,Kn,Kn];exact this⟩
section
variable {s:aI}{O:kf}
theorem mX (l:s.heap.get? a=ab (bX "list" vs.toArray c)) (q:vs.length<64) (I:2<=vs.length->∀h',(∀b o,b≠a->s.heap.get? b=ab o->h'.get? b=ab o)->ay (aT P w) A (tz vs.toArray) (λy s'=>s'={ s with heap:=h'}/\∀i j (C:Bool->aI->Prop),i<vs.length->j<vs.length->C (O.blt (key i) (key j)) { s with heap:=h'}->nK P w A y vs i j C { s with heap:=h'}) (λ_ _=>False) { s with heap:=h'}) (h:∀ps,IS O key vs.length ps->R (.done (.ret .none)) { s with heap:=e5 s.heap a vs (ps.map λi=>vs.getD i bE).toArray}):ay (aT P w) A (et.«list.sort» ⟨[.ref a],[]⟩) R E s:=by
 have V:a<s.heap.objs.size:=F_ l;have D:vs.length<=av:=by rw[Fk];omega
 rw[list_sort_plain];refine a_ (nI l rfl ?_);refine a_ (iS l rfl ?_ (by rw[x_];omega) (Y5 _));obtain⟨t,k⟩:∃t,(s.heap.update a (bS λ_=>(#[]:Array aw))).get? a=ab (bX "list" #[] t):=⟨_,GB l λ_=>#[]⟩;refine a_ (qf k rfl ?_);refine a_ (rg ?_ D);refine a_ (IE ?_ (Y5 _));refine Zx ?_;have d:(((s.heap.update a (bS λ_=>(#[]:Array aw))).push (bX "tuple" vs.toArray 0)).push (bX "list" #[] 0)).get? a=ab (bX "list" #[] t):=e_ _ (e_ _ k);show ay (aT P w) A _ R E { s with heap:=((s.heap.update a (bS λ_=>(#[]:Array aw))).push (bX "tuple" vs.toArray 0)).push (bX "list" #[] 0)};dsimp only;by_cases g:vs.toArray.size<2
 .rw[we g,we g];refine a_ (l_ ?_);rw[StateT.run_pure];refine a_ (l_ ?_);dsimp only;rw[x_] at g;refine a_ (qf d rfl ?_);have e:((vs.toArray.zip vs.toArray).map (·.2))=((ax vs.length).map λi=>vs.getD i bE).toArray:=by
   match vs,g with
   |[],_=>simp
   |[v],_=>simp [ky]
  show ay (aT P w) A (ja (.ref a) (λ_=>(vs.toArray.zip vs.toArray).map (·.2)) >>= _) R E _;rw[e];refine a_ (iS d rfl ?_ (Y5 _) (by rw[x_,g_,D_];omega));simp only[bne_self_eq_false,v_,V_];refine l_ (h (ax vs.length) ⟨.refl _,λi j S U=>?_⟩);obtain rfl:i=j:=by omega
  exact E3 _
 rw[wc g,wc g];rw[x_] at g;refine a_ (ZK (I uS _ λb o H e=>e_ _ (e_ _ ((ZL _ _ _ _ H).trans e))) (λy s' N=>?_) λ_ _ x=>x.elim);obtain⟨rfl,F⟩:=N;have L:=JM (O:=O) (key:=key) (n:=vs.length) uS;refine a_ (ZK (kat_run (G:=λp s'=>(Pm vs.length p/\Up O key p vs.length)/\s'={ s with heap:=((s.heap.update a (bS λ_=>(#[]:Array aw))).push (bX "tuple" vs.toArray 0)).push (bX "list" #[] 0)}) (Q:=λf s'=>∃p:Array Nat,arrOf f=p.map (kas_item (vs.toArray.zip vs.toArray))/\failedOf f=ag/\(Pm vs.length p/\Up O key p vs.length)/\s'={ s with heap:=((s.heap.update a (bS λ_=>(#[]:Array aw))).push (bX "tuple" vs.toArray 0)).push (bX "list" #[] 0)}) rfl uS q (λz f s' T M B u=>⟨z,M,B,u.1,u.2⟩) (L.wp F λp m=>⟨m,rfl⟩)) ?_ λ_ _ e=>e);rintro⟨⟨⟩,f⟩ s' ⟨p,r,K,⟨m,J⟩,rfl⟩;dsimp only;rw[kat_snds rfl r];refine a_ (qf d rfl ?_);refine a_ (iS d rfl ?_ (Y5 _) (by rw[x_,g_,m.pm.length_eq,D_];omega));rw[K];simp only[bne_self_eq_false,v_,V_];exact l_ (h _ (.of m J))
theorem wG:DI h (oI h vs out)/\∃c,(oI h vs out).get? (h.objs.size+1)=ab (bX "list" out c):=by
 have f:((h.push (bX "list" #[] 0)).update h.objs.size (bS (·++vs.toArray))).objs.size=h.objs.size+1:=by rw[i9,rp]
 have d:(((h.push (bX "list" #[] 0)).update h.objs.size (bS (·++vs.toArray))).push (bX "list" vs.toArray 0)).get? (h.objs.size+1)=ab (bX "list" vs.toArray 0):=by rw[<- f];exact E_ _ rfl
 refine⟨λb o e=>?_,?_⟩
 .have a:b<h.objs.size:=F_ e;unfold oI e5;rw[ZL _ _ _ _ (L_ (ZS a))];refine e_ _ (e_ _ ?_);rw[ZL _ _ _ _ (L_ (ZS a))];refine e_ _ ?_;rw[ZL _ _ _ _ (L_ a)];exact e_ _ e
 unfold oI e5;exact⟨_,GB (e_ _ (e_ _ (GB d λ_=>#[]))) λ_=>out⟩
theorem uh (b:s.heap.IsTuple l vs.toArray) (f:vs.length<=av) (h:Q vs { s with heap:=(s.heap.push (bX "list" #[] 0)).update s.heap.objs.size (bS (·++vs.toArray))}):ay (aT P w) A (nN (.ref l)) Q E s:=by
 obtain⟨o,c,d,n,e⟩:=id b;unfold nN;refine a_ (rf (HG kR ?_));refine a_ (m:=tm []) (IE (l_ ⟨Code.quiet_builtin _ xo,HG o0 ?_⟩));show ay _ _ (ca (.ref s.heap.objs.size) (.ref l) (.ref s.heap.objs.size)) _ _ { s with heap:=s.heap.push (bX "list" #[] 0)};unfold ca;have a:(s.heap.push (bX "list" #[] 0)).get? l=ab o:=e_ _ c;refine a_ (FL (T:="tuple") ⟨o,a,d⟩ ?_);rw[we (by rw[show (ev "tuple"==ev "tuple")=ai from rfl,Bool.or_true])];refine a_ (nI a e (a_ (nI (xs:=#[]) (n:=0) (E_ _ rfl) rfl ?_)));rw[wc wn];refine a_ (iS (xs:=#[]) (n:=0) (E_ _ rfl) rfl ?_ (Y5 _) (by show (#[]++vs.toArray).size<=av+1;simp only[Array.size_append,x_,YM];omega));refine l_ ?_;refine a_ (m:=load s.heap.objs.size) (mw (GB (E_ _ rfl) _) ?_);show ay _ _ (ce ((#[]:Array aw)++vs.toArray).toList) Q E _;rw[show ((#[]:Array aw)++vs.toArray).toList=vs by simp];exact l_ h
theorem lD (a:s.heap.IsList l vs.toArray\/s.heap.IsTuple l vs.toArray) (b:vs.length<=av) (h:Q vs { s with heap:=(s.heap.push (bX "list" #[] 0)).update s.heap.objs.size (bS (·++vs.toArray))}):ay (aT P w) A (nN (.ref l)) Q E s:=by
 rcases a with a | a
 .exact collect_list a h b
 exact uh a b h
theorem ED (k:s.heap.IsList l vs.toArray\/s.heap.IsTuple l vs.toArray) (f:vs.length<64) (r:2<=vs.length->∀h',DI s.heap h'->ay (aT P w) A.in1.in1 (tz vs.toArray) (λκ s'=>s'={ s with heap:=h'}/\∀i j (C:Bool->aI->Prop),i<vs.length->j<vs.length->C (O.blt (key i) (key j)) { s with heap:=h'}->nK P w A.in1.in1 κ vs i j C { s with heap:=h'}) (λ_ _=>False) { s with heap:=h'}) (h:∀ps h' c,IS O key vs.length ps->DI s.heap h'->h'.get? (s.heap.objs.size+1)=ab (bX "list" (ps.map λi=>vs.getD i bE).toArray c)->Q (.ref (s.heap.objs.size+1)) { s with heap:=h'}):ay (aT P w) A (jS (.builtin "sorted") [.ref l]) Q E s:=by
 refine ia kind_sorted plain_sorted entry_sorted (args_sorted1 _) ?_;unfold et.«sorted»;refine a_ (m:=checkCount "sorted" 1 1 _) (l_ ?_);refine a_ (lD k (by rw[Fk];omega) ?_);refine a_ (IE ?_ (by rw[Fk];omega));have g:((s.heap.push (bX "list" #[] 0)).update s.heap.objs.size (bS (·++vs.toArray))).objs.size=s.heap.objs.size+1:=by rw[i9,rp]
 have a:(((s.heap.push (bX "list" #[] 0)).update s.heap.objs.size (bS (·++vs.toArray))).push (bX "list" vs.toArray 0)).get? (s.heap.objs.size+1)=ab (bX "list" vs.toArray 0):=by rw[<- g];exact E_ _ rfl
 show ay _ _ _ _ _ { s with heap:=((s.heap.push (bX "list" #[] 0)).update s.heap.objs.size (bS (·++vs.toArray))).push (bX "list" vs.toArray 0)};rw[g];refine a_ (Zx (Zk ro ⟨_,a,rfl⟩ qs (mX (O:=O) (key:=key) a f (λt h' d=>r t h' λb o e=>d b o ?_ ?_) λps p=>⟨_,rfl,?_⟩) (sd _)))
 .exact L_ (ZS (F_ e))
 .have q:b<s.heap.objs.size:=F_ e;refine e_ _ ?_;rw[ZL _ _ _ _ (L_ q)];exact e_ _ e
 obtain⟨d,c,n⟩:=wG (h:=s.heap) (vs:=vs) (out:=(ps.map λi=>vs.getD i bE).toArray);exact l_ ⟨_,rfl,h ps _ c p d n⟩
end
open L2 PySem.W M
theorem Am (r:KV kvs vs):∀(us:List aw),us.length=vs.length->(∀(j:Nat) (v:aw),us[j]?=ab v->∃k x,vs[j]?=ab (k,x)/\(bO P w).is k v=ai)->wf (kvs.map λq=>kV q.1) us:=by
 induction r with
 |nil=>intro us h _;rw[LO h];exact .nil
 |cons m n g =>
 intro us f a;cases us with
 |nil=>cases f
 |cons u us =>
 refine .cons ?_ (g us (Nat.succ.inj f) λj v e=>a (j+1) v e);obtain⟨k,x,e,l⟩:=a 0 u rfl;cases e;obtain⟨d,_⟩:=m;dsimp only at d |-;rw[d];rcases cA l with ⟨i,t,b,c⟩ | ⟨y,t,b,c⟩
 .rw[b,c];exact⟨t,rfl⟩
 rw[b,c];exact⟨t,rfl⟩
theorem JN:DI h (e5 (h.push (bX "list" vs.toArray 0)) h.objs.size vs out)/\∃c,(e5 (h.push (bX "list" vs.toArray 0)) h.objs.size vs out).get? h.objs.size=ab (bX "list" out c):=by
 have a:(h.push (bX "list" vs.toArray 0)).get? h.objs.size=ab (bX "list" vs.toArray 0):=E_ _ rfl;refine⟨λb o e=>?_,?_⟩
 .have d:b<h.objs.size:=F_ e;unfold e5;rw[ZL _ _ _ _ (L_ d)];refine e_ _ (e_ _ ?_);rw[ZL _ _ _ _ (L_ d)];exact e_ _ e
 unfold e5;exact⟨_,GB (e_ _ (e_ _ (GB a λ_=>#[]))) λ_=>out⟩
section
variable {O:kf}
theorem yC (k:∀A' E',A'.handled=A.handled->ay (aT P w) A' (nN x) (λvs s1=>vs.length<64 /\
   (2<=vs.length->∀h',DI s1.heap h'->ay (aT P w) A.in1.in1 (tz vs.toArray) (λκ s'=>s'={ s1 with heap:=h'}/\∀i j (C:Bool->aI->Prop),i<vs.length->j<vs.length->C (O.blt (key i) (key j)) { s1 with heap:=h'}->nK P w A.in1.in1 κ vs i j C { s1 with heap:=h'}) (λ_ _=>False) { s1 with heap:=h'}) /\
   ∀ps h' c,IS O key vs.length ps->DI s1.heap h'->h'.get? s1.heap.objs.size=ab (bX "list" (ps.map λi=>vs.getD i bE).toArray c)->Q (.ref s1.heap.objs.size) { s1 with heap:=h'}) E' s):ay (aT P w) A (jS (.builtin "sorted") [x]) Q E s:=by
 refine ia kind_sorted plain_sorted entry_sorted (args_sorted1 _) ?_;unfold et.«sorted»;refine a_ (m:=checkCount "sorted" 1 1 _) (l_ ?_);refine a_ (ZK (k _ _ rfl) (λvs s1 g=>?_) λ_ _ e=>e);obtain⟨f,n,h⟩:=g;refine a_ (IE ?_ (by rw[Fk];omega));have a:(s1.heap.push (bX "list" vs.toArray 0)).get? s1.heap.objs.size=ab (bX "list" vs.toArray 0):=E_ _ rfl;refine a_ (Zx (Zk ro ⟨_,a,rfl⟩ qs (mX (O:=O) (key:=key) a f (λp h' d=>n p h' λb o e=>d b o ?_ ?_) λps q=>⟨_,rfl,?_⟩) (sd _)))
 .exact L_ (F_ e)
 .exact e_ _ e
 obtain⟨d,c,l⟩:=JN (h:=s1.heap) (vs:=vs) (out:=(ps.map λi=>vs.getD i bE).toArray);exact l_ ⟨_,rfl,h ps _ c q d l⟩
theorem um {T:String} (K:KdlSrc P w T r d n v z) (D:A.handled=ag) (p:z s.heap) (C:n<=av) (h:∀h' tk a,DI s.heap h'->s.heap.objs.size<h'.objs.size->rc v a n->Q a.toList { s with heap:=h',toks:=tk}):ay (aT P w) A (nN (.ref r)) Q E s:=by
 have l:=K.there _ p;unfold nN;refine a_ (rf (HG kR ?_));refine a_ (m:=tm []) (IE (l_ ⟨Code.quiet_builtin _ xo,HG o0 ?_⟩))
 let st:aI:={ s with heap:=s.heap.push (bX "list" #[] 0)}
 let G:Result->aI->Prop:=λq t=>∃h' tk a c,q=.ok (.ret (.ref s.heap.objs.size))/\t={ s with heap:=h',toks:=tk}/\DI s.heap h'/\h'.get? s.heap.objs.size=ab (bX "list" a c)/\rc v a n
 have key:=kdl_extend (A:=A) (s:=st) (R:=G) K D (K.keep _ _ p λb _ o e=>e_ _ e) s.heap.objs.size (YT l.1) (YT l.2) (.ref s.heap.objs.size) 0 (E_ _ rfl) (λh' tk a c F i g=>⟨h',tk,a,c,rfl,rfl,λb o e=>F b o (L_ (F_ e)) (e_ _ e),i,g⟩) C;have j:∀q t,G q t->∃h' tk a c,q=.ok (.ret (.ref s.heap.objs.size))/\h'.get? s.heap.objs.size=ab (bX "list" a c)/\t={ s with heap:=h',toks:=tk}/\Q a.toList t:=by rintro q t ⟨h',tk,a,c,k,rfl,B,i,g⟩;exact⟨h',tk,a,c,k,i,rfl,h h' tk a B (F_ i) g⟩
 refine ZK (A:=A.in1) key (λf t x=>?_) λe t x=>?_
 .cases f with
  |done f=>obtain⟨h',tk,a,c,k,i,rfl,u⟩:=j _ _ x;cases k;exact a_ (m:=load s.heap.objs.size) (mw i (l_ u))
  |again H =>
  refine⟨x.1,f8 x.2 λq t y=>?_⟩;obtain⟨h',tk,a,c,rfl,i,rfl,u⟩:=j _ _ y;exact a_ (m:=load s.heap.objs.size) (mw i (l_ u))
 obtain⟨_,_,_,_,k,_⟩:=j _ _ x;cases k
end
@[reducible] def IU:kf:=⟨Int,λa b=>decide (a<b),λa=>by simp,λa b c e d=>by simp only[h_] at *;omega,λa b c h=>by simp only[h_] at *;omega,λa b e d=>by simp only[YS] at *;omega⟩
section
variable {X:Cx}{P8:List (af × dQ)}{Z:L2.St}
def An {K:a6} (r:CI K H kvs vs):ql K H (kvs.map λq=>t3 q.1) (vs.map λq=>kV q.1):=by
 induction r with
 |nil=>exact .nil
 |cons h _ a =>
 refine .cons ?_ a;dsimp only;rw[h.1];exact .ofInt
def qQ:∀{ns:List Int}{d:List V}{c:List aw},ql X.K H (ns.map t3) d->wf d c->db c ns
 |[],_,_,r,a=>by rw[r.inv0] at a;cases a;exact .nil
 |x::ss,_,_,r,a=>by
  obtain⟨v,f,rfl,q,b⟩:=r.inv
  cases a with
  |cons e a =>
   cases q.int
   obtain⟨t,rfl⟩:=e
   exact .cons x t (qQ b a)
theorem y9 (h:db a ns):∀i,i<a.length->∃t,a.getD i bE=de (ns.getD i 0) t:=by
 induction h with
 |nil=>intro i b;exact wT b (fw _)
 |cons x t _ c =>
 intro i b;cases i with
 |zero=>exact⟨t,rfl⟩
 |succ i=>exact c i (by simpa using b)
theorem uo (h:db a ns):a.length=ns.length:=by
 induction h with
 |nil=>rfl
 |cons x t _ b=>rw[n_,n_,b]
theorem ut (h:db b ns):∀v∈b,∃x t,v=de x t:=by
 induction h with
 |nil=>intro v a;cases a
 |cons x t _ c =>
 intro v a;rcases y_.mp a with rfl | a
 .exact⟨x,t,rfl⟩
 exact c v a
theorem Ao (I:Inv X P8 Z H s) (sh:My X.K H3 H) (k:C7 X.K H Q3 Q) (hh:X.A.handled=ag) (F:Rd H a (.dK vs)) (rd:CI X.K H kvs vs) (h64:kvs.length<64) (h:∀us:List Int,us.Perm (kvs.map (·.1))->us.Pairwise (λx y=>IU.kle x y)->∀p,H3 p=ag->Q3 (.ref p) (eH H3 p (.lst (us.map t3)))):ay (aT X.prog X.w) X.A (jS (.builtin "sorted") [.ref a]) (EP X P8 Z Q) X.xe s:=by
 obtain⟨z,hd,vs',L,dd⟩:=o8 I.hok F;obtain⟨o,es,ep,h1,h2,h3,h4,h5,h6⟩:=dd;have hl:=L.length;have hl2:=EK rd;refine yC (O:=IU) (key:=λi=>((kvs.map (·.1)).getD i 0:Int)) λA' E' hA=>?_;refine um (kdl_dict (knd:=bO X.prog X.w) (kvs:=vs') (ep:=ep) hd) (hA.trans hh) ⟨o,es,h1,h2,h3,h4,h5,h6⟩ uS λh' tk D kp B m=>?_;have f:=Am (P:=X.prog) (w:=X.w) L D.toList (by rw[HC];exact m.1) λj v e=>m.2 j v (by rw[<- Kn];exact e);have rs:=An rd;have l:ql X.K H ((kvs.map (·.1)).map t3) (vs.map λq=>kV q.1):=by rw[W_];exact rs
 have R:=qQ l f;have l3:=uo R;rw[g_] at l3;generalize hys:(vs.map λq=>kV q.1)=S at f l;generalize D.toList=N at *;have l1:=l.length;rw[g_,g_] at l1;have l2:=f.length;have hz:av=16777216:=rfl;refine⟨uS,λg2 g' kq=>?_,λq g' c hs kq U=>?_⟩
 .refine kas_kind (T:=.type "int") (s:={ s with heap:=g',toks:=tk}) g2 (λv hv=>?_) rfl rfl ⟨rfl,λi j C d n hC=>?_⟩
  .obtain⟨x,t,rfl⟩:=ut R v hv;exact Looks.of_pure rfl
  obtain⟨t,J⟩:=y9 R i d;obtain⟨u,F⟩:=y9 R j n;unfold nK;rw[J,F];exact kat_lt_int hC
 obtain⟨G,hu⟩:=hs;have g:∀i∈q,i<kvs.length:=λi d=>by have:=T_.mp (G.mem_iff.mp d);omega
 have M:q.length=kvs.length:=by rw[G.length_eq,D_];omega
 have ry:ql X.K H ((q.map λi=>(kvs.map (·.1)).getD i 0).map t3) (q.map λi=>S.getD i .non):=by
  clear hu G M U;induction q with
  |nil=>exact .nil
  |cons i q W =>
  refine .cons ?_ (W λj n=>g j (.tail _ n));have d:=g i (.head _);have E:i<(kvs.map (·.1)).length:=by rw[g_];exact d
  obtain⟨y,J,r1⟩:=l.get (i:=i) (t:=t3 ((kvs.map (·.1))[i])) (by rw[C_,d_ E];rfl);dsimp only;rw[i_,d_ E,i_,J];exact r1
 have rz:wf (q.map λi=>S.getD i .non) (q.map λi=>N.getD i bE):=by
  clear hu G M ry U;induction q with
  |nil=>exact .nil
  |cons i q W =>
  refine .cons ?_ (W λj n=>g j (.tail _ n));have d:i<S.length:=by have:=g i (.head _);omega
  obtain⟨z,J,r1⟩:=f.get (i:=i) (d_ d);dsimp only;rw[i_,d_ d,i_,J];exact r1
 have r:s.heap.objs.size<=h'.objs.size:=ZC B;have hf:H h'.objs.size=ag:=I.hok.fresh r;refine⟨.ref h'.objs.size,wS H h'.objs.size (.lst (q.map λi=>S.getD i .non)),I.laid (t':=tk) (λb o e=>kq b o (kp b o e)) r ⟨by rw[g_];omega,_,c,rz,U⟩,rfl,?_⟩;refine k _ _ _ _ (aQ hf) (sh.newLst hf ry) .ofRef (h _ ?_ ?_ _ (sh.fresh hf))
 .have Y:=G.map λi=>(kvs.map (·.1)).getD i 0;rw[show N.length=(kvs.map (·.1)).length by rw[g_];omega] at Y;have F:(ax (kvs.map (·.1)).length).map (λi=>(kvs.map (·.1)).getD i 0)=kvs.map (·.1):=by
   apply IT;intro i;rw[C_];by_cases d:i<(kvs.map (·.1)).length
   .rw[YL d,d_ d,kv,i_,d_ d];rfl
   rw[U_ (by simpa using d),U_ uS];rfl
  rw[F] at Y;exact Y
 rw[JI];intro i j d n hij;rw[g_] at d n;have:=hu i j uS uS;rw[i_,d_ d,i_,d_ n] at this;rw[ZG,ZG];exact this
theorem Aq (I:Inv X P8 Z H s) (W:My X.K H3 H) (k:C7 X.K H Q3 Q) (e:H3 a=ab (.lst (ns.map t3))) (h64:ns.length<64) (h:∀us:List Int,us.Perm ns->us.Pairwise (λx y=>IU.kle x y)->∀p,H3 p=ag->Q3 (.ref p) (eH H3 p (.lst (us.map t3)))):ay (aT X.prog X.w) X.A (jS (.builtin "sorted") [.ref a]) (EP X P8 Z Q) X.xe s:=by
 obtain⟨M,sq,n⟩:=W.sqL (.inl e);obtain⟨r,l,hl,_⟩:=I.list sq;have L:=qQ n l;have l3:=uo L;have hzz:av=16777216:=rfl;refine yC (O:=IU) (key:=λi=>(ns.getD i 0:Int)) λA' E' hA=>lD (.inl hl.isList) uS ?_;generalize hh:(s.heap.push (bX "list" #[] 0)).update s.heap.objs.size (bS (·++r.toArray))=m at *;have sz:m.objs.size=s.heap.objs.size+1:=by rw[<- hh,i9,rp]
 have kp:DI s.heap m:=λb o e=>by rw[<- hh,ZL _ _ _ _ (L_ (F_ e))];exact e_ _ e
 have D:s.heap.objs.size<m.objs.size:=uS
 have l1:=n.length;rw[g_] at l1;have l2:=l.length;have hz:av=16777216:=rfl;refine⟨uS,λg2 g' kq=>?_,λq g' c hs kq N=>?_⟩
 .refine kas_kind (T:=.type "int") (s:={ s with heap:=g',toks:=s.toks}) g2 (λv hv=>?_) rfl rfl ⟨rfl,λi j C d g hC=>?_⟩
  .obtain⟨x,t,rfl⟩:=ut L v hv;exact Looks.of_pure rfl
  obtain⟨t,G⟩:=y9 L i d;obtain⟨u,R⟩:=y9 L j g;unfold nK;rw[G,R];exact kat_lt_int hC
 obtain⟨F,U⟩:=hs;have f:∀i∈q,i<ns.length:=λi d=>by have:=T_.mp (F.mem_iff.mp d);omega
 have J:q.length=ns.length:=by rw[F.length_eq,D_];omega
 have ry:ql X.K H ((q.map λi=>ns.getD i 0).map t3) (q.map λi=>M.getD i .non):=by
  clear U F J N;induction q with
  |nil=>exact .nil
  |cons i q P =>
  refine .cons ?_ (P λj g=>f j (.tail _ g));have d:=f i (.head _);have E:i<ns.length:=d;obtain⟨y,G,Y⟩:=n.get (i:=i) (t:=t3 (ns[i])) (by rw[C_,d_ E];rfl);dsimp only;rw[i_,d_ E,i_,G];exact Y
 have rz:wf (q.map λi=>M.getD i .non) (q.map λi=>r.getD i bE):=by
  clear U F J ry N;induction q with
  |nil=>exact .nil
  |cons i q P =>
  refine .cons ?_ (P λj g=>f j (.tail _ g));have d:i<M.length:=by have:=f i (.head _);omega
  obtain⟨z,G,Y⟩:=l.get (i:=i) (d_ d);dsimp only;rw[i_,d_ d,i_,G];exact Y
 have B:s.heap.objs.size<=m.objs.size:=ZC D;have V:H m.objs.size=ag:=I.hok.fresh B;refine⟨.ref m.objs.size,wS H m.objs.size (.lst (q.map λi=>M.getD i .non)),I.laid (t':=s.toks) (λb o e=>kq b o (kp b o e)) B ⟨by rw[g_];omega,_,c,rz,N⟩,rfl,?_⟩;refine k _ _ _ _ (aQ V) (W.newLst V ry) .ofRef (h _ ?_ ?_ _ (W.fresh V))
 .have S:=F.map λi=>ns.getD i 0;rw[show r.length=ns.length by omega] at S;have R:(ax ns.length).map (λi=>ns.getD i 0)=ns:=by
   apply IT;intro i;rw[C_];by_cases d:i<ns.length
   .rw[YL d,d_ d,kv,i_,d_ d];rfl
   rw[U_ (by simpa using d),U_ uS];rfl
  rw[R] at S;exact S
 rw[JI];intro i j d g hij;rw[g_] at d g;have:=U i j uS uS;rw[i_,d_ d,i_,d_ g] at this;rw[ZG,ZG];exact this
def IG (o:Option O3) (H:gV) (Q:wv):Prop:=match o with
 |some (.lst xs)=>∃ns:List Int,xs=ns.map t3/\ns.length<64/\∀us:List Int,us.Perm ns->us.Pairwise (·<=·)->∀p,H p=ag->Q (.ref p) (eH H p (.lst (us.map t3)))
 |some (.dci kvs)=>kvs.length<64/\∀us:List Int,us.Perm (kvs.map (·.1))->us.Pairwise (·<=·)->∀p,H p=ag->Q (.ref p) (eH H p (.lst (us.map t3)))
 |_=>False
def Ff:List T->gV->wv->Prop:=λts H Q=>match ts with
 |[.ref a]=>IG (H a) H Q
 |_=>False
theorem Q5 (a:af) (H:gV) (Q:wv):Ff [.ref a] H Q=IG (H a) H Q:=rfl
theorem V5 (kvs:List (Int × T)) (H:gV) (Q:wv):IG (ab (.dci kvs)) H Q=(kvs.length<64/\∀us:List Int,us.Perm (kvs.map (·.1))->us.Pairwise (·<=·)->∀p,H p=ag->Q (.ref p) (eH H p (.lst (us.map t3)))):=rfl
theorem Fg {us:List Int}(h:us.Pairwise (λx y=>IU.kle x y)):us.Pairwise (·<=·):=h.imp λ{a b} z=>by
 have:=z;unfold KeyOrd.kle at this;simp at this;omega
theorem yD (l:zc n X.A):dC X (.builtin "sorted") Ff:=by
 intro g s Z H xs us Q I j h;obtain⟨ts,H3,Q3,r,d,h,k⟩:=h
 match ts,h,r with
 |[.ref a],h,r =>
 obtain⟨v,rfl,f⟩:=r.one';obtain⟨u,rfl,i⟩:=xz j;rw[f.ref] at i;cases i;have h':IG (H3 a) H3 Q3:=h;unfold IG at h';split at h'
 .rename_i xs e;obtain⟨ns,rfl,q,p⟩:=h';exact Aq I d k e q λus c b=>p us c (Fg b)
 .rename_i kvs e;obtain⟨vs,m,o⟩:=d a _ e;exact Ao I d k l.hd (.inl m) o h'.1 λus c b=>h'.2 us c (Fg b)
 exact h'.elim
end
@[reducible] def HE:kf where
 α:=Int × Int × Int
 blt x y:=decide (x.1<y.1\/(x.1=y.1/\(x.2.1<y.2.1\/(x.2.1=y.2.1/\x.2.2<y.2.2))))
 irrefl a:=by rw[YS];omega
 trans a b c h1 h2:=by rw[LN] at *;omega
 negTrans a b c h:=by rw[LN] at h;rw[LN,LN];omega
 total a b h1 h2:=by
  rw[YS] at h1 h2;obtain⟨d,m,e⟩:=a;obtain⟨i,l,k⟩:=b;dsimp only at h1 h2;have g:d=i:=uS
  have f:m=l:=uS
  have j:e=k:=uS
  rw[g,f,j]
def JP (x y:Int × Int × Int):Prop:=HE.kle x y
def AU (p:Int × Int × Int):T:=.tup [.int p.1,.int p.2.1,.int p.2.2]
section
variable {X:Cx}{P8:List (af × dQ)}{Z:L2.St}
def Q6 (h:ci) (p:Int × Int × Int) (v:aw):Prop:=∃a o n t u z,v=.ref a/\h.get? a=ab o/\o.cls=.type "tuple"/\o.data=.seq #[.int p.1 t,.int p.2.1 u,.int p.2.2 z] n
def wH (I:Inv X P8 Z H s) (w:DI s.heap h'):∀{ps:List (Int × Int × Int)}{y:List V}{d:List aw},ql X.K H (ps.map AU) y->wf y d ->
  d.length=ps.length/\(∃g,KatTups h' d g/\g.length=d.length/\∀v∈g,∃x t,v=de x t)/\∀(i:Nat) (p:Int × Int × Int),ps[i]?=ab p->∃v,d[i]?=ab v/\Q6 h' p v
 |[],_,_,r,f=>by
  rw[r.inv0] at f
  cases f
  exact⟨rfl,⟨[],.nil,rfl,(λ_ z=>nomatch z)⟩,(λ_ _ z=>nomatch z)⟩
 |p::ps,_,_,r,f=>by
  obtain⟨v,r',rfl,q,b⟩:=r.inv
  cases f with
  |cons C f =>
   rename_i u us
   obtain⟨G,⟨g,N,R,J⟩,W⟩:=wH I w b f
   obtain⟨a,xs,rfl,B,S⟩:=wr.tup q
   cases C
   obtain⟨A,c,⟨o,E,l,n,m⟩,_⟩:=I.tuple B
   obtain⟨v1,r1,rfl,L,U⟩:=S.inv
   obtain⟨v2,Y,rfl,Q,M⟩:=U.inv
   obtain⟨v3,r3,rfl,P,F⟩:=M.inv
   rw[F.inv0] at c
   cases L.int
   cases Q.int
   cases P.int
   cases c with
   |cons T c =>
   cases c with
   |cons O c =>
   cases c with
   |cons D c =>
   cases c
   obtain⟨t,rfl⟩:=T
   obtain⟨t',rfl⟩:=O
   obtain⟨k,rfl⟩:=D
   have h:=w a o E
   refine⟨by simp [G],⟨.int p.1 t::g,.cons h l m rfl N,by simp [R],λz j=>?_⟩,λi z j=>?_⟩
   ·
    rcases y_.mp j with e | e
    ·
     exact⟨_,_,e⟩
    ·
     exact J z e
   ·
    cases i with
    |zero=>cases j;exact⟨_,rfl,a,o,n,t,t',k,rfl,h,l,m⟩
    |succ i=>exact W i z j
theorem V6 (e:s'.heap=h') (m:Q6 h' x u) (j:Q6 h' y v) (h:C (HE.blt x y) s'):
  ay (aT P w) A (keyLt' (tuples' ai) u v) C E s':=by
 obtain⟨a,o,n,D,F,B,rfl,k,r,l⟩:=m;obtain⟨b,t,G,q,z,s,rfl,c,p,d⟩:=j;subst e;refine kat_lt k l c d ?_;dsimp only[HE] at h;refine tF (IL _ _ _ _ P w _ _ ?_);by_cases f:x.1=y.1
 .rw[show (x.1==y.1)=ai from CY.mpr f];refine kat_yes (tF (IL _ _ _ _ P w _ _ ?_));by_cases i:x.2.1=y.2.1
  .rw[show (x.2.1==y.2.1)=ai from CY.mpr i];refine kat_yes (tF (IL _ _ _ _ P w _ _ ?_));by_cases g:x.2.2=y.2.2
   .rw[show (x.2.2==y.2.2)=ai from CY.mpr g];refine kat_yes (kat_nil ?_);rw[m_ uS] at h;exact h
   rw[show (x.2.2==y.2.2)=am from Y6.mpr g];refine kat_no (kat_one _ _ (wpAny_lt_int ?_));rw[show decide (x.1<y.1\/(x.1=y.1/\(x.2.1<y.2.1\/(x.2.1=y.2.1/\x.2.2<y.2.2))))=decide (x.2.2<y.2.2) from Zm.mpr uS] at h;exact h
  rw[show (x.2.1==y.2.1)=am from Y6.mpr i];refine kat_no (kat_one _ _ (wpAny_lt_int ?_));rw[show decide (x.1<y.1\/(x.1=y.1/\(x.2.1<y.2.1\/(x.2.1=y.2.1/\x.2.2<y.2.2))))=decide (x.2.1<y.2.1) from Zm.mpr uS] at h;exact h
 rw[show (x.1==y.1)=am from Y6.mpr f];refine kat_no (oneLt_int ?_);rw[show decide (x.1<y.1\/(x.1=y.1/\(x.2.1<y.2.1\/(x.2.1=y.2.1/\x.2.2<y.2.2))))=decide (x.1<y.1) from Zm.mpr uS] at h;exact h
end
def L7 (o:Option O3) (H:gV) (Q:wv):Prop:=match o with
 |some (.lst ts)=>∃ps:List (Int × Int × Int),ts=ps.map AU/\ps.length<64/\∀us:List (Int × Int × Int),us.Perm ps->us.Pairwise JP->∀p,H p=ag->Q (.ref p) (eH H p (.lst (us.map AU)))
 |_=>False
def Fi:List T->gV->wv->Prop:=λts H Q=>match ts with
 |[.ref a]=>L7 (H a) H Q
 |_=>False
theorem Fj (a:af) (H:gV) (Q:wv):Fi [.ref a] H Q=L7 (H a) H Q:=rfl
theorem V7 (ts:List T) (H:gV) (Q:wv):L7 (ab (.lst ts)) H Q=(∃ps:List (Int × Int × Int),ts=ps.map AU/\ps.length<64/\∀us:List (Int × Int × Int),us.Perm ps->us.Pairwise JP->∀p,H p=ag->Q (.ref p) (eH H p (.lst (us.map AU)))):=rfl
theorem JQ:dC X (.builtin "sorted") Fi:=by
 intro Y s Z H xs us Q I rv h;obtain⟨ts,H3,Q3,r,U,h,k⟩:=h;cases ts with
 |nil=>exact h.elim
 |cons t ts =>
 cases ts with
 |cons _ _=>cases t <;> exact h.elim
 |nil =>
 cases t with
 |ref a =>
  rw[Fj] at h;obtain⟨v,rfl,F⟩:=r.one';obtain⟨u,rfl,W⟩:=xz rv;rw[F.ref] at W;cases W;cases e:H3 a with
  |none=>rw[e] at h;exact h.elim
  |some o =>
  rw[e] at h;cases o with
  |lst ls =>
   obtain⟨ps,rfl,h64,h⟩:=h;obtain⟨p,sq,A⟩:=U.sqL (.inl e);obtain⟨S,f,hl,_⟩:=I.list sq;have D:=(wH I (λ_ _ q=>q) A f).1
   let key:Nat->HE.α:=λi=>ps.getD i default
   refine ED (O:=HE) (key:=key) (.inl hl.isList) uS (λh2 h' P=>?_) λq h' c hs P E=>?_
   .obtain⟨_,⟨fs,kt,hfl,B⟩,l⟩:=wH I P A f;refine kat_kind (T:=.type "int") (s:={ s with heap:=h'}) kt uS (λv hv=>?_) rfl ⟨rfl,λi j C b g hC=>?_⟩
    .obtain⟨x,t,rfl⟩:=B v hv;exact Looks.of_pure rfl
    have gi:ps[i]?=ab (ps.getD i default):=by rw[i_,d_ uS];rfl
    have gj:ps[j]?=ab (ps.getD j default):=by rw[i_,d_ uS];rfl
    obtain⟨vi,n,p1⟩:=l i _ gi;obtain⟨vj,J,p2⟩:=l j _ gj;unfold nK;rw[i_,i_,n,J];exact V6 rfl p1 p2 hC
   obtain⟨m,M⟩:=hs;have d:∀i∈q,i<ps.length:=λi b=>by rw[<- D];exact T_.mp (m.mem_iff.mp b)
   have l1:=A.length;rw[g_] at l1;have w:q.length=ps.length:=by rw[m.length_eq,D_,D]
   have hz:av=16777216:=rfl;have V:ql X.K H ((q.map λi=>ps.getD i default).map AU) (q.map λi=>p.getD i .non):=by
    clear M m w E;induction q with
    |nil=>exact .nil
    |cons i q G =>
    refine .cons ?_ (G λj g=>d j (.tail _ g));have b:=d i (.head _);obtain⟨y,n,R⟩:=A.get (i:=i) (t:=AU ps[i]) (by rw[C_,d_ b];rfl);dsimp only;rw[i_,d_ b,i_,n];exact R
   have rz:wf (q.map λi=>p.getD i .non) (q.map λi=>S.getD i bE):=by
    clear M m w V E;induction q with
    |nil=>exact .nil
    |cons i q G =>
    refine .cons ?_ (G λj g=>d j (.tail _ g));have b:=d i (.head _);obtain⟨z,n,R⟩:=f.get (i:=i) (d_ (show i<p.length by omega));dsimp only;rw[i_,d_ (show i<p.length by omega),i_,n];exact R
   have N:H (s.heap.objs.size+1)=ag:=I.hok.fresh (kU _);refine⟨.ref (s.heap.objs.size+1),wS H (s.heap.objs.size+1) (.lst (q.map λi=>p.getD i .non)),I.laid (t':=s.toks) P (kU _) ⟨by rw[g_];omega,_,c,rz,E⟩,rfl,?_⟩;refine k _ _ _ _ (aQ N) (U.newLst N V) .ofRef (h _ ?_ ?_ _ (U.fresh N))
   .have L:=m.map λi=>ps.getD i default;rw[D] at L;have J:(ax ps.length).map (λi=>ps.getD i default)=ps:=by
     apply IT;intro i;rw[C_];by_cases b:i<ps.length
     .rw[YL b,d_ b];simp [i_,b]
     rw[U_ (by simpa using b),U_ uS];rfl
    rw[J] at L;exact L
   rw[JI];intro i j b g hij;rw[g_] at b g;have:=M i j uS uS;rw[i_,d_ b,i_,d_ g] at this;rw[ZG,ZG];exact this
  |_=>exact h.elim
 |_=>cases h
theorem Ps:EY kT kL prog w:=λ_ _ _ _ _ _ _ _ p1 a h=>Al p1 a h
section
variable {QO:List Expr}{x1:Nat}{QP P9 p:mi}
def Mb (xs:List T) (u:Option O3) (b:af) (H:gV) (R:List T->(gV->Prop)->gV->Prop):Prop:=match u with
 |some (.lst ys)=>R (gh xs ys) (bI b ys) H
 |_=>False
def Fl (c:AK):CU:=λZ H R=>c Z H λvs a=>match vs with
 |[.tup xs,.ref b]=>Mb xs (a b) b a R
 |_=>False
theorem JR (I:Gl X "zip") (y:X.mg "zip"=ag) (G:A5 X [ea,eb] i) (A:aE [ea,eb] X.env=[(am,bP ea X.env),(am,bP eb X.env)]:=by rfl) (e:aE [eb] X.env=[(am,bP eb X.env)]:=by rfl):
  C6 X (.Tuple QO x1 QP) (.Call (.Name "zip" p) [ea,eb] [] P9) (Fl i):=by
 refine PI.imp (yw Ps I y DN G A e) ?_;rintro Z H R ⟨n,H3,R3,F,E,h,k⟩;refine⟨n,H3,_,F,E,h,λvs B ts c C d r q=>?_⟩
 match ts,q,r with
 |[.tup xs,.ref b],q,r =>
  have f:(match c b with
   |some (.lst g)=>R3 (gh xs g) (bI b g) c
   |_=>False):=q
  obtain⟨v,w,rfl,D,m⟩:=r.two'
  obtain⟨a,us,rfl,j,x⟩:=D.tup
  split at f
  ·
   rename_i g t
   obtain⟨o,u,J⟩:=d.sqL (.inl t)
   exact⟨a,b,by rw[m.ref],⟨_,j⟩,⟨_,u⟩,k _ _ _ B c C d (pK λ_ _ l s z=>⟨⟨_,l _ _ j,x.mono l⟩,s.sqL z⟩) f⟩
  ·
   exact f.elim
def JS (a:AK) {Z:xv}{H:gV}{R:List T->(gV->Prop)->gV->Prop}:Fl a Z H R=a Z H λvs c=>match vs with
 |[.tup xs,.ref b]=>Mb xs (c b) b c R
 |_=>False:=rfl
theorem V8 (xs a:List T) (b:af) (H:gV) (R:List T->(gV->Prop)->gV->Prop):Mb xs (ab (.lst a)) b H R=R (gh xs a) (bI b a) H:=rfl
end
end L3
namespace M
open L2 L3
def PZ : String := "ne_eq not_false_eq_true aH xN CJ LB jx Ly Cw Lk Lq Py vL Lr Lh Uu Li PL UJ Cz Cy Lw qz Ln Lp X4 Uy sW xQ X8 Dl dw PX Jh P0 UL Qa dZ q_I Yb Qc Qd Qe Dm jB UV UW U0 Do U3 Dp Mf U4 Mg Mh Dq sY U5 U6 Qf U7 Yc Qg U8 Mi Qh U9 Va q_D Vb Qi Vc Vd Qj Ve Qk Ql Ji Vf Jj Qm Vg Qn Qo Qp Qq Vh Vj Vk Vl Vm Dr Vn Vo Jk Vp Vq Vr Vs Qs Vt Jl yc pC Qt Jm Qu aq PK CT pA Vu Vv vR vU vV Af vW vX vY vZ Ag wg Jw tE tG tH wj tK qI qJ qK tL qL tM tO tQ wu tR decide_true decide_false Bool.not_true Bool.not_false at0 at1 at2 List.eraseIdx_cons_zero Int.toNat_natCast qm List.length_map List.length_cons List.length_nil Nat.zero_add Bool.false_eq_true if_false if_true List.getElem?_cons_zero List.getElem?_cons_succ List.set_cons_zero List.set_cons_succ Vz VB List.map_cons List.map_nil VD VF QB QC Ms Mt Eh Mv Fz M3 Ef Q7 Q8 Q9 Rg RK Gj RL RM Fj V7 Ef Ww Wx JL MP JS V8 VL QM Mx QL Ej Vx Vy Dy Rx Mz Er QW MF MJ VP Es MK VR Et ym JG yo VM Eo QS QT wA Yl V1 yu MN V3 Q5 V5 Jp Jq Du Jr Dv Vw Js SQ QJ VG Jz VH"
structure xC (x:ap):Prop where
 lo:1<=x.length
 hi:x.length<=8
 az:∀c∈x.cps.toList,97<=c/\c<=122
structure AT (ws:List ap):Prop where
 nm:∀x∈ws,xC x
 nd:ws.Nodup
theorem AT.nil:AT []:=⟨λ_ h=>(nomatch h),EC⟩
theorem AT.snoc (n:AT ws) (h:xC x) (b:x∉ws):AT (ws++[x]) :=
 ⟨λy a=>(q_.mp a).elim (n.nm y) λz=>by rw[j_.mp z];exact h,gD n.nd b⟩
structure Wk where
 tasks:List (ap × Int × List ap)
 orders:List (ap × ap)
 pairs:List (ap × ap × ap)
 row:List ap
def sT (xs:List ap):T:=.tup (xs.map t4)
def xp (t:ap × Int × List ap):T:=.tup [.str t.1,.int t.2.1,sT t.2.2]
def xw (o:ap × ap):T:=.tup [.str o.1,.str o.2]
def ya (p:ap × ap × ap):T:=.tup [.str p.1,.str p.2.1,.str p.2.2]
def Wk.enc (W:Wk):T:=.tup [.tup (W.tasks.map xp),.tup (W.orders.map xw),.tup (W.pairs.map ya),sT W.row]
structure MU (t:ap × Int × List ap):Prop where
 nm:xC t.1
 lo:1<=t.2.1
 hi:t.2.1<10^60
 ks:AT t.2.2
 kl:t.2.2.length<=4
structure nW (W:Wk):Prop where
 t1:1<=W.tasks.length
 t8:W.tasks.length<=8
 tk:∀t∈W.tasks,MU t
 nd:(W.tasks.map (·.1)).Nodup
 os:W.orders.length<=28
 od:W.orders.Nodup
 oo:∀o∈W.orders,o.1≠o.2/\o.1∈W.tasks.map (·.1)/\o.2∈W.tasks.map (·.1)
 ps:W.pairs.length<=12
 pd:W.pairs.Nodup
 pp:∀p∈W.pairs,(p.1="with"\/p.1="apart")/\p.2.1≠p.2.2/\p.2.1∈W.tasks.map (·.1)/\p.2.2∈W.tasks.map (·.1)
 r1:1<=W.row.length
 r8:W.row.length<=8
 rn:∀x∈W.row,xC x
theorem eX {c:Type}{f:c->T}(g:∀{a b},f a=f b->a=b) {x:c}{xs:List c}:f x∈xs.map f↔x∈xs:=by
 rw[o_];exact⟨λ⟨y,d,e⟩=>g e▸d,λh=>⟨x,h,rfl⟩⟩
theorem gG (h:t4 a=t4 b):a=b:=by injection h
theorem V9 {c:Type}{f:c->T}(d:∀{a b},f a=f b->a=b) {x:c}{xs:List c}:du ai (f x) (xs.map f)=ai↔x∉xs:=by
 unfold du;simp [eX d]
theorem Yn {c:Type}{f:c->T}(d:∀{a b},f a=f b->a=b) {x:c}{xs:List c}:du am (f x) (xs.map f)=ai↔x∈xs:=by
 unfold du;simp [eX d]
theorem cz (xs:List ap):(xs.map t4).all (pl 20)=ai:=by rw[YG];intro t a;obtain⟨x,_,rfl⟩:=o_.mp a;rfl
theorem Q7 (W:Wk) (H:gV) (Q:wv):sV W.enc (.int 0) H Q=Q (.tup (W.tasks.map xp)) H:=rfl
theorem Q8 (W:Wk) (H:gV) (Q:wv):sV W.enc (.int 1) H Q=Q (.tup (W.orders.map xw)) H:=rfl
theorem Q9 (W:Wk) (H:gV) (Q:wv):sV W.enc (.int 2) H Q=Q (.tup (W.pairs.map ya)) H:=rfl
theorem Rg (W:Wk) (H:gV) (Q:wv):sV W.enc (.int 3) H Q=Q (.tup (W.row.map t4)) H:=rfl
theorem Rh {a:List ap}:t4 x∈a.map t4↔x∈a:=eX gG
def xc:List ap->Int->List ap
 |[],_=>[]
 |x::r,b=>if b%2=1 then x::xc r (b / 2) else xc r (b / 2)
def FC:List ap->Int->Int
 |[],_=>0
 |_::r,b=>(if b%2=1 then 1 else 0)+2*FC r (b / 2)
def vE:List ap->List ap->Int
 |[],_=>0
 |x::r,ss=>(if x∈ss then 1 else 0)+2*vE r ss
theorem iQ:∀(ws:List ap) (b:Int),∀x∈xc ws b,x∈ws
 |[],_,x,h=>by cases h
 |y::r,b,x,h=>by
  unfold xc at h
  split at h
  ·
   rcases y_.mp h with rfl | h
   ·
    exact A_
   ·
    exact z_ _ (iQ r _ x h)
  ·
   exact z_ _ (iQ r _ x h)
theorem lE:∀(ws b a:List ap),(∀x∈ws,x∈b↔x∈a)->vE ws b=vE ws a
 |[],_,_,_=>rfl
 |y::r,b,a,h=>by
  have e:=h y A_
  have d:=lE r b a λx c=>h x (z_ _ c)
  simp only[vE,d,e]
theorem mY:∀(ws:List ap) (b:Int),ws.Nodup->vE ws (xc ws b)=FC ws b
 |[],_,_=>rfl
 |y::r,b,nd=>by
  rw[Y4] at nd
  have a:=mY r (b / 2) nd.2
  have d:y∉xc r (b / 2):=λh=>nd.1 (iQ r _ y h)
  by_cases c:b%2=1
  ·
   have e:vE r (y::xc r (b / 2))=vE r (xc r (b / 2)):=lE r _ _ λx f=>by
    have:x≠y:=λe=>nd.1 (e▸f)
    simp [this]
   simp only[vE,FC,xc,c,if_true,e,a,y_,true_or]
  ·
   simp only[vE,FC,xc,c,V_,d,a]
theorem Fo:∀(ws:List ap) (b:Int),0<=b->b<2^ws.length->FC ws b=b
 |[],b,h0,h1=>by simp at h1;simp only[FC];omega
 |y::r,b,h0,h1=>by
  have c:b / 2<2^r.length:=by
   rw[n_,E2] at h1
   omega
  have a:=Fo r (b / 2) uS c
  simp only[FC,a]
  split <;> omega
theorem jE:∀(A:List ap) (y:ap) (a:List ap),vE (A++[y]) a=vE A a+2^A.length*(if y∈a then 1 else 0)
 |[],y,a=>by simp [vE]
 |x::A,y,a=>by
  have b:=jE A y a
  simp only[LA,vE,n_,b,E2]
  generalize (2:Int)^A.length=w
  generalize (if y∈a then (1:Int) else 0)=z
  rw[Int.mul_add,<- Int.mul_assoc,oi 2 w]
  omega
theorem uv:∀(A B:List ap) (b:Int),xc (A++B) b=xc A b++xc B (b / 2^A.length)
 |[],B,b=>by simp [xc]
 |y::A,B,b=>by
  have a:=uv A B (b / 2)
  have e:b / 2 / 2^A.length=b / 2^(A.length+1):=by
   rw[E2,oi,eD vS]
  simp only[LA,xc,n_,a,e]
  split <;> simp
theorem jg (m n:Nat):a3 (m:Int) (n:Int)=((m &&& n:Nat):Int):=by
 unfold a3;rfl
theorem Ri (m n:Nat):cr (m:Int) (n:Int)=((m ||| n:Nat):Int):=by
 have h:∀z:Nat,decide ((0:Int)<=eR (z:Int))=am:=λz=>m_ (by unfold eR;omega);have g:∀z:Int,eR (eR z)=z:=λz=>by unfold eR;omega
 unfold cr a3;rw[h,h];simp only[g,ZP]
def cj:List ap->List ap->Nat
 |[],_=>0
 |x::r,ss=>(if x∈ss then 1 else 0)+2*cj r ss
theorem bM:∀(ns a:List ap),vE ns a=((cj ns a:Nat):Int)
 |[],_=>rfl
 |x::r,a=>by
  have:=bM r a
  simp only[vE,cj,this]
  by_cases h:x∈a <;> simp [h]
theorem JT (b c a d:Nat) (k:b<2) (j:c<2):(b+2*a) &&& (c+2*d)=(if b=1/\c=1 then 1 else 0)+2*(a &&& d):=by
 have i:((b+2*a) &&& (c+2*d)) / 2=(b+2*a) / 2 &&& (c+2*d) / 2:=Nat.and_div_two;have g:(b+2*a) / 2=a:=uS
 have f:(c+2*d) / 2=d:=uS
 rw[g,f] at i;have e:((b+2*a) &&& (c+2*d))%2=1↔(b+2*a)%2=1/\(c+2*d)%2=1:=Nat.and_mod_two_eq_one;by_cases h:b=1/\c=1
 .rw[we h];have:=e.mpr ⟨uS,uS⟩;omega
 rw[wc h];have:¬((b+2*a) &&& (c+2*d))%2=1:=λz=>h (by have:=e.mp z;omega);omega
theorem Rj (b c a d:Nat) (k:b<2) (j:c<2):(b+2*a) ||| (c+2*d)=(if b=1\/c=1 then 1 else 0)+2*(a ||| d):=by
 have i:((b+2*a) ||| (c+2*d)) / 2=(b+2*a) / 2 ||| (c+2*d) / 2:=Nat.or_div_two;have g:(b+2*a) / 2=a:=uS
 have f:(c+2*d) / 2=d:=uS
 rw[g,f] at i;have e:((b+2*a) ||| (c+2*d))%2=1↔(b+2*a)%2=1\/(c+2*d)%2=1:=Nat.or_mod_two_eq_one;by_cases h:b=1\/c=1
 .rw[we h];have:=e.mpr uS;omega
 rw[wc h];have:¬((b+2*a) ||| (c+2*d))%2=1:=λz=>h (by have:=e.mp z;omega);omega
theorem lQ (p:Prop) [Decidable p]:(if p then 1 else 0)<2:=by split <;> decide
theorem mZ:∀(ns A B:List ap),cj ns A &&& cj ns B=cj ns (A.filter λx=>decide (x∈B))
 |[],_,_=>by simp [cj]
 |x::r,A,B=>by
  simp only[cj]
  rw[JT _ _ _ _ (lQ _) (lQ _),mZ r A B]
  by_cases b:x∈A <;> by_cases a:x∈B <;> simp [b,a]
theorem yE:∀(ns A B:List ap),cj ns A ||| cj ns B=cj ns (A++B)
 |[],_,_=>by simp [cj]
 |x::r,A,B=>by
  simp only[cj]
  rw[Rj _ _ _ _ (lQ _) (lQ _),yE r A B]
  by_cases b:x∈A <;> by_cases a:x∈B <;> simp [b,a]
theorem jP:∀(ns A B:List ap),cj ns A=cj ns B↔∀x∈ns,x∈A↔x∈B
 |[],_,_=>by simp [cj]
 |y::r,A,B=>by
  have a:=jP r A B
  simp only[cj,y_,forall_eq_or_imp]
  rw[<- a]
  by_cases c:y∈A <;> by_cases b:y∈B <;> simp only[c,b,if_true,V_,iff_true,iff_false,true_iff,false_iff,true_and,not_true,not_false_eq_true,false_and] <;> omega
theorem gm:∀ns:List ap,cj ns []=0
 |[]=>rfl
 |x::r=>by simp only[cj,YJ,V_,gm r]
theorem pL (ns A:List ap):cj ns A=0↔∀x∈ns,x∉A:=by
 have:=jP ns A [];rw[gm] at this;rw[this];simp
theorem dm (ns A B:List ap):(a3 (vE ns A) (vE ns B)=vE ns B)↔∀x∈ns,x∈B->x∈A:=by
 rw[bM,bM,jg,mZ];constructor
 .intro h x a b;have:=(jP ns _ _).mp (Int.ofNat.inj h) x a;exact (p_.mp (this.mpr b)).1
 intro h;refine YB pV ((jP ns _ _).mpr λx a=>?_);rw[p_,h_];exact⟨λz=>z.2,λz=>⟨h x a z,z⟩⟩
theorem il (ns A B:List ap):(a3 (vE ns A) (vE ns B)=0)↔∀x∈ns,¬(x∈A/\x∈B):=by
 rw[bM,bM,jg,mZ];have e:((cj ns (A.filter λx=>decide (x∈B)):Nat):Int)=0↔cj ns (A.filter λx=>decide (x∈B))=0:=uS
 rw[e,pL];constructor
 .intro h x a z;exact h x a (p_.mpr ⟨z.1,k_ z.2⟩)
 intro h x a z;have:=p_.mp z;exact h x a ⟨this.1,Zq this.2⟩
theorem m5 (ns A B:List ap):cr (vE ns A) (vE ns B)=vE ns (A++B):=by
 rw[bM,bM,bM,Ri,yE]
theorem Fp (ns A:List ap):0<=vE ns A:=by rw[bM];exact F2 _
theorem uw:∀(ns A:List ap),vE ns A<2^ns.length
 |[],_=>by simp [vE]
 |x::r,A=>by
  have:=uw r A
  simp only[vE,n_,E2]
  split <;> omega
theorem ux:∀(ns:List ap) (A:List ap),ns.Nodup->xc ns (vE ns A)=ns.filter λx=>decide (x∈A)
 |[],_,_=>rfl
 |x::r,A,nd=>by
  rw[Y4] at nd
  have c:=ux r A nd.2
  have n0:=Fp r A
  by_cases h:x∈A
  ·
   have b:(1+2*vE r A)%2=1:=uS
   have a:(1+2*vE r A) / 2=vE r A:=uS
   simp only[vE,h,if_true,xc,b,a,c,Zn,ZV]
  ·
   have b:¬(0+2*vE r A)%2=1:=uS
   have a:(0+2*vE r A) / 2=vE r A:=uS
   simp only[vE,h,V_,xc,b,a,c,Zn,Zd,v_]
theorem Fq (a:ns.Nodup) (c:0<=n) (b:n<2^ns.length):vE ns (xc ns n)=n:=by rw[mY ns n a,Fo ns n c b]
universe u
variable {α:Type u}
inductive RT (R:α->α->Prop):α->α->Prop
 |refl {a:α}:RT R a a
 |step {a b c:α}:RT R a b->R b c->RT R a c
theorem RT.trans {a b c:α} (h:RT R a b) (g:RT R b c):RT R a c:=by
 induction g with
 |refl=>exact h
 |step _ r d=>exact .step d r
theorem RT.flip {a b:α} (h:RT R a b):RT (λx y=>R y x) b a:=by
 induction h with
 |refl=>exact .refl
 |step _ r c=>exact (RT.step (R:=λx y=>R y x) .refl r).trans c
theorem JV {a b:α}:RT (λx y=>R y x) a b↔RT R b a:=⟨λh=>h.flip,λh=>h.flip⟩
theorem Wa {L:List (α × α)}{F:List α} (e:s∈F) (d:∀a b,(a,b)∈L->a∈F->b∈F) (h:RT (λa b=>(a,b)∈L) s x):x∈F:=by
 induction h with
 |refl=>exact e
 |step _ r c=>exact d _ _ r c
theorem m6 [DecidableEq α]:∀{l m:List α},l.Nodup->(∀x∈l,x∈m)->l.length<=m.length:=by
 intro l;induction l with
 |nil=>intro m _ _;exact Y5 _
 |cons a l j =>
 intro m d g;rw[Y4] at d;have i:=g a A_;have h:=j (m:=m.erase a) d.2 λx f=>by have c:=g x (z_ _ f);have b:x≠a:=λe=>d.1 (e▸f);exact (List.mem_erase_of_ne b).mpr c
 have e:=List.length_erase_of_mem i;have p:0<m.length:=kb i;simp only[n_];omega
def yi (l:List Nat):ap:=⟨l.toArray⟩
theorem jh (l:List Nat):(yi l).cps.toList=l:=rfl
theorem dO (l:List Nat):(yi l).length=l.length:=by show (l.toArray).size=_;simp
theorem Rk (x:ap):∃l,x=yi l:=⟨x.cps.toList,by cases x;rfl⟩
theorem JW (h:yi a=yi b):a=b:=by have:=YB (λx=>x.cps.toList) h;exact this
theorem yF (a b:List Nat):yi a++yi b=yi (a++b):=by
 show (⟨a.toArray++b.toArray⟩:ap)=⟨(a++b).toArray⟩;simp
theorem Wb (l:List Nat) (k:Nat) (h:k<=l.length):gu (yi l) ag (ab (k:Int))=yi (l.take k):=by
 have e:=StrLaws.sliceText_to (x:=yi l) (j:=(k:Int)) ⟨F2 k,by rw[jh];omega⟩;rw[jh,k9,Int.sub_zero,ZP] at e;exact e
def m7:List Nat:=[97,98,99,100,101,102,103,104,105,106,107,108,109,110,111,112,113,114,115,116,117,118,119,120,121,122]
theorem Ft:("abcdefghijklmnopqrstuvwxyz":ap)=yi m7:=by decide +kernel
theorem JX:∀i:_root_.Fin 26,m7[i.val]?=ab (97+i.val):=by decide
theorem Fv (i:Int) (a:0<=i) (c:i<26):xh m7 i=ab (97+i.toNat):=by
 obtain⟨j,rfl⟩:=Int.eq_ofNat_of_zero_le a;have b:j<26:=uS
 have:=JX ⟨j,b⟩;exact bQ (by simpa using this)
theorem JZ:∀i:_root_.Fin 26,bg (yi m7) (yi [97+i.val]) 0 26 1=[i.val]:=by decide +kernel
theorem Rm (c:Nat) (b:97<=c) (a:c<=122):bg (yi m7) (yi [c]) 0 (yi m7).length 1=[c - 97]:=by
 have:=JZ ⟨c - 97,uS⟩;rw[show 97+(c - 97)=c by omega] at this;exact this
theorem MT (b:1<=l.length) (a:l.length<=8) (h:∀c∈l,97<=c/\c<=122):xC (yi l):=⟨by rw[dO];exact b,by rw[dO];exact a,by rw[jh];exact h⟩
def N1 (t:ap × Int × List ap):List ap:=([("task":ap),t.1,(toString t.2.1:String)]:List ap)++t.2.2
end M
namespace L3
open L2
structure IM (p:Prop):Prop where
 out:p
theorem aA (h:∀R,IM (R=u)->(xN t R) D Z H):(xN t u) D Z H:=h u ⟨rfl⟩
theorem Ar (W:Nat->xv->gV->Prop) (e:∃m,W m Z H) (d:∀m Z H,W m Z H->∀(WI:Nat->xv->gV->Prop) (TB:zo) (NX:xv->gV->Prop),IM (WI=W)->IM (TB=a)->IM (NX=D.nx) ->
  c Z H λb H1=>if b=ai then TB { D with nx:=λZ' H'=>∃m',m'<m/\WI m' Z' H',ct:=λZ' H'=>∃m',m'<m/\WI m' Z' H',bk:=D.nx} Z H1 else NX Z H1):xP c a D Z H :=
 ⟨W,e,λm Z H w=>d m Z H w W a D.nx ⟨rfl⟩ ⟨rfl⟩ ⟨rfl⟩⟩
theorem cN {m:Type} (c f:m->T) (p:m->Bool) (h:List m) (wq:xv) (k:still H) (y:h.length<=av) (w:∀a∈h,∀Q:Bool->gV->Prop,Q (p a) H->tt (ab (c a)::wq) H Q) (u:∀a∈h,p a=ai->∀Q:wv,Q (f a) H->te (ab (c a)::wq) H Q) (j:i ((h.filter p).map f) H):Bz (jx 0) tt te still i (h.map c) [] (v::wq) H:=by
 refine mU (λr q Z n=>∃(e g:List m) (v:Option T),Z=v::wq/\r=e.map c/\q=(g.filter p).map f/\g++e=h/\n=H) ⟨h,[],v,rfl,rfl,rfl,rfl,rfl⟩ ?_ ?_
 .rintro q Z n ⟨e,g,v,rfl,d,rfl,b,rfl⟩;have l:e=[]:=GU.mp d.symm;subst l;rw[YH] at b;subst b;exact⟨k,by rw[g_];exact R_ (YD _ _) y,j⟩
 rintro x r q Z n N ⟨e,g,v,rfl,d,rfl,b,rfl⟩ s;cases e with
 |nil=>cases d
 |cons t e =>
 injection d with e1 e2;subst e1 e2;refine⟨k,?_⟩;show tt (ab (c t)::wq) n _;refine w t (by rw[<- b];simp) _ ?_;cases o:p t with
 |true=>rw[we rfl];refine u t (by rw[<- b];simp) o _ ⟨?_,s _ _ _ ⟨e,g++[t],_,rfl,rfl,by simp [o],by rw[<- b];simp,rfl⟩⟩;have:=YB a5 b;simp only[b_,n_] at this;rw[g_];have:=YD p g;omega
 |false =>
 rw[wc K_];exact s _ _ _ ⟨e,g++[t],_,rfl,rfl,by simp [o],by rw[<- b];simp,rfl⟩
end L3
namespace M
open L2 L3
inductive Rw where
 |tk (t:ap × Int × List ap) | od (o:ap × ap) | pr (p:ap × ap × ap)
def Rw.words:Rw->List ap
 |.tk t=>N1 t
 |.od o=>["order",o.1,o.2]
 |.pr p=>[p.1,p.2.1,p.2.2]
def F6:List Rw->List (ap × Int × List ap)
 |[]=>[]
 |.tk t::r=>t::F6 r
 |_::r=>F6 r
def xE:List Rw->List (ap × ap × ap)
 |[]=>[]
 |.pr p::r=>p::xE r
 |_::r=>xE r
def PU (L:List Rw):Rw->Prop
 |.tk _=>True
 |.od o=>o.1∈(F6 L).map (·.1)/\o.2∈(F6 L).map (·.1)
 |.pr p=>p.2.1∈(F6 L).map (·.1)/\p.2.2∈(F6 L).map (·.1)
inductive RowW:List ap->Prop
 |tk {t:ap × Int × List ap} (h:MU t):RowW (N1 t)
 |od {a b:ap} (h1:xC a) (h2:xC b):RowW ["order",a,b]
 |pr {z a b:ap} (h0:z="with"\/z="apart") (h1:xC a) (h2:xC b):RowW [z,a,b]
 |row {xs:List ap} (h1:1<=xs.length) (h8:xs.length<=8) (h:∀x∈xs,xC x):RowW (([("row":ap)]:List ap)++xs)
def AF (ws:List ap) (p:ap × ap × ap):List (ap × ap):=if p.1∈ws then [(p.2.1,p.2.2),(p.2.2,p.2.1)] else []
def D3 (ws:List ap) (W:Wk):List (ap × ap):=W.orders++W.pairs.flatMap (AF ws)
def zl (ws:List ap) (W:Wk) (a b:ap):Prop:=(a,b)∈D3 ws W
theorem J0 (ws:List ap) (p:ap × ap × ap):(AF ws p).length<=2:=by unfold AF;split <;> simp
theorem qR (ws:List ap):∀ps:List (ap × ap × ap),(ps.flatMap (AF ws)).length<=2*ps.length
 |[]=>u_ _
 |p::r=>by
  have b:=J0 ws p
  have a:=qR ws r
  simp only[List.flatMap_cons,b_,n_]
  omega
theorem yG (h:nW W):(D3 ws W).length<=52:=by
 have c:=qR ws W.pairs;have a:=h.os;have b:=h.ps;unfold D3;rw[b_];omega
def dF (F:List ap):List (ap × T):=F.map λz=>(z,T.bl ai)
theorem lR (z:ap):∀F:List ap,(aR z (dF F)).isSome=decide (z∈F)
 |[]=>rfl
 |y::r=>by
  have a:=lR z r
  unfold dF at a |-
  simp only[J_,aR]
  by_cases h:y=z
  ·
   simp [h]
  ·
   rw[wc h,a]
   have h':¬z=y:=λe=>h e.symm
   simp [h']
theorem Rn (z:ap) (F:List ap):((dF F).any λb=>decide (b.1=z))=decide (z∈F):=by
 unfold dF;rw[n9];induction F with
 |nil=>rfl
 |cons y r a =>
 simp only[HI,Function.comp_apply,a];by_cases h:y=z
 .simp [h]
 have h':¬z=y:=λe=>h e.symm;simp [h,h']
theorem Ro (h:z∉F):xL z (T.bl ai) (dF F)=dF (F++[z]):=by
 unfold xL;rw[Rn,m_ h,wc K_];unfold dF;rw[B_];rfl
theorem Rp (F:List ap):(dF F).length=F.length:=g_ _
theorem Rq (z:ap):[(z,T.bl ai)]=dF [z]:=rfl
theorem Fw (b:(∃a,x=.ref a/\H a=ab (.lst ts))\/x=.tup ts) (h:∀still:gV->Prop,(still=dR\/∃a,still=bI a ts/\H a=ab (.lst ts))->R ts still H):Ae x H R:=by
 rcases b with ⟨a,rfl,e⟩ | rfl
 .rw[Qw,e,pC];exact h _ (.inr ⟨a,rfl,e⟩)
 rw[Qv];exact h _ (.inl rfl)
def bf (W:Wk) (t:ap):List ap:=(W.tasks.map (·.1)).filter λx=>@decide (RT (zl ["with"] W) t x/\RT (zl ["with"] W) x t) (ae _)
def uA (W:Wk):List (List ap):=((W.tasks.map (·.1)).filter λt=>decide ((bf W t).head?=ab t)).map (bf W)
def dz (W:Wk) (t:ap):List ap:=(W.tasks.map (·.1)).filter λx=>@decide (RT (zl ["with"] W) x t/\¬RT (zl ["with"] W) t x) (ae _)
theorem pM (h:t∈W.tasks.map (·.1)):t∈bf W t:=by
 unfold bf;rw[p_];exact⟨h,@k_ _ (ae _) ⟨.refl,.refl⟩⟩
theorem Fx (W:Wk) (t:ap):(bf W t).length<=W.tasks.length:=by
 have:=YD (λx=>@decide (RT (zl ["with"] W) t x/\RT (zl ["with"] W) x t) (ae _)) (W.tasks.map (·.1));rw[g_] at this;exact this
def IX (o:ap × ap):ap × ap:=(o.2,o.1)
theorem Rr {L:List (ap × ap)}:RT (λx y=>(x,y)∈L.map IX) a b↔RT (λx y=>(x,y)∈L) b a:=by
 have e:(λx y=>(x,y)∈L.map IX)=λx y:ap=>(y,x)∈L:=by funext x y;refine propext ⟨λh=>?_,λh=>o_.mpr ⟨(y,x),h,rfl⟩⟩;obtain⟨o,d,c⟩:=o_.mp h;obtain⟨f,g⟩:=o;cases c;exact d
 rw[e];exact JV
structure Hs (H:gV) (fs:List (af × O3)):Prop where
 at':∀q∈fs,H q.1=ab q.2
 nd:(fs.map (·.1)).Nodup
theorem Rt (b:List (List ap)):(b.map sT).all (pl 20)=ai:=by
 rw[YG];intro t a;obtain⟨x,_,rfl⟩:=o_.mp a;show (x.map t4).all (pl 19)=ai;rw[YG];intro t a;obtain⟨y,_,rfl⟩:=o_.mp a;rfl
def Ru (H:gV) (x:T) (b:List ap):Prop:=x=sT b\/∃a,x=.ref a/\H a=ab (.lst (b.map t4))
theorem yH (h:Ru H x b) (q:Q (.bl (if neg then !decide (y∈b) else decide (y∈b))) H):sU neg (.str y) x H Q:=by
 have e:du neg (t4 y) (b.map t4)=(if neg then !decide (y∈b) else decide (y∈b)):=by unfold du;have:(t4 y∈b.map t4)↔y∈b:=eX gG;simp only[this]
 rcases h with rfl | ⟨a,rfl,c⟩
 .show sU neg (.str y) (.tup (b.map t4)) H Q;rw[Mf,e];exact⟨rfl,cz b,q⟩
 rw[Mg,c,Mh,e];exact⟨rfl,cz b,q⟩
def iR (ks:List ap) (k:ap):Bool:=decide (ks=[])||decide (k∈ks)
def jm (W:Wk) (t:ap):List ap:=(W.pairs.filter λp=>decide (p.1=("apart":ap))&&decide (p.2.1=t)).map (·.2.2)
def FE (W:Wk) (kind:ap) (D S:List ap) (t:ap × Int × List ap):Bool :=
 !decide (t.1∈D)&&iR t.2.2 kind&&@decide (∀x∈bf W t.1,x∈S) (ae _)&&@decide (∀x∈dz W t.1,x∈S++D) (ae _)&&@decide (∀x∈jm W t.1,x∉S) (ae _)
def bT (ts:List (ap × Int × List ap)) (S:List ap):Int:=((ts.filter λt=>decide (t.1∈S)).map (·.2.1)).sum
def oM (W:Wk) (d8:Int) (kind:ap) (D S:List ap):Bool:=(W.tasks.all λt=>!decide (t.1∈S)||FE W kind D S t)&&decide (bT W.tasks S<=d8)
def zv (W:Wk) (ns:List ap) (t:ap × Int × List ap):T:=.tup [.int (vE ns [t.1]),.int t.2.1,sT t.2.2,.int (vE ns (bf W t.1)),.int (vE ns (dz W t.1)),.int (vE ns (jm W t.1))]
theorem m9 (A:List (ap × Int × List ap)) (t:ap × Int × List ap) (S:List ap):bT (A++[t]) S=bT A S+if t.1∈S then t.2.1 else 0:=by
 unfold bT;rw[Y_,B_,kx];by_cases h:t.1∈S <;> simp [h]
theorem lU (b:x∈ns):(a3 (vE ns A) (vE ns [x])=vE ns [x])↔x∈A:=by
 rw[dm];constructor
 .intro h;exact h x b wn
 intro h y _ a;rw[j_.mp a];exact h
end M
namespace L3
open L2
def MD (o:Option O3) (a:af) (H:gV) (Q:wv):Prop:=match o with
 |some (.lst xs)=>oq (xs[xs.length - 1]?) λt=>Q t (eH H a (.lst xs.dropLast))
 |_=>False
def Fy:T->List T->gV->wv->Prop:=λx ts H Q=>match x,ts with
 |.ref a,[]=>MD (H a) a H Q
 |_,_=>False
theorem Fz (a:af) (H:gV) (Q:wv):Fy (.ref a) [] H Q=MD (H a) a H Q:=rfl
theorem M3 (xs:List T) (a:af) (H:gV) (Q:wv):MD (ab (.lst xs)) a H Q=oq (xs[xs.length - 1]?) λt=>Q t (eH H a (.lst xs.dropLast)):=rfl
def ql.dropLast {K:a6} (r:ql K H ts vs):ql K H ts.dropLast vs.dropLast:=by
 rw[kG,kG,r.length];exact r.take _
theorem Rv:vK X "list.pop" Fy:=by
 refine DM.imp Ph ?_;rintro x xs H Q ⟨j,ts,H3,Q3,n,m,f,h,k⟩;cases j with
 |ref a =>
  cases ts with
  |cons _ _=>exact h.elim
  |nil =>
  rw[Fz] at h;cases e:H3 a with
  |none=>rw[e] at h;exact h.elim
  |some o =>
  rw[e] at h;cases o with
  |lst d =>
   rw[M3] at h;obtain⟨g,b,r⟩:=f a _ e;cases c:d[d.length - 1]? with
   |none=>rw[c] at h;exact h.elim
   |some t =>
   rw[c,dZ] at h;obtain⟨v,l,i⟩:=r.get c;refine⟨a,g,v,n.ref,m.inv0,b,by rw[<- r.length];exact l,k _ _ _ _ (cJ (by rw[b];exact trivial)) (f.wrL b r.dropLast) (i.mono (cJ (by rw[b];exact trivial))) h⟩
  |_=>exact h.elim
 |_=>exact h.elim
end L3
namespace M
open L2 L3
local macro_rules | `(tactic| walk_at "c") => `(tactic| try dsimp only [qw,aS,J_,ZX,LA,IH,Y8,Ze,Option.getD_some])
local macro_rules | `(tactic| walk_at "n") => `(tactic| (obtain ⟨e⟩:=‹IM (_ = _)›; subst e; try dsimp only))
local macro_rules | `(tactic| walk_at "") => do
 let ls <- ((PZ.splitOn " ").toArray.map String.toName).filterM λn => do return !(<- Lean.Macro.resolveGlobalName n).isEmpty
 let ls <- ls.mapM λn => let i:=Lean.mkIdent n; `(Lean.Parser.Tactic.simpLemma| $i:ident)
 `(tactic| ((try dsimp only [$[$ls:simpLemma],*]); try simp only [*,$[$ls:simpLemma],*]))
local macro_rules | `(tactic| walk_at "h") => `(tactic| have hsz:av=16777216:=rfl)
local macro_rules | `(tactic| walk_at "t") => `(tactic| refine ⟨wo,?_⟩)
local macro_rules | `(tactic| walk_at "s") => `(tactic| (refine aA λR h=>?_; walk_at ""))
theorem q0 (n:ap) (N:List ap) (t:T) (s:List T):aP (n::N) (t::s)=ab t::aP N s:=by simp [aP]
theorem q4 (n:ap) (N:List ap):aP (n::N) []=ag::aP N []:=by simp [aP,List.replicate_succ]
theorem q5:aP [] []=[]:=rfl
theorem Pp (a b c d):Wk.enc ⟨a,b,c,d⟩=t5 [t5 (a.map xp),t5 (b.map xw),t5 (c.map ya),t5 (d.map t4)]:=rfl
local macro_rules | `(tactic| walk_at "q") => `(tactic| simp only [q0,q4,q5,Pp])
local macro_rules | `(tactic| walk_at "l") => `(tactic| (intro _ _ _ h; first | (obtain ⟨_,e,_⟩:=h; subst e; rfl) | (obtain ⟨_,_,e,_⟩:=h; subst e; rfl) | (obtain ⟨_,_,_,e,_⟩:=h; subst e; rfl) | (obtain ⟨_,_,_,_,e,_⟩:=h; subst e; rfl) | (obtain ⟨_,_,_,_,_,e,_⟩:=h; subst e; rfl) | (obtain ⟨_,_,_,_,_,_,e,_⟩:=h; subst e; rfl) | (obtain ⟨_,_,_,_,_,_,_,e,_⟩:=h; subst e; rfl) | (obtain ⟨_,_,_,_,_,_,_,_,e,_⟩:=h; subst e; rfl) | (obtain ⟨_,_,_,_,_,_,_,_,_,e,_⟩:=h; subst e; rfl) | (obtain ⟨_,_,_,_,_,_,_,_,_,_,e,_⟩:=h; subst e; rfl) | (obtain ⟨_,_,_,_,_,_,_,_,_,_,_,e,_⟩:=h; subst e; rfl) | (obtain ⟨_,_,_,_,_,_,_,_,_,_,_,_,e,_⟩:=h; subst e; rfl) | (obtain ⟨_,_,_,_,_,_,_,_,_,_,_,_,_,e,_⟩:=h; subst e; rfl) | (obtain ⟨_,_,_,_,_,_,_,_,_,_,_,_,_,_,e,_⟩:=h; subst e; rfl)))
theorem n5 (l:List ap) (h:l.Nodup:=by decide +kernel):l.Nodup:=h
theorem b6 (i:Nat) (N N':List ap) (nt:Nat) (cap:List Nat) {X}{scope} (c:X.env.scope.names=(aC (vT i)).names:=by rfl) (o:X.N=N:=by rfl) (h:Ap (aC (vT i)).names N (scope.kind==.function) scope.names N' nt cap=ai:=by decide +kernel):EW X N' nt cap scope:=bH c o h
theorem c6 {P:br}{w:bb}{K:a6}{mg:ap->Option aw}{base:ci}{k:Nat}{sp:xi}{N ps:List ap}{f:af}{fd:dk}{x:ap}{st:ef} (F:G3 K mg x st ps f fd) (S:fY N ps (aC st)) (cb:∀(c:aw) (A:dA) (a:List tJ) (s:aI) (H:Hp) (E:XK) (ts:List T) (H3:gV) (Q:wv),zc k (A.deeper (iX x (aC st) s.heap.objs.size f c))->sp ts H3 Q ->
   ∃t,qp (vA E8 P w K mg base N x (aC st) f c A a s H E).nox (cP st) t/\t { nx:=λ_ i=>n7 Q .non i,rt:=n7 Q} (aP N ts) H3) (gl:∀ts H Q,sp ts H Q->ts.length=ps.length:=by walk_at "l"):Z1 P w K mg base (k+1) x st ps sp:=⟨f,fd,F,GS F.fn S gl cb⟩
structure t6 (p:Prop):Prop where
 out:p
structure Cl (H:gV) (a:af):Prop where
 ex:∃ns:List Int,H a=ab (.lst (ns.map t3))/\ns.length<=504
def OV (a:af) (H c:gV):Prop:=∀b o,H b=ab o->b≠a->c b=ab o
structure Wt (c:af) (H0 H:gV) (fs:List (af × O3)):Prop where
 cl:Cl H c
 kp:OV c H0 H
 at':∀p∈fs,H p.1=ab p.2/\p.1≠c
theorem iT (n:Nat):eU 0 n=(ax n).map λ(i:Nat)=>t3 (i:Int):=by
 unfold eU;exact ZM λi _=>by rw[Int.zero_add]
theorem cF (s:eG H b) (a:b p=ag):H p=ag:=by
 cases e:H p with
 |none=>rfl
 |some o=>rw[s _ _ e] at a;cases a
theorem MW:∀(ws:List ap) (f:Nat->ap),(∀i j,i<=ws.length->j<=ws.length->f i=f j->i=j)->(∀i,i<=ws.length->f i∈ws)->False
 |[],f,_,h=>by have:=h 0 (u_ _);simp at this
 |w::ws,f,inj,h=>by
  rw[n_] at inj h
  by_cases q:∃j,j<=ws.length+1/\f j=w
  ·
   obtain⟨j,g,e⟩:=q
   refine MW ws (λi=>if i<j then f i else f (i+1)) (λa b m l c=>?_) (λi k=>?_)
   ·
    try dsimp only at c
    split at c <;> split at c
    ·
     exact inj a b uS uS c
    ·
     have:=inj a (b+1) uS uS c;omega
    ·
     have:=inj (a+1) b uS uS c;omega
    ·
     have:=inj (a+1) (b+1) uS uS c;omega
   ·
    show (if i<j then f i else f (i+1))∈ws
    split
    ·
     exact (y_.mp (h i uS)).resolve_left λd=>by have:=inj i j uS g (d.trans e.symm);omega
    ·
     exact (y_.mp (h (i+1) uS)).resolve_left λd=>by have:=inj (i+1) j uS g (d.trans e.symm);omega
  ·
   exact MW ws f (λa b m l=>inj a b uS uS) λi k=>(y_.mp (h i uS)).resolve_left λe=>q ⟨i,uS,e⟩
def dg:Nat->Int->List Nat
 |0,_=>[]
 |n+1,l=>(97+(l%26).toNat)::dg n (l / 26)
def bw (b:Bool):ap:=if b then "with" else "apart"
def OM (x:Bool × Nat × Nat):T:=.tup [.str (bw x.1),.int (x.2.1:Int),.int (x.2.2:Int)]
structure PI (d:af) (H0 H:gV) (pp pe a:af) (ws:List ap) (ps:List (Bool × Nat × Nat)) (es:List T):Prop where
 w:Wt d H0 H [(pp,.lst (ps.map OM)),(pe,.lst es),(a,.lst (ws.map t4))]
 ne:pe≠pp
 na:a≠pp
 l12:ps.length<=12
 ea:es.all (pl 20)=ai
 el:es.length<=28+2*ps.length
 ok:∀x∈ps,x.2.1≠x.2.2/\x.2.1<ws.length/\x.2.2<ws.length
def oD (ws:List ap) (a:List Nat) (x:Nat × Nat):ap × ap:=(ws.getD (a.getD x.1 0) "",ws.getD (a.getD x.2 0) "")
theorem getD_mem {a:Type}{l:List a}{d:a} (h:i<l.length):l.getD i d∈l:=by
 rw[i_,d_ h];exact YZ h
def dN (ns:List ap) (f:ap->Nat):List (ap × T):=ns.map λn=>(n,t3 (f n:Int))
def fu (f:ap->Nat) (n:ap) (v:Nat):ap->Nat:=λx=>if x=n then v else f x
theorem jQ:∀{ns:List ap},n∈ns->aR n (dN ns f)=ab (t3 (f n:Int))
 |x::r,h=>by
  unfold dN
  rw[J_]
  unfold aR
  by_cases e:x=n
  ·
   rw[we e,e]
  ·
   rw[wc e]
   exact jQ (ns:=r) ((y_.mp h).resolve_left (a7 e))
theorem FJ {v:Nat} (h:n∉ns):xL n (t3 (v:Int)) (dN ns f)=dN (ns++[n]) (fu f n v):=by
 unfold xL dN;rw[wc (by
  intro e
  rw[Z5] at e
  obtain⟨x,a,e⟩:=e
  obtain⟨y,b,rfl⟩:=o_.mp a
  exact h (Zq e▸b)),B_]
 congr 1
 .refine ZM λx a=>?_;unfold fu;rw[wc (λ(e:x=n)=>h (e▸a))]
 unfold fu;rw[List.map_singleton,we rfl]
theorem FN (ns:List ap) (f:ap->Nat):(dN ns f).length=ns.length:=g_ _
def mu (m:Nat) (ns:List ap) (f:ap->Nat):Nat:=(ns.map λn=>m - f n).sum
def iz (ns:List ap) (f:ap->Nat) (m:Nat):List (List ap):=(ax m).map λk=>ns.filter λn=>decide (f n=k)
def ld (tk:List (ap × Int × List ap)) (ns:List ap):Int:=((tk.filter (λt=>du am (.str t.1) (ns.map t4))).map (·.2.1)).sum
theorem pN (ns:List ap) (f:ap->Nat) (m:Nat):(iz ns f m).length=m:=by unfold iz;rw[g_,D_]
theorem J1:a8 "dict"=ab (.type "dict"):=by decide +kernel
def Av (k:Nat) (f:ap->Nat) (xs:List ap):ap->Nat:=xs.foldl (λf n=>fu f n k) f
def fD (D:List (List ap)):ap->Nat:=D.zipIdx.foldl (λf p=>Av p.2 f p.1) (λ_=>0)
theorem J2 (A:List (List ap)) (s:List ap):fD (A++[s])=Av A.length (fD A) s:=by
 unfold fD;rw[List.zipIdx_append,Lv];simp
theorem uB:∀{ns:List ap},n∉ns->aR n (dN ns f)=ag
 |[],_=>rfl
 |x::r,h=>by
  unfold dN
  rw[J_]
  unfold aR
  rw[wc (λe=>h (by rw[<- e];exact A_))]
  exact uB λz=>h (z_ _ z)
def MZ (ts:List (ap × Int × List ap)) (n:ap):List ap:=match ts.find? (λt=>decide (t.1=n)) with
 |some t=>t.2.2
 |none=>[]
def Yo (a:List ap) (D:List (List ap)):Option T:=if D.length>a.length then ab (.tup [.str "stands",.int (D.length:Int)]) else ag
def Yp (ns xs:List ap):Option T:=(xs.find? λx=>!decide (x∈ns)).map λx=>.tup [.str "strange",.str x]
def OB:List ap->List ap->Option ap
 |_,[]=>ag
 |sn,x::r=>if x∈sn then ab x else OB (sn++[x]) r
def OT (xs:List ap):Option T:=(OB [] xs).map λx=>.tup [.str "twice",.str x]
def Yq (ns xs:List ap):Option T:=(ns.find? λn=>!decide (n∈xs)).map λn=>.tup [.str "lost",.str n]
def Yr (f:ap->Nat) (os:List (ap × ap)):Option T:=(os.find? λo=>decide (f o.2<f o.1)).map λo=>.tup [.str "order",.str o.1,.str o.2]
def Ys (f:ap->Nat) (ps:List (ap × ap × ap)):Option T:=(ps.find? λp=>decide (f p.2.1=f p.2.2) != decide (p.1=("with":ap))).map λp=>.tup [.str p.1,.str p.2.1,.str p.2.2]
def OW (ks:List ap) (k:ap):Bool:=decide (ks=[])||decide (k∈ks)
def Wc (b:ap->List ap) (a:List ap):Nat->List (List ap)->Option T
 |_,[]=>ag
 |k,s::r=>match s.find? λn=>!OW (b n) (a.getD k "") with
  |some n=>ab (.tup [.str "kind",.str n,.int (k:Int)])
  |none=>Wc b a (k+1) r
def Wd (g:List ap->Int) (d8:Int):Nat->List (List ap)->Option T
 |_,[]=>ag
 |k,s::r=>if g s>d8 then ab (.tup [.str "beat",.int (k:Int)]) else Wd g d8 (k+1) r
def Yt (W:Wk) (D:List (List ap)):Option T:=(Yo W.row D).or ((Yp (W.tasks.map (·.1)) D.flatten).or ((OT D.flatten).or (Yq (W.tasks.map (·.1)) D.flatten)))
def Yu (W:Wk) (d8:Int) (D:List (List ap)):Option T:=(Yr (fD D) W.orders).or ((Ys (fD D) W.pairs).or ((Wc (MZ W.tasks) W.row 0 D).or (Wd (ld W.tasks) d8 0 D)))
def flt (W:Wk) (d8:Int) (D:List (List ap)):Option T:=(Yt W D).or (Yu W d8 D)
structure BI (W:Wk) (D:List (List ap)):Prop where
 rw:D.length<=W.row.length
 st:∀x∈D.flatten,x∈W.tasks.map (·.1)
 nd:D.flatten.Nodup
 al:∀n∈W.tasks.map (·.1),n∈D.flatten
theorem BI.in (h:BI W D) (a:s∈D):s.Nodup/\∀n∈s,n∈W.tasks.map (·.1) :=
 ⟨(List.sublist_flatten_of_mem a).nodup h.nd,λn b=>h.st n (Y9.mpr ⟨s,a,b⟩)⟩
theorem Yv {xs:List ap}:du ai (t4 x) (xs.map t4)=!decide (x∈xs):=by
 rw[Yx,V9 gG];simp
theorem We {xs:List ap}:du am (t4 x) (xs.map t4)=decide (x∈xs):=by
 rw[Yx,Yn gG];simp
theorem Rx (ts:List T) (i:Int) (H:gV) (Q:wv):Ki (ab (.rol ts)) i H Q=oq (xh ts i) λt=>Q t H:=rfl
def Wf:xi:=λts H Q=>∃tk:List (ap × Int × List ap),ts=[.tup (tk.map xp)]/\tk.length<=8/\∀p,H p=ag->Q (.ref p) (eH H p (.lst ((tk.map (·.1)).map t4)))
structure B9 (W:Wk) (d8:Int) (kind:ap) (D S:List ap):Prop where
 one:∀t∈W.tasks,t.1∈S->t.1∉D/\iR t.2.2 kind=ai/\(∀x∈bf W t.1,x∈S)/\(∀x∈dz W t.1,x∈S\/x∈D)/\∀x∈jm W t.1,x∉S
 ld:bT W.tasks S<=d8
theorem LS:oM W d8 kind D S=ai↔B9 W d8 kind D S:=by
 unfold oM;rw[H_,h_,YG];have key:∀t:ap × Int × List ap,(!decide (t.1∈S)||FE W kind D S t)=ai↔(t.1∈S->t.1∉D/\iR t.2.2 kind=ai/\(∀x∈bf W t.1,x∈S)/\(∀x∈dz W t.1,x∈S\/x∈D)/\∀x∈jm W t.1,x∉S):=λt=>by
  unfold FE;rw[fI,ZW,YS,H_,H_,H_,H_,ZW,YS,@h_ _ (ae _),@h_ _ (ae _),@h_ _ (ae _)];constructor
  .intro h c;obtain⟨⟨⟨⟨j,i⟩,e⟩,k⟩,g⟩:=h.resolve_left (λz=>z c);exact⟨j,i,e,λx f=>q_.mp (k x f),g⟩
  intro h;by_cases c:t.1∈S
  .obtain⟨j,i,e,k,g⟩:=h c;exact .inr ⟨⟨⟨⟨j,i⟩,e⟩,λx f=>q_.mpr (k x f)⟩,g⟩
  exact .inl c
 exact⟨λ⟨a,b⟩=>⟨λt d=>(key t).mp (a t d),b⟩,λh=>⟨λt d=>(key t).mpr (h.one t d),h.ld⟩⟩
theorem lF (h:∀x,x∈S↔x∈a):bT ts S=bT ts a:=by
 have e:(ts.filter λt=>decide (t.1∈S))=ts.filter λt=>decide (t.1∈a):=Zr λt _=>by rw[Zm];exact h t.1
 unfold bT;rw[e]
theorem B9.congr (f:B9 W d8 kind D S) (d:∀x,x∈D↔x∈c) (b:∀x,x∈S↔x∈e):B9 W d8 kind c e :=
 ⟨λt g l=>by
  obtain⟨i,k,h,m,j⟩:=f.one t g ((b _).mpr l)
  exact⟨λz=>i ((d _).mpr z),k,λx a=>(b x).mp (h x a),λx a=>(m x a).imp (b x).mp (d x).mp,λx a z=>j x a ((b x).mpr z)⟩,by rw[<- lF b];exact f.ld⟩
def Bi (W:Wk) (d8:Int) (D:List (List ap)):Prop:=∀k s,D[k]?=ab s->B9 W d8 (W.row.getD k "") (D.take k).flatten s
theorem Bi.snoc (h:Bi W d8 D) (f:B9 W d8 (W.row.getD D.length "") D.flatten s):Bi W d8 (D++[s]):=λk s' e=>by
 by_cases c:k<D.length
 .rw[YW c] at e;rw[M0 uS];exact h k s' e
 rw[O_ uS] at e;have d:k - D.length=0:=by
  cases b:k - D.length with
  |zero=>rfl
  |succ n=>rw[b] at e;simp at e
 have a:k=D.length:=uS
 subst a;rw[d] at e;simp only[Y8,GA] at e;subst e;rw[fy]
 .exact f
 rfl
theorem Bi.nil:Bi W d8 []:=λk s e=>by simp at e
theorem wI:∀{xs:List ap}{f:ap->Nat},n∉xs->Av k f xs n=f n
 |[],_,_=>rfl
 |x::r,f,h=>by
  rw[y_,not_or] at h
  show Av k (fu f x k) r n=f n
  rw[wI h.2]
  unfold fu
  rw[wc h.1]
theorem FP:∀{xs:List ap}{f:ap->Nat},n∈xs->Av k f xs n=k
 |x::r,f,h=>by
  show Av k (fu f x k) r n=k
  by_cases a:n∈r
  ·
   exact FP a
  ·
   rw[wI a]
   unfold fu
   rw[we ((y_.mp h).resolve_right a)]
theorem gH (b:D.flatten.Nodup):∀{k:Nat}{s:List ap}{n:ap},D[k]?=ab s->n∈s->fD D n=k:=by
 induction hl:D.length generalizing D with
 |zero=>intro k s n e;rw[HM.mp hl] at e;simp at e
 |succ m f =>
 intro k s n e a;obtain⟨A,l,rfl⟩:∃A l,D=A++[l]:=by refine⟨D.dropLast,D.getLast (by intro z;rw[z] at hl;cases hl),(Zj _).symm⟩
 have c:A.length=m:=by simp at hl;exact hl
 rw[J2];rw[Ic,eP,IB] at b;by_cases i:k<A.length
 .rw[YW i] at e;have g:n∈A.flatten:=Y9.mpr ⟨s,S_ e,a⟩;rw[wI λz=>b.2.2 n g n z rfl];exact f b.1 c e a
 rw[O_ uS] at e;have h:k - A.length=0:=by
  cases d:k - A.length with
  |zero=>rfl
  |succ n=>rw[d] at e;simp at e
 rw[h] at e;simp only[Y8,GA] at e;subst e;rw[FP a];omega
theorem jR {D:List (List ap)} (h:n∈D.flatten):∃(k:Nat) (s:List ap),D[k]?=ab s/\n∈s:=by
 obtain⟨s,c,a⟩:=Y9.mp h;obtain⟨k,b⟩:=Zw c;exact⟨k,s,b,a⟩
theorem L5 {D:List (List ap)}:n∈(D.take k).flatten↔∃(j:Nat) (s:List ap),j<k/\D[j]?=ab s/\n∈s:=by
 constructor
 .intro h;obtain⟨j,s,e,a⟩:=jR h;rw[Iy] at e;split at e
  .exact⟨j,s,by assumption,e,a⟩
  cases e
 rintro⟨j,s,b,e,a⟩;refine Y9.mpr ⟨s,?_,a⟩;refine S_ (i:=j) ?_;rw[Iy,we b];exact e
theorem uC (h:zl ["with"] W a b):(a,b)∈W.orders\/∃p∈W.pairs,p.1="with"/\(p.2=(a,b)\/p.2=(b,a)):=by
 unfold zl D3 at h;rcases q_.mp h with h | h
 .exact .inl h
 obtain⟨p,d,c⟩:=Zf.mp h;unfold AF at c;split at c
 .rename_i e;refine .inr ⟨p,d,by simpa using e,?_⟩;simp only[y_,Z_,YJ,AJ] at c;rcases c with ⟨rfl,rfl⟩ | ⟨rfl,rfl⟩
  .exact .inl rfl
  exact .inr rfl
 cases c
theorem Ry (h:(a,b)∈W.orders):zl ["with"] W a b:=YC _ h
theorem J3 (h:(("with":ap),a,b)∈W.pairs):zl ["with"] W a b/\zl ["with"] W b a:=by
 have:∀q,q∈AF ["with"] ("with",a,b)->q∈D3 ["with"] W:=λq c=>X_ _ (Zf.mpr ⟨_,h,c⟩);constructor
 .exact this _ (by unfold AF;simp)
 exact this _ (by unfold AF;simp)
structure GT (W:Wk) (d8:Int) (D:List (List ap)) (f:ap->Nat):Prop where
 ord:∀o∈W.orders,f o.1<=f o.2
 pai:∀p∈W.pairs,f p.2.1=f p.2.2↔p.1="with"
 kin:∀k s,D[k]?=ab s->∀t∈W.tasks,t.1∈s->iR t.2.2 (W.row.getD k "")=ai
 bea:∀s∈D,bT W.tasks s<=d8
theorem uD (O:nW W) (h:BI W D):GT W d8 D (fD D)↔Bi W d8 D:=by
 have u:∀{n:ap},n∈W.tasks.map (·.1)->∃s,D[fD D n]?=ab s/\n∈s:=λg=>by obtain⟨k,s,e,c⟩:=jR (h.al _ g);rw[gH h.nd e c];exact⟨s,e,c⟩
 constructor
 .intro r k s e;have A:∀{a b:ap},RT (zl ["with"] W) a b->fD D a<=fD D b:=λz=>by
   induction z with
   |refl=>exact u_ _
   |step _ l T =>
   refine R_ T ?_;rcases uC l with o | ⟨p,m,v,e | e⟩
   .exact r.ord _ o
   .have:=(r.pai p m).mpr v;rw[e] at this;exact FX this
   have:=(r.pai p m).mpr v;rw[e] at this;exact FX this.symm
  refine⟨λt i c=>?_,r.bea s (S_ e)⟩;have X:=gH h.nd e c;refine⟨λz=>?_,r.kin k s e t i c,λx H=>?_,λx H=>?_,λx H J=>?_⟩
  .obtain⟨j,s',Z,d,g⟩:=L5.mp z;have:=gH h.nd d g;omega
  .obtain⟨w,C⟩:=p_.mp H;rw[@h_ _ (ae _)] at C;have B:=A C.1;have e2:=A C.2;obtain⟨s',d,g⟩:=u w;rw[show fD D x=k by omega,e] at d;cases d;exact g
  .obtain⟨w,C⟩:=p_.mp H;rw[@h_ _ (ae _)] at C;have B:=A C.1;obtain⟨s',d,g⟩:=u w;by_cases z:fD D x=k
   .rw[z,e] at d;cases d;exact .inl g
   exact .inr (L5.mpr ⟨_,s',uS,d,g⟩)
  obtain⟨p,m,rfl⟩:=o_.mp H;obtain⟨m,v⟩:=p_.mp m;rw[H_,h_,h_] at v;have B:=(r.pai p m).mp (by rw[v.2,X,gH h.nd e J]);rw[v.1] at B;exact wT B vS
 intro F;have Bn:∀{t:ap × Int × List ap},t∈W.tasks->∃s,D[fD D t.1]?=ab s/\t.1∈s/\B9 W d8 (W.row.getD (fD D t.1) "") (D.take (fD D t.1)).flatten s:=λi=>by obtain⟨s,e,c⟩:=u (o_.mpr ⟨_,i,rfl⟩);exact⟨s,e,c,F _ _ e⟩
 have A:∀{a b:ap},a∈W.tasks.map (·.1)->b∈W.tasks.map (·.1)->RT (zl ["with"] W) a b->fD D a<=fD D b:=λ{a b} I R z=>by
  obtain⟨t,i,rfl⟩:=o_.mp R;obtain⟨s,e,c,f⟩:=Bn i;obtain⟨_,_,S,f4,_⟩:=f.one t i c;by_cases y:RT (zl ["with"] W) t.1 a
  .have:=S a (p_.mpr ⟨I,@k_ _ (ae _) ⟨y,z⟩⟩);exact FX (gH h.nd e this)
  rcases f4 a (p_.mpr ⟨I,@k_ _ (ae _) ⟨z,y⟩⟩) with q | q
  .exact FX (gH h.nd e q)
  obtain⟨j,s',Z,d,g⟩:=L5.mp q;rw[gH h.nd d g];omega
 refine⟨λo N=>?_,λp m=>?_,λk s e t i c=>((F k s e).one t i c).2.1,λs c=>?_⟩
 .obtain⟨_,E,G⟩:=O.oo o N;exact A E G (.step .refl (Ry N))
 .obtain⟨v,_,E,G⟩:=O.pp p m;constructor
  .intro e;refine v.resolve_right λI=>?_;obtain⟨t,i,M⟩:=o_.mp E;obtain⟨s,B,c,f⟩:=Bn i;obtain⟨_,_,_,_,P⟩:=f.one t i c;refine P p.2.2 (o_.mpr ⟨p,p_.mpr ⟨m,by rw[H_,h_,h_];exact⟨I,M.symm⟩⟩,rfl⟩) ?_;obtain⟨s',d,g⟩:=u G;have Y:fD D p.2.2=fD D t.1:=by rw[M];exact e.symm
   rw[Y,B] at d;cases d;exact g
  intro K;have L:(("with":ap),p.2.1,p.2.2)∈W.pairs:=by rw[<- K];exact m
  obtain⟨U,Q⟩:=J3 L;exact Nat.le_antisymm (A E G (.step .refl U)) (A G E (.step .refl Q))
 obtain⟨k,V⟩:=Zw c;exact (F k s V).ld
theorem J4:∀{D:List (List ap)},Bi W d8 D->(∀s∈D,s.Nodup/\∀n∈s,n∈W.tasks.map (·.1))->D.flatten.Nodup:=by
 intro D;induction hl:D.length generalizing D with
 |zero=>intro _ _;rw[HM.mp hl];exact EC
 |succ m o =>
 intro F g;obtain⟨A,l,rfl⟩:∃A l,D=A++[l]:=by refine⟨D.dropLast,D.getLast (by intro z;rw[z] at hl;cases hl),(Zj _).symm⟩
 have j:A.length=m:=by simp at hl;exact hl
 have p:Bi W d8 A:=λk s e=>by
  have q:k<A.length:=by
   rcases D7 k A.length with z | z
   .exact z
   rw[U_ z] at e;cases e
  have:=F k s (by rw[YW q];exact e)
  rwa [M0 uS] at this
 rw[Ic,eP,IB];have c:=g l wn;refine⟨o j p λs h=>g s (YC _ h),c.1,λa r b d e=>?_⟩;subst e;obtain⟨t,i,rfl⟩:=o_.mp (c.2 a d);have f:=F A.length l (by rw[O_ (u_ _)];simp);rw[fy rfl] at f;exact (f.one t i d).1 r
theorem wJ {a:List ap} (h:k<a.length):xh (a.map t4) (k:Int)=ab (.str (a.getD k "")):=bQ (by rw[C_,d_ h,i_,d_ h];rfl)
theorem pQ:∀ns:List ap,xc ns 0=[]
 |[]=>rfl
 |n::r=>by
  have:=pQ r
  unfold xc
  simpa using this
theorem yI:∀(ns:List ap) (b:Int),(xc ns b).Sublist ns
 |[],_=>List.Sublist.refl _
 |n::r,b=>by
  have:=yI r (b / 2)
  unfold xc
  split
  ·
   exact this.cons₂ n
  ·
   exact this.cons n
theorem kJ (z:nW W) (g:ns.Perm (W.tasks.map (·.1))) (p:m<=W.row.length) (u:∀n,f n<m):BI W (iz ns f m):=by
 have d:∀x,x∈(iz ns f m).flatten↔x∈ns:=λx=>by
  rw[Y9];constructor
  .rintro⟨s,o,c⟩;obtain⟨k,_,rfl⟩:=o_.mp o;exact (p_.mp c).1
  intro c;exact⟨_,o_.mpr ⟨f x,T_.mpr (u x),rfl⟩,p_.mpr ⟨c,k_ rfl⟩⟩
 refine⟨by rw[pN];exact p,λx c=>g.mem_iff.mp ((d x).mp c),?_,λx c=>(d x).mpr (g.mem_iff.mpr c)⟩;have A:=g.nodup_iff.mpr z.nd;unfold iz;have:∀l:List Nat,l.Nodup->((l.map λk=>ns.filter λn=>decide (f n=k)).flatten).Nodup:=by
  intro l;induction l with
  |nil=>intro _;exact EC
  |cons k r t =>
  intro h;rw[Y4] at h;rw[J_,ZQ,IB];refine⟨List.filter_sublist.nodup A,t h.2,λa y b i e=>?_⟩;subst e;obtain⟨s,o,i⟩:=Y9.mp i;obtain⟨j,q,rfl⟩:=o_.mp o;have v:=Zq (p_.mp y).2;have w:=Zq (p_.mp i).2;exact h.1 (by rw[<- v,w];exact q)
 exact this _ pu
def zI {b:Type}(a:b->b->Bool):List b->List b
 |[]=>[]
 |n::B=>if (zI a B).any (λg=>a g n) then zI a B else zI a B++[n]
theorem qT:∀(xs:List a),∀g∈zI b xs,g∈xs
 |[],g,h=>h
 |n::B,g,h=>by
  unfold zI at h
  split at h
  ·
   exact z_ _ (qT B g h)
  ·
   rcases q_.mp h with h | h
   ·
    exact z_ _ (qT B g h)
   ·
    rw[j_.mp h];exact A_
theorem yJ {c:f->f->Bool} (i:∀a,c a a=ai):∀(xs:List f),∀b∈xs,∃g∈zI c xs,c g b=ai
 |n::B,b,h=>by
  unfold zI
  rcases y_.mp h with rfl | h
  ·
   split
   ·
    rename_i j
    obtain⟨g,d,e⟩:=Z5.mp j
    exact⟨g,d,e⟩
   ·
    exact⟨b,wn,i b⟩
  ·
   obtain⟨g,d,e⟩:=yJ i B b h
   split
   ·
    exact⟨g,d,e⟩
   ·
    exact⟨g,YC _ d,e⟩
theorem Aw (m:Nat):ax (m+m)=ax m++(ax m).map (·+m):=by
 rw[sj];congr 1;exact ZM λa _=>Nat.add_comm _ _
theorem lV:∀(ws:List ap) (b:Int),(xc ws b).length<=ws.length
 |[],_=>u_ _
 |x::r,b=>by
  unfold xc
  have:=lV r (b / 2)
  split
  ·
   rw[n_,n_];omega
  ·
   rw[n_];omega
def bj (b a:Nat):Bool:=decide (a3 (b:Int) (a:Int)=(a:Int))
theorem gQ (b a:Nat):bj b a=ai↔b &&& a=a:=by
 unfold bj;rw[h_,jg];exact mo
theorem Ax (a:Nat):bj a a=ai:=(gQ a a).mpr (Nat.and_self a)
def nm (W:Wk):List ap:=W.tasks.map (·.1)
def pk (W:Wk) (i:Nat):List ap:=xc (nm W) (i:Int)
def vF (W:Wk):Nat:=2^W.tasks.length
theorem cX (W:Wk):(nm W).length=W.tasks.length:=g_ _
theorem cV (a:nW W) (h:i<vF W):cj (nm W) (pk W i)=i:=by
 have b:((i:Int))<2^(nm W).length:=by
  have e:((2^W.tasks.length:Nat):Int)=(2:Int)^W.tasks.length:=by push_cast;rfl
  rw[cX,<- e];exact Int.ofNat_lt.mpr h
 have:=Fq (ns:=nm W) a.nd (F2 i) b;rw[bM] at this;exact Int.ofNat.inj this
theorem jT (A:List ap):cj (nm W) A<vF W:=by
 have:=uw (nm W) A;rw[bM,cX] at this;have e:((2^W.tasks.length:Nat):Int)=(2:Int)^W.tasks.length:=by push_cast;rfl
 rw[<- e] at this;exact Int.ofNat_lt.mp this
theorem FQ (a:nW W) (A:List ap):pk W (cj (nm W) A)=(nm W).filter λx=>decide (x∈A):=by
 unfold pk;rw[<- bM];exact ux _ _ a.nd
theorem iU (a:nW W):x∈pk W (cj (nm W) A)↔x∈nm W/\x∈A:=by
 rw[FQ a,p_,h_]
theorem dq (h:x∈pk W i):x∈nm W:=iQ _ _ x h
theorem Wg (a:nW W) (i:Nat):(pk W i).Nodup:=(yI _ _).nodup a.nd
theorem gA:∀(ns A B:List ap),(∀x∈ns,x∈B↔x∉A)->cj ns A+cj ns B+1=2^ns.length
 |[],_,_,_=>rfl
 |x::r,A,B,h=>by
  have d:=gA r A B λy c=>h y (z_ _ c)
  have b:=h x A_
  simp only[cj,n_,ka]
  by_cases a:x∈A
  ·
   rw[we a,wc (λz=>b.mp z a)];omega
  ·
   rw[wc a,we (b.mpr a)];omega
theorem iV:∀(ns A B:List ap),(∀x∈ns,¬(x∈A/\x∈B))->cj ns A+cj ns B=cj ns (A++B)
 |[],_,_,_=>rfl
 |x::r,A,B,h=>by
  have e:=iV r A B λy c=>h y (z_ _ c)
  have d:=h x A_
  simp only[cj,q_]
  by_cases a:x∈A
  ·
   have b:x∉B:=λz=>d ⟨a,z⟩
   simp only[a,b,if_true,V_,AJ];omega
  ·
   by_cases b:x∈B
   ·
    simp only[a,b,if_true,V_,or_true];omega
   ·
    simp only[a,b,V_,or_self];omega
theorem jU:bj (cj (nm W) A) (cj (nm W) B)=ai↔∀x∈nm W,x∈B->x∈A:=by
 unfold bj;rw[h_,<- bM,<- bM];exact dm _ _ _
def uE (N:Nat):List Nat:=(ax (N+1)).filter (bj N)
theorem yK (h:bj N i=ai):i<=N:=by
 have:=(gQ N i).mp h;have:=Nat.and_le_left (n:=N) (m:=i);omega
theorem yL (h:N<M):(ax M).filter (bj N)=uE N:=by
 obtain⟨k,rfl⟩:∃k,M=(N+1)+k:=⟨M - (N+1),uS⟩;unfold uE;rw[sj,Y_];have:((ax k).map λx=>N+1+x).filter (bj N)=[]:=by rw[JU];intro a b;obtain⟨x,_,rfl⟩:=o_.mp b;intro z;have:=yK z;omega
 rw[this,YH]
theorem uF (d:i<2^k):bj N (i+2^k)=(bj N (2^k)&&bj N i):=by
 have a:i+2^k=2^k ||| i:=by have:=Nat.two_pow_add_eq_or_of_lt d 1;rw[Nat.mul_one] at this;omega
 rw[Yx,H_,gQ,gQ,gQ,a];constructor
 .intro h;have c:∀j,(N &&& (2^k ||| i)).testBit j=(2^k ||| i).testBit j:=λj=>by rw[h]
  refine⟨kX λj=>?_,kX λj=>?_⟩
  .have:=c j;rw[fv,sg] at this;rw[fv];cases b:(2^k).testBit j <;> simp_all
  have:=c j;rw[fv,sg] at this;rw[fv];cases b:i.testBit j <;> simp_all
 rintro⟨b,e⟩;rw[Nat.and_or_distrib_left,b,e]
theorem FT:(ax (2^(k+1))).filter (bj N)=(ax (2^k)).filter (bj N)++if bj N (2^k)=ai then ((ax (2^k)).filter (bj N)).map (·+2^k) else []:=by
 rw[show 2^(k+1)=2^k+2^k by rw[ka];omega,Aw,Y_];congr 1;rw[kA];by_cases h:bj N (2^k)=ai
 .rw[we h];congr 1;refine Zr λi a=>?_;show bj N (i+2^k)=bj N i;rw[uF (T_.mp a),h,Y7]
 rw[wc h,JU.mpr,ZX];intro i a;show ¬bj N (i+2^k)=ai;rw[uF (T_.mp a),H_];exact λz=>h z.1
def Bn (W:Wk) (d8:Int) (k d i:Nat):Bool:=oM W d8 (W.row.getD k "") (pk W d) (pk W i)
def zC (W:Wk) (d8:Int) (k d:Nat):List Nat:=(ax (vF W)).filter (Bn W d8 k d)
theorem DH:i∈zC W d8 k d↔i<vF W/\B9 W d8 (W.row.getD k "") (pk W d) (pk W i):=by
 unfold zC;rw[p_,T_];unfold Bn;rw[LS]
theorem B9.apart (f:B9 W d8 kind D S) (b:x∈nm W) (c:x∈S):x∉D:=by
 obtain⟨t,a,rfl⟩:=o_.mp b;exact (f.one t a c).1
theorem Ay (c:nW W) (l:d<vF W):(uE (vF W - 1 - d)).filter (Bn W d8 k d)=zC W d8 k d:=by
 have j:vF W - 1 - d<vF W:=uS
 rw[<- yL j];unfold zC;rw[List.filter_filter];refine Zr λi e=>?_;have b:=T_.mp e;cases h:Bn W d8 k d i with
 |false=>rfl
 |true =>
 rw[Y7];have f:B9 W d8 (W.row.getD k "") (pk W d) (pk W i):=LS.mp h;have g:vF W - 1 - d=cj (nm W) ((nm W).filter λx=>decide (x∉pk W d)):=by
  have:=gA (nm W) (pk W d) ((nm W).filter λx=>decide (x∉pk W d)) λx a=>by rw[p_,h_];exact⟨λz=>z.2,λz=>⟨a,z⟩⟩
  rw[cV c l,cX] at this;unfold vF;omega
 rw[g,show i=cj (nm W) (pk W i) from (cV c b).symm];rw[jU];intro x a m;rw[p_,h_];exact⟨a,f.apart a m⟩
inductive yY (W:Wk) (d8:Int):List Nat->Nat->Prop
 |nil:yY W d8 [] 0
 |snoc {fs:List Nat} {d f:Nat}:yY W d8 fs d->fs.length<W.row.length->f∈zC W d8 fs.length d->yY W d8 (fs++[f]) (d+f)
theorem qU (W:Wk):pk W 0=[]:=pQ _
theorem yY.ok (i:nW W) (r:yY W d8 a d):d<vF W/\a.length<=W.row.length/\(∀x,x∈pk W d↔x∈(a.map (pk W)).flatten)/\Bi W d8 (a.map (pk W))/\∀f∈a,f<vF W:=by
 induction r with
 |nil=>exact⟨qk vS,Y5 _,λx=>by rw[qU];rfl,Bi.nil,λ_ h=>(nomatch h)⟩
 |@snoc a d f r n l k =>
 obtain⟨q,_,j,o,p⟩:=k;obtain⟨b,F⟩:=DH.mp l;have e:d+f=cj (nm W) (pk W d++pk W f):=by rw[<- iV _ _ _ λx m z=>F.apart m z.2 z.1,cV i q,cV i b]
 refine⟨by rw[e];exact jT _,by rw[b_];exact n,λx=>?_,?_,λg c=>?_⟩
 .rw[e,iU i,B_,Ic,q_,q_,<- j x];simp only[J_,ZX,ZQ,pS,YH];exact⟨λz=>z.2,λz=>⟨z.elim dq dq,z⟩⟩
 .rw[B_];refine o.snoc ?_;rw[g_];exact F.congr j λx=>Iff.rfl
 rcases q_.mp c with c | c
 .exact p g c
 rw[j_.mp c];exact b
theorem yY.of (g:nW W):∀{D:List (List ap)},D.length<=W.row.length->(∀s∈D,∀n∈s,n∈nm W)->Bi W d8 D->yY W d8 (D.map (cj (nm W))) (cj (nm W) D.flatten):=by
 intro D;induction hl:D.length generalizing D with
 |zero=>intro _ _ _;rw[HM.mp hl,ZX,pS,gm];exact .nil
 |succ m j =>
 intro t d F;obtain⟨A,l,rfl⟩:∃A l,D=A++[l]:=⟨D.dropLast,D.getLast (by intro z;rw[z] at hl;cases hl),(Zj _).symm⟩;have i:A.length=m:=by simp at hl;exact hl
 have p:Bi W d8 A:=λk s e=>by
  have q:k<A.length:=by
   rcases D7 k A.length with z | z
   .exact z
   rw[U_ z] at e;cases e
  have:=F k s (by rw[YW q];exact e)
  rwa [M0 uS] at this
 have r:=j i uS (λs h=>d s (YC _ h)) p;have f:=F A.length l (by rw[O_ (u_ _)];simp);rw[fy rfl] at f;have c:=d l wn;have b:∀n∈A.flatten,n∈nm W:=λn a=>by obtain⟨s,h,a⟩:=Y9.mp a;exact d s (YC _ h) n a
 have:=yY.snoc r (by rw[g_];omega) (f:=cj (nm W) l) (DH.mpr ⟨jT _,by
  rw[g_]
  exact f.congr (λx=>by rw[iU g];exact⟨λz=>⟨b x z,z⟩,λz=>z.2⟩) λx=>by rw[iU g];exact⟨λz=>⟨c x z,z⟩,λz=>z.2⟩⟩)
 rw[iV _ _ _ λx o z=>f.apart o z.2 z.1] at this;rw[B_,Ic];simpa using this
theorem kO (c:nW W):∀x∈nm W,x∈pk W (vF W - 1):=λx a=>by
 have d:cj (nm W) (nm W)=vF W - 1:=by
  have:=gA (nm W) (nm W) [] λy b=>by simp [b]
  rw[gm,cX] at this;unfold vF;omega
 rw[<- d,iU c];exact⟨a,a⟩
theorem ji (h:∀x∈nm W,x∈A):cj (nm W) A=vF W - 1:=by
 have:=gA (nm W) A [] λy a=>by simp [h y a]
 rw[gm,cX] at this;unfold vF;omega
theorem yY.dok (c:nW W) (r:yY W d8 b (vF W - 1)):BI W (b.map (pk W))/\Bi W d8 (b.map (pk W)):=by
 obtain⟨_,g,f,d,_⟩:=r.ok c;have e:∀s∈b.map (pk W),s.Nodup/\∀n∈s,n∈W.tasks.map (·.1):=λs h=>by obtain⟨i,_,rfl⟩:=o_.mp h;exact⟨Wg c i,λn a=>dq a⟩
 refine⟨⟨by rw[g_];exact g,λx j=>?_,J4 d e,λn a=>(f n).mp (kO c n a)⟩,d⟩;obtain⟨s,h,a⟩:=Y9.mp j;exact (e s h).2 x a
theorem yY.ofD (a:nW W) (h:BI W D) (F:Bi W d8 D):yY W d8 (D.map (cj (nm W))) (vF W - 1):=by
 have:=yY.of a h.rw (λs b=>(h.in b).2) F
 rwa [ji h.al] at this
def aV (i:Nat):T:=.int (i:Int)
def BQ (W:Wk) (d8:Int) (p:af):List (ap × T):=[("works",W.enc),("beat",.int d8),("rules",.ref p),("whole",.int ((vF W:Int) - 1))]
structure Cs (C:af) (W:Wk) (d8:Int) (H:gV) (a:af):Prop where
 ex:∃p,H a=ab (.ins C (BQ W d8 p))/\H p=ab (.lst (W.tasks.map (zv W (W.tasks.map (·.1)))))
theorem Cs.sub (h:Cs C W d8 H a) (s:eG H b):Cs C W d8 b a:=by
 obtain⟨p,d,c⟩:=h.ex;exact⟨p,s _ _ d,s _ _ c⟩
theorem jV:aR "works" (BQ W d8 p)=ab W.enc:=rfl
theorem yM:aR "beat" (BQ W d8 p)=ab (.int d8):=by unfold BQ aR;rw[wc xo];unfold aR;rw[we rfl]
theorem nj:aR "rules" (BQ W d8 p)=ab (.ref p):=by unfold BQ aR;rw[wc xo];unfold aR;rw[wc xo];unfold aR;rw[we rfl]
theorem uG:aR "whole" (BQ W d8 p)=ab (.int ((vF W:Int) - 1)):=by unfold BQ aR;rw[wc xo];unfold aR;rw[wc xo];unfold aR;rw[wc xo];unfold aR;rw[we rfl]
theorem FW (h:m∉(["works","beat","rules","whole"]:List ap)):aR m (BQ W d8 p)=ag:=by
 simp only[y_,YJ,AJ,not_or] at h;unfold BQ;simp only[aR];rw[wc (a7 h.1),wc (a7 h.2.1),wc (a7 h.2.2.1),wc (a7 h.2.2.2)]
theorem jW (a:nW W) (h:i<vF W):vE (W.tasks.map (·.1)) (pk W i)=(i:Int):=by
 rw[bM];exact YB pV (cV a h)
theorem ir (a:nW W):vF W<=256:=IQ (n:=2) vS a.t8
theorem eF (W:Wk):0<vF W:=qk vS
def M4:xi:=λts H Q=>∃N:Nat,ts=[.int (N:Int)]/\N<256/\∀p,H p=ag->Q (.ref p) (eH H p (.lst ((uE N).map aV)))
def Wh (C:af):xi:=λts H Q=>∃(a:af) (W:Wk) (d8:Int),ts=[.ref a,W.enc,.int d8]/\nW W/\H a=ab (.ins C [])/\∀c,(∀b o,b≠a->H b=ab o->c b=ab o)->Cs C W d8 c a->Q .non c
def Wi (C:af):xi:=λts H Q=>∃(a:af) (W:Wk) (d8:Int) (k d:Nat),ts=[.ref a,.int (k:Int),.int (d:Int)]/\nW W/\Cs C W d8 H a/\k<W.row.length/\d<vF W/\∀p,H p=ag->Q (.ref p) (eH H p (.lst ((zC W d8 k d).map aV)))
def M5 (C:af):xi:=λts H Q=>∃(a:af) (W:Wk) (d8:Int) (i:Nat),ts=[.ref a,.int (i:Int)]/\nW W/\Cs C W d8 H a/\i<vF W/\Q (.int (bT W.tasks (pk W i))) H
section
variable {α:Type}
def iB (k:Nat):List (Nat × α)->Option α
 |[]=>ag
 | (k',v)::r=>if k'=k then ab v else iB k r
def y3 (k:Nat) (v:α) (E:List (Nat × α)):List (Nat × α) :=
 if (E.any λe=>decide (e.1=k))=ai then E.map (λe=>if e.1=k then (e.1,v) else e) else E++[(k,v)]
def dI (a:α->T) (E:List (Nat × α)):List (Int × T):=E.map λe=>((e.1:Int),a e.2)
theorem Rz (a:α->T) (k:Nat) (v:α) (E:List (Nat × α)):tU (k:Int) (a v) (dI a E)=dI a (y3 k v E):=by
 have c:((dI a E).any λb=>decide (b.1=(k:Int)))=E.any λe=>decide (e.1=k):=by unfold dI;rw[n9];congr 1;funext e;show decide ((e.1:Int)=(k:Int))=decide (e.1=k);rw[Zm];omega
 unfold tU y3;rw[c];split
 .unfold dI;rw[W_,W_];refine ZM λe _=>?_;show (if (e.1:Int)=(k:Int) then ((e.1:Int),a v) else ((e.1:Int),a e.2))=_;show _=((((if e.1=k then (e.1,v) else e).1:Nat):Int),a (if e.1=k then (e.1,v) else e).2);by_cases h:e.1=k
  .rw[we h,we (by rw[h])]
  rw[wc h,wc uS]
 unfold dI;rw[B_];rfl
theorem jj:∀{E:List (Nat × α)},iB k E=ab v->(k,v)∈E
 | (k',v')::r,h=>by
  unfold iB at h
  by_cases e:k'=k
  ·
   rw[we e] at h;cases h;subst e;exact A_
  ·
   rw[wc e] at h;exact z_ _ (jj h)
theorem nu:∀{E:List (Nat × α)},iB k E=ag->∀e∈E,e.1≠k
 | (k',v')::r,h,e,a=>by
  unfold iB at h
  by_cases z:k'=k
  ·
   rw[we z] at h;cases h
  ·
   rw[wc z] at h
   rcases y_.mp a with rfl | a
   ·
    exact z
   ·
    exact nu h e a
theorem pR (k:Nat) (v:α) (E:List (Nat × α)):(y3 k v E).map (·.1)=if k∈E.map (·.1) then E.map (·.1) else E.map (·.1)++[k]:=by
 have a:(E.any λe=>decide (e.1=k))=decide (k∈E.map (·.1)):=by rw[Yx,Z5,h_,o_];exact⟨λ⟨e,h,z⟩=>⟨e,h,Zq z⟩,λ⟨e,h,z⟩=>⟨e,h,k_ z⟩⟩
 unfold y3;rw[a];by_cases h:k∈E.map (·.1)
 .rw[we h,we (k_ h),W_];refine ZM λe _=>?_;show (if e.1=k then (e.1,v) else e).1=e.1;split <;> rfl
 rw[wc h,wc (lK h),B_];rfl
theorem FZ {e:Nat × α} (h:e∈y3 k v E):e=(k,v)\/(e∈E/\e.1≠k)\/(e∈E/\k∉E.map (·.1)):=by
 unfold y3 at h;split at h
 .obtain⟨x,a,rfl⟩:=o_.mp h;by_cases z:x.1=k
  .rw[we z,z];exact .inl rfl
  rw[wc z];exact .inr (.inl ⟨a,z⟩)
 rename_i b;rcases q_.mp h with h | h
 .refine .inr (.inr ⟨h,λz=>b ?_⟩);obtain⟨x,a,e⟩:=o_.mp z;exact Z5.mpr ⟨x,a,k_ e⟩
 exact .inl (j_.mp h)
theorem Ga (k:Nat) (v:α) (E:List (Nat × α)):(k,v)∈y3 k v E:=by
 unfold y3;split
 .rename_i h;obtain⟨x,a,e⟩:=Z5.mp h;refine o_.mpr ⟨x,a,?_⟩;have:=Zq e;rw[we this,this]
 exact X_ _ (j_.mpr rfl)
theorem Gb {e:Nat × α} (h:e∈E) (a:e.1≠k):e∈y3 k v E:=by
 unfold y3;split
 .exact o_.mpr ⟨e,h,wc a⟩
 exact YC _ h
theorem yN {E:List (Nat × α)} (h:(E.map (·.1)).Nodup):((y3 k v E).map (·.1)).Nodup:=by
 rw[pR];split
 .exact h
 rename_i z;exact gD h z
theorem yO:∀{E:List (Nat × α)},(E.map (·.1)).Nodup->(k,v)∈E->iB k E=ab v
 | (k',v')::r,nd,h=>by
  rw[J_,Y4] at nd
  unfold iB
  rcases y_.mp h with e | h
  ·
   cases e;rw[we rfl]
  ·
   rw[wc (λz=>nd.1 (by rw[z];exact o_.mpr ⟨_,h,rfl⟩))]
   exact yO nd.2 h
end
theorem yY.inv (r:yY W d8 c d) (b:c.length=k+1):∃a d' f,c=a++[f]/\d=d'+f/\yY W d8 a d'/\a.length=k/\f∈zC W d8 k d':=by
 cases r with
 |nil=>cases b
 |@snoc a d' f r g e =>
  have:a.length=k:=by rw[b_] at b;simp at b;exact b
  exact⟨a,d',f,rfl,rfl,r,this,by rw[<- this];exact e⟩
theorem yY.nil0 (r:yY W d8 a d) (h:a=[]):d=0:=by
 cases r with
 |nil=>rfl
 |@snoc e d' f r c b=>exact wT h wn
theorem qW (b:nW W) (h:d<vF W) (c:f∈zC W d8 k d):d+f<vF W:=by
 obtain⟨a,F⟩:=DH.mp c;have e:d+f=cj (nm W) (pk W d++pk W f):=by rw[<- iV _ _ _ λx g z=>F.apart g z.2 z.1,cV b h,cV b a]
 rw[e];exact jT _
def zw (W:Wk) (d8:Int) (k d:Nat):List Nat:=(zI bj (zC W d8 k d)).reverse
theorem iu (h:f∈zw W d8 k d):f∈zC W d8 k d:=qT _ _ (List.mem_reverse.mp h)
theorem yP (h:f∈zC W d8 k d):∃g∈zw W d8 k d,bj g f=ai:=by
 obtain⟨g,a,e⟩:=yJ Ax _ f h;exact⟨g,List.mem_reverse.mpr a,e⟩
theorem Gd (h:x∈bf W t) (a:t∈nm W):t∈bf W x:=by
 unfold bf at h |-;rw[p_,@h_ _ (ae _)] at h |-;exact⟨a,h.2.2,h.2.1⟩
theorem yY.grp (n:nW W) (r:yY W d8 h d) (b:t∈pk W d) (l:x∈bf W t):x∈pk W d:=by
 obtain⟨_,_,c,m,_⟩:=r.ok n;obtain⟨s,g,a⟩:=Y9.mp ((c t).mp b);obtain⟨j,i⟩:=Zw g;obtain⟨u,k,e⟩:=o_.mp (dq b);have f:=(m j s i).one u k (by rw[e];exact a);exact (c x).mpr (Y9.mpr ⟨s,g,f.2.2.1 x (by rw[e];exact l)⟩)
theorem wK (c:∀t∈ts,0<=t.2.1) (h:∀x∈a,x∈S):bT ts a<=bT ts S:=by
 unfold bT;induction ts with
 |nil=>exact FK _
 |cons t r e =>
  have i:=e λu f=>c u (z_ _ f)
  have g:=c t A_
  rw[Zn,Zn]
  by_cases b:t.1∈a
  ·
   rw[we (k_ b),we (k_ (h _ b)),J_,J_,Zz,Zz]
   omega
  ·
   rw[wc (lK b)]
   by_cases d:t.1∈S
   ·
    rw[we (k_ d),J_,Zz];omega
   ·
    rw[wc (lK d)];exact i
theorem B9.more (k:nW W) (f:B9 W d8 kind D S) (e:∀x∈D,x∈b) (h:∀t x,t∈b->x∈bf W t->x∈b):B9 W d8 kind b (S.filter λx=>decide (x∉b)) :=
 ⟨λt c d=>by
  rw[p_,h_] at d
  obtain⟨m,j,g,l,i⟩:=f.one t c d.1
  refine⟨d.2,j,λx a=>?_,λx a=>?_,λx a z=>i x a (p_.mp z).1⟩
  ·
   rw[p_,h_]
   exact⟨g x a,λz=>d.2 (h x t.1 z (Gd a (o_.mpr ⟨t,c,rfl⟩)))⟩
  ·
   by_cases z:x∈b
   ·
    exact .inr z
   ·
    exact .inl (p_.mpr ⟨(l x a).resolve_right λq=>z (e x q),k_ z⟩),
  Int.le_trans (wK (λt c=>by have:=(k.tk t c).lo;omega) λx a=>(p_.mp a).1) f.ld⟩
abbrev Wy:=List (Nat × List Nat)
def Ge (d:Nat) (v:List Nat) (B:Wy) (f:Nat):Wy:=match iB (d+f) B with
 |none=>y3 (d+f) (v++[f]) B
 |some _=>B
def NL (W:Wk) (d8:Int) (k:Nat) (E:Wy):Wy:=E.foldl (λB e=>(zw W d8 k e.1).foldl (Ge e.1 e.2) B) []
def FY (W:Wk) (d8:Int):Nat->Wy
 |0=>[(0,[])]
 |k+1=>NL W d8 k (FY W d8 k)
structure MH (W:Wk) (d8:Int) (k:Nat) (E:Wy):Prop where
 nd:(E.map (·.1)).Nodup
 ok:∀e∈E,yY W d8 e.2 e.1/\e.2.length=k
 al:∀fs d,yY W d8 fs d->fs.length=k->∃e∈E,∀x∈pk W d,x∈pk W e.1
structure CS (W:Wk) (d8:Int) (k:Nat) (sub:Nat->Nat->Prop) (B:Wy):Prop where
 nd:(B.map (·.1)).Nodup
 ok:∀e∈B,yY W d8 e.2 e.1/\e.2.length=k+1
 al:∀d f,sub d f->∃e∈B,e.1=d+f
theorem CS.step {d8:Int}{k:Nat}{sub:Nat->Nat->Prop}{B:Wy}{d:Nat}{v:List Nat}{f:Nat} (h:CS W d8 k sub B) (m:yY W d8 v d) (i:v.length=k) (n:k<W.row.length) (j:f∈zC W d8 k d):
  CS W d8 k (λd' c=>sub d' c\/(d'=d/\c=f)) (Ge d v B f):=by
 have g:yY W d8 (v++[f]) (d+f)/\(v++[f]).length=k+1 :=
  ⟨.snoc m uS (by rw[i];exact j),by rw[b_,i];rfl⟩
 unfold Ge;cases e:iB (d+f) B with
 |none =>
  refine⟨yN h.nd,λx a=>?_,λd' c b=>?_⟩
  .rcases FZ a with rfl | ⟨a,_⟩ | ⟨a,_⟩
   .exact g
   .exact h.ok x a
   exact h.ok x a
  rcases b with b | ⟨rfl,rfl⟩
  .obtain⟨x,a,l⟩:=h.al d' c b;exact⟨x,Gb a (nu e x a),l⟩
  exact⟨_,Ga _ _ _,rfl⟩
 |some u =>
 refine⟨h.nd,h.ok,λd' c b=>?_⟩;rcases b with b | ⟨rfl,rfl⟩
 .exact h.al d' c b
 exact⟨_,jj e,rfl⟩
theorem CS.inner (n:yY W d8 v d) (m:v.length=k) (o:k<W.row.length):
  ∀{xs:List Nat},(∀f∈xs,f∈zC W d8 k d)->CS W d8 k sub B->CS W d8 k (λd' a=>sub d' a\/(d'=d/\a∈xs)) (xs.foldl (Ge d v) B):=by
 intro xs;induction xs generalizing sub B with
 |nil=>intro _ h;exact⟨h.nd,h.ok,λd' a c=>h.al d' a (c.resolve_right λz=>nomatch z.2)⟩
 |cons f r l =>
 intro j h;have e:=l (λg p=>j g (z_ _ p)) (h.step n m o (j f A_));refine⟨e.nd,e.ok,λd' a c=>e.al d' a ?_⟩;rcases c with c | ⟨i,b⟩
 .exact .inl (.inl c)
 rcases y_.mp b with b | b
 .exact .inl (.inr ⟨i,b⟩)
 exact .inr ⟨i,b⟩
theorem CS.outer (g:k<W.row.length):∀{xs:Wy}{sub:Nat->Nat->Prop}{B:Wy},(∀e∈xs,yY W d8 e.2 e.1/\e.2.length=k)->CS W d8 k sub B ->
  CS W d8 k (λd f=>sub d f\/((∃v,(d,v)∈xs)/\f∈zw W d8 k d)) (xs.foldl (λB e=>(zw W d8 k e.1).foldl (Ge e.1 e.2) B) B)
 |[],_,_,_,h=>⟨h.nd,h.ok,λd f a=>h.al d f (a.resolve_right λz=>z.1.elim λ_ q=>nomatch q)⟩
 |e::r,sub,B,hx,h=>by
  obtain⟨l,m⟩:=hx e A_
  have q:=CS.outer g (xs:=r) (λx b=>hx x (z_ _ b)) (CS.inner (xs:=zw W d8 k e.1) l m g (λf i=>iu i) h)
  refine⟨q.nd,q.ok,λd f a=>q.al d f ?_⟩
  rcases a with a | ⟨⟨v,j⟩,c⟩
  ·
   exact .inl (.inl a)
  ·
   rcases y_.mp j with z | z
   ·
    rw[<- z] at *
    exact .inl (.inr ⟨rfl,c⟩)
   ·
    exact .inr ⟨⟨v,z⟩,c⟩
theorem qX (b:nW W) (h:d<vF W) (c:f∈zC W d8 k d):x∈pk W (d+f)↔x∈pk W d\/x∈pk W f:=by
 obtain⟨a,F⟩:=DH.mp c;have e:d+f=cj (nm W) (pk W d++pk W f):=by rw[<- iV _ _ _ λx g z=>F.apart g z.2 z.1,cV b h,cV b a]
 rw[e,iU b,q_];exact⟨λz=>z.2,λz=>⟨z.elim dq dq,z⟩⟩
theorem Gf (a:nW W) (h:MH W d8 k E) (I:k<W.row.length):MH W d8 (k+1) (NL W d8 k E):=by
 have q:=CS.outer (W:=W) (d8:=d8) I (xs:=E) (sub:=λ_ _=>False) (B:=[]) h.ok ⟨EC,λ_ z=>(nomatch z),λ_ _ z=>z.elim⟩;refine⟨q.nd,q.ok,λM d r G=>?_⟩;obtain⟨H,d',f,rfl,rfl,p,n,s⟩:=r.inv G;obtain⟨e,o,u⟩:=h.al H d' p n;have w:=(h.ok e o).1;have l:=(w.ok a).1;obtain⟨L,F⟩:=DH.mp s;have K:=F.more a u λt x D m=>w.grp a D m;have j:cj (nm W) ((pk W f).filter λx=>decide (x∉pk W e.1))∈zC W d8 k e.1:=DH.mpr ⟨jT _,K.congr (λx=>Iff.rfl) λx=>by rw[iU a];exact⟨λz=>⟨dq (p_.mp z).1,z⟩,λz=>z.2⟩⟩;obtain⟨g,A,v⟩:=yP j;have b:=iu A;obtain⟨x,m,J⟩:=q.al e.1 g (.inr ⟨⟨e.2,o⟩,A⟩);have i:=(DH.mp b).1;refine⟨x,m,λy C=>?_⟩;rw[J,qX a l b];rcases (qX a (p.ok a).1 s).mp C with z | z
 .exact .inl (u y z)
 by_cases c:y∈pk W e.1
 .exact .inl c
 refine .inr ?_;rw[<- cV a i,jU] at v;exact v y (dq z) (p_.mpr ⟨z,k_ c⟩)
theorem MV (b:nW W):∀{k:Nat},k<=W.row.length->MH W d8 k (FY W d8 k)
 |0,_=>⟨by simp [FY],λe f=>by rw[j_.mp f];exact⟨.nil,rfl⟩,λg d r c=>by
   refine⟨(0,[]),j_.mpr rfl,λx a=>?_⟩
   rw[r.nil0 (HM.mp c)] at a
   exact a⟩
 |k+1,h=>Gf b (MV b uS) uS
theorem yQ (a:nW W) (d:m<=W.row.length):(iB (vF W - 1) (FY W d8 m)).isSome=ai↔∃b,yY W d8 b (vF W - 1)/\b.length=m:=by
 have T:=MV (d8:=d8) a d;constructor
 .intro h;obtain⟨v,e⟩:=LG.mp h;have:=T.ok _ (jj e);exact⟨v,this.1,this.2⟩
 rintro⟨b,r,g⟩;obtain⟨e,c,h⟩:=T.al b _ r g;have f:e.1=vF W - 1:=by rw[<- cV a ((T.ok e c).1.ok a).1];exact ji λx i=>h x (kO a x i)
 have:=yO T.nd (show (e.1,e.2)∈FY W d8 m from c);rw[f] at this;rw[this];rfl
def Wj:xi:=λts H Q=>∃(a:af) (b:List Nat),ts=[.ref a]/\H a=ab (.lst (b.map aV))/\b.length<=256/\∀p,H p=ag->Q (.ref p) (eH H p (.lst ((zI bj b).reverse.map aV)))
theorem lW (a:b->b->Bool):∀xs:List b,(zI a xs).length<=xs.length
 |[]=>u_ _
 |n::B=>by
  have:=lW a B
  unfold zI
  split
  ·
   rw[n_];omega
  ·
   rw[b_,n_];simp only[n_,YM];omega
def Wl (C:af):xi:=λts H Q=>∃(a:af) (W:Wk) (d8:Int) (k d:Nat),ts=[.ref a,.int (k:Int),.int (d:Int)]/\nW W/\Cs C W d8 H a/\k<W.row.length/\d<vF W/\∀p,H p=ag->Q (.ref p) (eH H p (.lst ((zw W d8 k d).map aV)))
inductive CM where
 |left (n:Int) | less (o:Nat) | ways (os:List Nat)
def ze (W:Wk) (m:Nat):T:=sT (pk W m)
def IY (W:Wk):CM->T
 |.left n=>.tup [.str "left",.int n]
 |.less o=>.tup [.str "less",ze W o]
 |.ways os=>.tup [.str "ways",.tup (os.map (ze W))]
def F5 (W:Wk):CM->Prop
 |.left _=>True
 |.less o=>o<vF W
 |.ways os=>(∀o∈os,o<vF W)/\os.length<=256
abbrev AW:=Nat × Nat × CM
def yy (c:AW):Nat × Nat:=(c.1,c.2.1)
def AA (W:Wk) (c:AW):T:=.tup [.int (c.1:Int),ze W c.2.1,IY W c.2.2]
def Ix (W:Wk) (c:AW):Prop:=c.2.1<vF W/\F5 W c.2.2
def AY (W:Wk) (m:Nat):Int:=bT W.tasks (pk W (vF W - 1 - m))
def Ct (W:Wk) (d8:Int) (s m:Nat):List Nat:=(zw W d8 s m).map (m+·)
def DJ (W:Wk) (d8:Int) (many:Nat) (ks:List (Nat × Nat)) (s m:Nat):CM->Bool
 |.left n=>decide (n=AY W m)&&decide (d8*((many:Int) - s)<n)
 |.less o=>decide ((s,o)∈ks)&&(!decide (o=m)&&bj o m)
 |.ways os=>decide (s<many)&&(decide (os=Ct W d8 s m)&&os.all λo=>decide ((s+1,o)∈ks))
def GG (W:Wk) (m:Nat):Prop:=∀t∈pk W m,∀x,x∈bf W t\/x∈dz W t->x∈pk W m
def EN (W:Wk) (m:Nat):Bool:=@decide (GG W m) (ae _)
def B7 (a b:Nat × Nat):Bool:=if a.1=b.1 then decide (a.2<b.2) else decide (a.1<b.1)
def ES (ks:List (Nat × Nat)):Bool:=(ks.zip (ks.drop 1)).all λq=>B7 q.1 q.2
def EL (W:Wk) (d8:Int) (many:Nat) (ks:List (Nat × Nat)) (c:AW):Bool:=decide (c.1<=many)&&(EN W c.2.1&&DJ W d8 many ks c.1 c.2.1 c.2.2)
def DE (W:Wk) (d8:Int) (many:Nat) (a:List AW):Bool:=decide ((0,0)∈a.map yy)&&(ES (a.map yy)&&a.all (EL W d8 many (a.map yy)))
def RB (W:Wk) (d8:Int) (many:Nat):Prop:=∃a,yY W d8 a (vF W - 1)/\a.length=many
theorem qY (c:nW W) (e:a<vF W) (d:b<vF W) (h:pk W a=pk W b):a=b:=by
 rw[<- cV c e,<- cV c d,h]
theorem KS:EN W m=ai↔GG W m:=@h_ _ (ae _)
theorem J5 (W:Wk):GG W 0:=λt a=>by rw[qU] at a;cases a
theorem RC (l:nW W) (j:d<vF W) (h:GG W d) (c:f∈zC W d8 k d):GG W (d+f):=λt a x b=>by
 obtain⟨i,F⟩:=DH.mp c;rw[qX l j c] at a |-;rcases a with a | a
 .exact .inl (h t a x b)
 obtain⟨u,g,e⟩:=o_.mp (dq a);have o:=F.one u g (by rw[e];exact a);rw[e] at o;rcases b with b | b
 .exact .inr (o.2.2.1 x b)
 exact (o.2.2.2.1 x b).symm
theorem Gg (a:nW W) (c:m<vF W):x∈pk W (vF W - 1 - m)↔x∈nm W/\x∉pk W m:=by
 have e:vF W - 1 - m=cj (nm W) ((nm W).filter λx=>decide (x∉pk W m)):=by
  have:=gA (nm W) (pk W m) ((nm W).filter λx=>decide (x∉pk W m)) λx b=>by rw[p_,h_];exact⟨λz=>z.2,λz=>⟨b,z⟩⟩
  rw[cV a c,cX] at this;unfold vF;omega
 rw[e,iU a,p_,h_];exact⟨λz=>z.2,λz=>⟨z.1,z⟩⟩
theorem RD (f:nW W) (g:m<vF W) (h:m≠vF W - 1):0<AY W m:=by
 have:∃x∈nm W,x∉pk W m:=II λz=>h (by
  rw[<- cV f g]
  exact ji λx e=>II λq=>z ⟨x,e,q⟩)
 obtain⟨x,e,n⟩:=this;obtain⟨t,i,rfl⟩:=o_.mp e;unfold AY bT;have d:t.2.1∈(W.tasks.filter λt=>decide (t.1∈pk W (vF W - 1 - m))).map (·.2.1):=o_.mpr ⟨t,p_.mpr ⟨i,k_ ((Gg f g).mpr ⟨e,n⟩)⟩,rfl⟩;have c:∀z∈(W.tasks.filter λt=>decide (t.1∈pk W (vF W - 1 - m))).map (·.2.1),0<z:=λz b=>by obtain⟨u,k,rfl⟩:=o_.mp b;have:=(f.tk u (p_.mp k).1).lo;omega
 generalize (W.tasks.filter λt=>decide (t.1∈pk W (vF W - 1 - m))).map (·.2.1)=l at *;have j:∀l:List Int,(∀z∈l,0<z)->0<=l.sum:=λl=>by
  induction l with
  |nil=>exact λ_=>FK 0
  |cons a r o =>
  intro p;have:=o λz b=>p z (.tail _ b);have:=p a (.head _);rw[Zz];omega
 cases l with
 |nil=>cases d
 |cons a r =>
  have:=j r λz b=>c z (.tail _ b)
  have:=c a (.head _)
  rw[Zz]
  omega
theorem J6 (a:∀t∈ts,0<=t.2.1) (h:∀x∈S,x∈A\/x∈B):bT ts S<=bT ts A+bT ts B:=by
 unfold bT;induction ts with
 |nil=>exact FK _
 |cons t r e =>
  have i:=e λu f=>a u (z_ _ f)
  have g:=a t A_
  simp only[Zn]
  by_cases d:t.1∈S <;> by_cases c:t.1∈A <;> by_cases b:t.1∈B <;>
   simp only[d,c,b,ZV,Zd,if_true,v_,V_,J_,Zz] <;> first | omega | exact wT (h _ d) (by simp [c,b])
theorem J7 (p:nW W) (r:0<=d8) (F:Bi W d8 D):∀{n i:Nat},n+i=D.length->(∀x∈S,∃j,i<=j/\∃s,D[j]?=ab s/\x∈s)->bT W.tasks S<=d8*(n:Int):=by
 intro n;induction n generalizing S with
 |zero =>
  intro i h b;have:S=[]:=List.eq_nil_iff_forall_not_mem.mpr λx a=>by obtain⟨j,d,s,e,_⟩:=b x a;rw[U_ uS] at e;cases e
  rw[this];have m:bT W.tasks []=0:=by unfold bT;rw[JU.mpr λt _=>by simp];rfl
  rw[m];simp
 |succ n o =>
 intro i h b;have g:i<D.length:=uS
 have f:=F i D[i] (d_ g);have v:=J6 (ts:=W.tasks) (S:=S) (A:=D[i]) (B:=S.filter λx=>decide (x∉D[i])) (λt l=>by have:=(p.tk t l).lo;omega) λx a=>by
  by_cases c:x∈D[i]
  .exact .inl c
  exact .inr (p_.mpr ⟨a,k_ c⟩)
 have u:=o (S:=S.filter λx=>decide (x∉D[i])) (i:=i+1) uS λx a=>by
  rw[p_,h_] at a;obtain⟨j,d,s,e,k⟩:=b x a.1;refine⟨j,?_,s,e,k⟩;rcases g5 d with z | z
  .exact z
  subst z;rw[d_ g] at e;cases e;exact wT k a.2
 have q:=f.ld;have:d8*((n+1:Nat):Int)=d8*(n:Int)+d8:=by rw[Int.natCast_succ,Int.mul_add,lb]
 omega
theorem yR (d:nW W) (f:a<vF W) (e:b<vF W):bj a b=ai↔∀x∈pk W b,x∈pk W a:=by
 have:=jU (W:=W) (A:=pk W a) (B:=pk W b);rw[cV d f,cV d e] at this;exact this.trans ⟨λh x c=>h x (dq c) c,λh x _ c=>h x c⟩
theorem Wm (k:nW W) (hb:0<=d8) (hm:many<=W.row.length) (C:∀c∈L,Ix W c) (h:DE W d8 many L=ai):¬RB W d8 many:=by
 rintro⟨p,r,hl⟩;obtain⟨_,_,B,Q,hft⟩:=r.ok k;unfold DE at h;rw[H_,H_,YG,h_] at h;obtain⟨h0,_,w⟩:=h;have hDl:(p.map (pk W)).length=many:=by rw[g_,hl]
 have key:∀n i:Nat,n=vF W*(many+1)->∀(g d:Nat),g=(many - i)*vF W+(vF W - d)->i<=many->d<vF W->(i,d)∈L.map yy->(∀x∈((p.map (pk W)).take i).flatten,x∈pk W d)->False:=by
  intro n i _ g;induction g using Nat.strongRecOn generalizing i with
  |ind g P =>
  intro d N hi D hk l;obtain⟨c,O,ec⟩:=o_.mp hk;obtain⟨e,f,rs⟩:=c;obtain⟨rfl,rfl⟩:=Gc ec;have q:=w _ O;unfold EL at q;rw[H_,H_,KS] at q;obtain⟨_,u,a⟩:=q;simp only at u a;have N:g=(many - e)*vF W+(vF W - f):=N;have J:=(C _ O).2;cases rs with
  |left n =>
   unfold DJ at a;rw[H_,h_,h_] at a;have:=J7 k hb Q (S:=pk W (vF W - 1 - f)) (n:=many - e) (i:=e) uS λx b=>by rw[Gg k D] at b;have:=(B x).mp (kO k x b.1);obtain⟨s,hs,A⟩:=Y9.mp this;obtain⟨j,V⟩:=Zw hs;refine⟨j,pb λz=>b.2 (l x (Y9.mpr ⟨s,?_,A⟩)),s,V,A⟩;exact S_ (by rw[Iy,we z];exact V)
   have M:AY W f=bT W.tasks (pk W (vF W - 1 - f)):=rfl;have e2:((many - e:Nat):Int)=(many:Int) - e:=uS
   rw[e2,<- M] at this;omega
  |less o=>unfold DJ at a;rw[H_,H_,h_,ZW,YS] at a;obtain⟨T,X,E⟩:=a;have C:o<vF W:=J;have hle:f<=o:=yK E;refine P _ ?_ e o rfl hi C T λx b=>(yR k C D).mp E x (l x b);omega
  |ways os =>
  unfold DJ at a;rw[H_,H_,h_,h_,YG] at a;obtain⟨T,X,E⟩:=a;have y:e<(p.map (pk W)).length:=uS
  have F:=Q e _ (d_ y);have Z:=F.more k l λt x ht b=>u t ht x (.inl b);have hgl:e<p.length:=uS
  have R:(p.map (pk W))[e]=pk W p[e]:=by rw[ZG]
  rw[R] at Z;have K:cj (nm W) ((pk W p[e]).filter λx=>decide (x∉pk W f))∈zC W d8 e f:=DH.mpr ⟨jT _,Z.congr (λx=>Iff.rfl) λx=>by rw[iU k];exact⟨λz=>⟨dq (p_.mp z).1,z⟩,λz=>z.2⟩⟩;obtain⟨g,v,Y⟩:=yP K;have m:=iu v;have H:=(DH.mp m).1;have I:f+g∈os:=by rw[X];exact o_.mpr ⟨g,v,rfl⟩
  have U:=E _ I;rw[h_] at U;have G:=qW k D m;refine P _ ?_ (e+1) (f+g) rfl uS G U λx b=>?_
  .have M:many - e=(many - (e+1))+1:=uS
   rw[N,M,Nat.add_mul,Nat.one_mul];omega
  rw[qX k D m];rw[YF y,Ic,q_] at b;rcases b with b | b
  .exact .inl (l x b)
  rw[eP,R] at b;by_cases c:x∈pk W f
  .exact .inl c
  refine .inr ?_;rw[<- cV k H,jU] at Y;exact Y x (dq b) (p_.mpr ⟨b,k_ c⟩)
 exact key _ 0 rfl _ 0 rfl (Y5 _) (eF W) h0 λx b=>by simp at b
theorem J8 (k a:NK) (v:T) (l:List (NK × T)):(bL k (pJ a v l)).isSome=(decide (a=k)||(bL k l).isSome):=by
 have g:∀l:List (NK × T),(bL k (l++[(a,v)])).isSome=(decide (a=k)||(bL k l).isSome):=λl=>by
  induction l with
  |nil=>show (if a=k then ab v else ag).isSome=_;split <;> simp [*,bL]
  |cons x r d =>
  obtain⟨b,c⟩:=x;show (if b=k then ab c else bL k (r++[(a,v)])).isSome=(decide (a=k)||(if b=k then ab c else bL k r).isSome);split
  .simp
  exact d
 have f:∀l:List (NK × T),(bL k (l.map λx=>if x.1=a then (x.1,v) else x)).isSome=(bL k l).isSome:=λl=>by
  induction l with
  |nil=>rfl
  |cons x r d =>
  obtain⟨b,c⟩:=x;rw[J_];by_cases h:b=a
  .rw[we h];show (if b=k then ab v else bL k (r.map _)).isSome=(if b=k then ab c else bL k r).isSome;split
   .rfl
   exact d
  rw[wc h];show (if b=k then ab c else bL k (r.map _)).isSome=(if b=k then ab c else bL k r).isSome;split
  .rfl
  exact d
 unfold pJ;by_cases h:(bL a l).isSome=ai
 .rw[we h,f];by_cases e:a=k
  .rw[<- e,h,Bool.or_true]
  rw[m_ e,IA]
 rw[wc h];exact g l
theorem Gh (k:NK):∀(ps l:List (NK × T)),(bL k (EU l ps)).isSome=(decide (k∈ps.map (·.1))||(bL k l).isSome)
 |[],l=>by simp [EU]
 |p::r,l=>by
  show (bL k (EU (pJ p.1 p.2 l) r)).isSome=_
  rw[Gh k r,J8,J_,<- Bool.or_assoc]
  congr 1
  rw[Yx]
  simp only[fI,h_,y_]
  exact⟨λh=>h.elim .inr λh=>.inl h.symm,λh=>h.elim (λh=>.inr h.symm) .inl⟩
def F0 (W:Wk) (ks:List (Nat × Nat)) (kvs:List (NK × T)):Prop:=∀s o:Nat,o<vF W->(bL ((s:Int),pk W o) kvs).isSome=decide ((s,o)∈ks)
theorem F0.of (i:nW W) {f:List AW} (h:∀c∈f,Ix W c):F0 W (f.map yy) (EU [] (f.map λc=>(((c.1:Int),pk W c.2.1),T.bl ai))):=λs o g=>by
 rw[Gh];show (decide _||false)=_;rw[mr];refine Zm.mpr ⟨λz=>?_,λz=>?_⟩
 .rw[W_] at z;obtain⟨c,a,e⟩:=o_.mp z;obtain⟨d,b⟩:=Gc e;exact o_.mpr ⟨c,a,gX (Int.ofNat_inj.mp d) (qY i (h c a).1 g b)⟩
 obtain⟨c,a,e⟩:=o_.mp z;obtain⟨d,b⟩:=Gc e;rw[W_];exact o_.mpr ⟨c,a,by rw[<- d,<- b];rfl⟩
theorem wL (d:nW W) (c:m<vF W):∀o∈Ct W d8 s m,o<vF W:=λo b=>by
 obtain⟨g,a,rfl⟩:=o_.mp b;exact qW d c (iu a)
theorem qZ (a:nW W):(zw W d8 s m).length<=256:=by
 have c:=lW bj (zC W d8 s m);have b:(zC W d8 s m).length<=256:=R_ (YD _ _) (by rw[D_];exact ir a);unfold zw;rw[Zo];omega
theorem J9 (j:nW W) {xs c:List Nat} (f:∀o∈xs,o<vF W) (e:∀o∈c,o<vF W):(xs.map (ze W)=c.map (ze W))↔xs=c:=by
 refine⟨λh=>?_,λh=>by rw[h]⟩;induction xs generalizing c with
 |nil=>exact (GU.mp h.symm).symm
 |cons a r g =>
 cases c with
 |nil=>cases h
 |cons b q =>
 rw[J_,J_] at h;obtain⟨k,i⟩:=List.cons.inj h;rw[qY j (f a (.head _)) (e b (.head _)) (nr (λ_ _ z=>gG z) |>.mp (T.tup.inj k)),g (λo d=>f o (.tail _ d)) (λo d=>e o (.tail _ d)) i]
def Wn (C:af):xi:=λts H Q=>∃(a:af) (W:Wk) (d8:Int) (m:Nat),ts=[.ref a,ze W m]/\nW W/\Cs C W d8 H a/\m<vF W/\Q (.int (AY W m)) H
def Wo (C:af):xi:=λts H Q=>∃(a:af) (W:Wk) (d8:Int) (s m:Nat),ts=[.ref a,.int (s:Int),ze W m]/\nW W/\Cs C W d8 H a/\m<vF W/\s<W.row.length/\Q (.tup ((Ct W d8 s m).map (ze W))) H
def M6 (C:af):xi:=λts H Q=>∃(a:af) (W:Wk) (d8:Int) (m:Nat),ts=[.ref a,ze W m]/\nW W/\Cs C W d8 H a/\m<vF W/\Q (.bl (EN W m)) H
def Wq (C:af):xi:=λts H Q=>∃(a:af) (W:Wk) (d8 left n:Int) (m:Nat),ts=[.ref a,.int left,ze W m,.int n]/\nW W/\Cs C W d8 H a/\m<vF W/\0<=left/\left<=8/\Q (.bl (decide (n=AY W m)&&decide (d8*left<n))) H
def Wr (w:bb):xi:=λts H Q=>∃(c:af) (kvs:List (NK × T)) (W:Wk) (ks:List (Nat × Nat)) (s m o:Nat),ts=[.ref c,.int (s:Int),ze W m,ze W o]/\nW W/\H c=ab (.dcn w kvs)/\F0 W ks kvs/\m<vF W/\o<vF W/\Q (.bl (decide ((s,o)∈ks)&&(!decide (o=m)&&bj o m))) H
def Ws (w:bb) (C:af):xi:=λts H Q=>∃(a c:af) (W:Wk) (d8:Int) (kvs:List (NK × T)) (ks:List (Nat × Nat)) (s m:Nat) (os:List Nat),ts=[.ref a,.ref c,.int (s:Int),ze W m,.tup (os.map (ze W))]/\nW W/\Cs C W d8 H a/\H c=ab (.dcn w kvs)/\F0 W ks kvs/\m<vF W/\s<W.row.length/\F5 W (.ways os)/\Q (.bl (decide (os=Ct W d8 s m)&&os.all λo=>decide ((s+1,o)∈ks))) H
def Wu (w:bb) (C:af):xi:=λts H Q=>∃(a c:af) (W:Wk) (d8:Int) (many:Nat) (kvs:List (NK × T)) (ks:List (Nat × Nat)) (s m:Nat) (r:CM),ts=[.ref a,.int (many:Int),.ref c,.int (s:Int),ze W m,IY W r]/\nW W/\Cs C W d8 H a/\many<=W.row.length/\s<=many/\H c=ab (.dcn w kvs)/\F0 W ks kvs/\m<vF W/\F5 W r/\Q (.bl (DJ W d8 many ks s m r)) H
def yv (c:AW):T:=.tup [.int (c.1:Int),.int (c.2.1:Int)]
def M7:xi:=λts H Q=>∃(W:Wk) (a:List AW),ts=[W.enc,.tup (a.map (AA W))]/\nW W/\(∀c∈a,Ix W c)/\a.length<=4096/\Q (.bl (ES (a.map yy))) H
def Wv:xi:=λts H Q=>∃(W:Wk) (d8:Int) (many:Nat) (a:List AW),ts=[W.enc,.int d8,.int (many:Int),.tup (a.map (AA W))]/\nW W/\many<=W.row.length/\(∀c∈a,Ix W c)/\a.length<=4096/\Q (.bl (DE W d8 many a)) H
theorem Ka (d:List AW):gh (d.map yv) (dY (d.map yv) (ab 1) ag)=(d.zip (d.drop 1)).map (λq=>.tup [yv q.1,yv q.2]):=by
 have:dY (d.map yv) (ab 1) ag=(d.drop 1).map yv:=by
  unfold dY;rw[i4];cases d with
  |nil=>rfl
  |cons c r =>
   have h:HT.sIx ((c::r).map yv).length 0 (ab 1)=1:=by unfold HT.sIx;simp
   have g:HT.sIx ((c::r).map yv).length ((c::r).map yv).length ag=((c::r).map yv).length:=rfl
   rw[h,g,GH (by rw[G1];omega)]
 rw[this];have e:∀a b:List AW,gh (a.map yv) (b.map yv)=(a.zip b).map (λq=>.tup [yv q.1,yv q.2]):=λa b=>by
  induction a generalizing b with
  |nil=>cases b <;> rfl
  |cons x r f =>
  cases b with
  |nil=>rfl
  |cons y q=>simp only[J_,g6];unfold gh;rw[f]
 exact e _ _
theorem RG (a:List AW):ES (a.map yy)=(a.zip (a.drop 1)).all λq=>B7 (yy q.1) (yy q.2):=by
 unfold ES;rw[<- i4,List.zip_map,ke];rfl
theorem Kc:xB X (bt .Add) (λx y H Q=>∃l b xs d,x=.ref l/\y=.ref b/\y8 X.K H l xs/\H b=ab (.lst d)/\xs.length+d.length<=av/\∀p,H p=ag->Q (.ref p) (wS H p (.lst (xs++d)))):=by
 intro k s Z H x y v u Q I D z h;obtain⟨l,b,xs,d,rfl,rfl,C,G,L,q⟩:=h;cases D;cases z;obtain⟨c,r,⟨⟨t,O,m,E⟩,n,e,f,i,j⟩,M⟩:=I.list C;obtain⟨N,a,J,o,A,g⟩:=I.lstM G;simp only at f i j;subst f i j;have w:=r.length;refine jI ⟨_,e,rfl⟩ ⟨_,g,rfl⟩ noFill_list_add seq_list_add PySem.F.slot_list_add PySem.F.entry_list_add (PySem.F.args_list_add_2 _ _) (list_addW l b c.toArray a.toArray n J ag ag E #[] (by rw[x_,x_];omega)) ⟨e,g,?_⟩;have B:c.toArray++a.toArray=(c++a).toArray:=wn
 rw[B];exact⟨.ref _,_,I.lnew (t':=s.toks) (r.append o) (by rw[b_];omega),rfl,q _ I.fresh⟩
def RJ (o u:Option O3) (H:gV) (Q:wv):Prop:=match o,u with
 |some (.rol xs),ab (.lst ys)=>xs.length+ys.length<=av/\∀p,H p=ag->Q (.ref p) (eH H p (.lst (xs++ys)))
 |_,_=>False
def Gi:R3:=λx y H Q=>match x,y with
 |.ref a,.ref b=>RJ (H a) (H b) H Q
 |_,_=>False
theorem RK (a b:af):Gi (.ref a) (.ref b) H Q=RJ (H a) (H b) H Q:=rfl
theorem Gj (xs a:List T):RJ (ab (.rol xs)) (ab (.lst a)) H Q=(xs.length+a.length<=av/\∀p,H p=ag->Q (.ref p) (eH H p (.lst (xs++a)))):=rfl
theorem yS:d7 X (bt .Add) Gi:=by
 refine xB.imp Kc ?_;rintro x y H Q ⟨i,q,H3,Q3,o,r,c,h,k⟩;cases i with
 |ref a =>
  cases q with
  |ref b =>
   have h':(match H3 a,H3 b with
    |some (.rol xs),ab (.lst e)=>xs.length+e.length<=av/\∀p,H3 p=ag->Q3 (.ref p) (eH H3 p (.lst (xs++e)))
    |_,_=>False):=h
   split at h'
   ·
    rename_i xs e n m
    obtain⟨vs,l,g⟩:=c.sqL (.inr n)
    obtain⟨ws,j,f⟩:=c b _ m
    refine⟨a,b,vs,ws,o.ref,r.ref,l,j,by rw[<- g.length,<- f.length];exact h'.1,λp d=>?_⟩
    exact k _ _ _ _ (aQ d) (c.newLst d (g.append f)) .ofRef (h'.2 p (c.fresh d))
   ·
    exact h'.elim
  |_=>exact h.elim
 |_=>exact h.elim
def KO (o:Option O3) (a:af) (H:gV) (Q:wv):Prop:=match o with
 |some (.lst xs)=>Q .non (eH H a (.lst xs.reverse))
 |_=>False
def M8:T->List T->gV->wv->Prop:=λx ts H Q=>match x,ts with
 |.ref a,[]=>KO (H a) a H Q
 |_,_=>False
theorem Ww (a:af):M8 (.ref a) [] H Q=KO (H a) a H Q:=rfl
theorem Wx (xs:List T) (a:af):KO (ab (.lst xs)) a H Q=Q .non (eH H a (.lst xs.reverse)):=rfl
theorem Gk:vK X "list.reverse" M8:=by
 refine DM.imp vH ?_;rintro x xs H Q ⟨i,ts,H3,Q3,d,b,f,h,k⟩
 match i,ts,h,d,b with
 |.ref a,[],h,d,b =>
  have h':KO (H3 a) a H3 Q3:=h
  cases e:H3 a with
  |none=>rw[e] at h';exact h'.elim
  |some o =>
   rw[e] at h'
   cases o with
   |lst j =>
    obtain⟨g,c,r⟩:=f a _ e
    exact⟨a,g,d.ref,b.inv0,c,k _ _ _ _ (cJ (by rw[c];exact trivial)) (f.wrL c r.reverse) .ofNon h'⟩
   |_=>exact h'.elim
theorem RL (ts:List T) (i:Int):Ki (ab (.rol ts)) i H Q=oq (xh ts i) λt=>Q t H:=rfl
theorem RM (xs:List T):MR (ab (.rol xs)) H Q=Q (.int xs.length) H:=rfl
def Kd:xi:=λts H Q=>∃(a:af) (ns:List Int) (k:Nat),ts=[.ref a,.int (k:Int)]/\H a=ab (.rol (ns.map t3))/\ns.length<=63/\k<64/\∀c:Int,Q (.int c) H
def RN:xi:=λts H Q=>∃c:Int,ts=[.int c]/\∀x,xC x->Q (.str x) H
theorem q8 {ns:List Int} (h:i<ns.length):∃c:Int,xh (ns.map t3) (i:Int)=ab (t3 c):=⟨ns[i],by rw[bQ (by rw[C_,d_ h];rfl)]⟩
theorem jX {xs:List ap}:du am (t4 x) (xs.map t4)=decide (x∈xs):=by
 unfold du;rw[wc K_,Zm,o_];exact⟨λ⟨y,h,e⟩=>by cases e;exact h,λh=>⟨x,h,rfl⟩⟩
def RP:xi:=λts H Q=>∃(a:af) (ws:List ap),ts=[.ref a]/\H a=ab (.lst (ws.map t4))/\ws.length<=8/\(∀x∈ws,xC x)/\∀us:List ap,us.length=ws.length->AT us->∀p,H p=ag->Q (.ref p) (eH H p (.lst (us.map t4)))
def BN (b:List Nat) (s i:Nat):ap:=yi (b++[97+(s+i)%26])
theorem RQ (h:b.length<=7) (d:∀c∈b,97<=c/\c<=122):xC (BN b s i):=by
 refine MT (by rw[b_];simp) (by rw[b_];simp;exact h) λc a=>?_;rcases q_.mp a with a | a
 .exact d c a
 rw[j_.mp a];have:=si (s+i) (show 0<26 by decide);omega
theorem Ke (a:i<26) (c:j<26) (h:BN b s i=BN b s j):i=j:=by
 have e:=JW h;rw[List.append_cancel_left_eq,List.cons.injEq] at e;omega
theorem Kf (h:xC x):∃(b:List Nat) (s:Nat),x=BN b s 0/\b.length<=7/\s<26/\∀c∈b,97<=c/\c<=122:=by
 obtain⟨l,rfl⟩:=Rk x;have d:=h.lo;have f:=h.hi;have e:=h.az;rw[dO] at d f;rw[jh] at e;have a:l≠[]:=by intro z;rw[z] at d;exact wT d vS
 have i:=e _ (pE a);have j:l.dropLast.length+1=l.length:=by rw[fg];omega
 refine⟨l.dropLast,l.getLast a - 97,?_,uS,uS,λc g=>e c ((List.dropLast_subset l) g)⟩;unfold BN;rw[Nat.add_zero,Nat.mod_eq_of_lt uS,show 97+(l.getLast a - 97)=l.getLast a by omega,Zj]
theorem RV (b:List Nat) (c:Nat):gu (yi (b++[c])) ag (ab (-1))=yi b:=by
 have e:=StrLaws.sliceText_neg_hi (yi (b++[c])) ag (j:=-1) vS (by rw[dO,b_];simp;omega);have l : -1+((yi (b++[c])).length:Int)=(b.length:Int):=by rw[dO,b_];simp;omega
 rw[l] at e;have t:=Wb (b++[c]) b.length (by rw[b_];omega);rw[fy rfl] at t;exact e.trans t
theorem Kg (b:List Nat) (s i:Nat):(BN b s i).length=b.length+1:=by unfold BN;rw[dO,b_];rfl
theorem Kh (b:List Nat) (s i:Nat):(BN b s i).cps.toList=b++[97+(s+i)%26]:=rfl
def Wz:xi:=λts H Q=>∃c:Int,ts=[.int c]/\∀us:List ap,us.length=8->AT us->∀p,H p=ag->Q (.ref p) (eH H p (.lst (us.map t4)))
def WD:xi:=λts H Q=>∃(c:Int) (i h:af) (a d:List ap) (b:Int),ts=[.int c,.ref i,.ref h,.int b]/\H i=ab (.lst (a.map t4))/\1<=a.length/\a.length<=8/\(∀x∈a,xC x)/\H h=ab (.lst (d.map t4))/\d.length=8/\(∀x∈d,xC x)/\1<=b/\b<=10^57 /\
 ∀(s:Nat) (g e:Int) (ks:List ap) (f:ap),s<a.length->0<=g->g<8->1<=e->e<10^60->AT ks->ks.length<=4->(ks=[]\/a.getD s ""∈ks)->xC f->Q (.tup [.int (s:Int),.int g,.int e,sT ks,.str f]) H
theorem lX {ns:List ap} (h:i<ns.length):xh (ns.map t4) (i:Int)=ab (t4 (ns.getD i "")):=by
 rw[bQ (by rw[C_,d_ h];rfl),i_,d_ h];rfl
theorem zi {ns:List ap} (h:i<ns.length):ns.getD i ""∈ns:=by
 rw[i_,d_ h];exact YZ h
def dV (g:ap->T) (ns:List ap):List (ap × T):=ns.map λn=>(n,g n)
theorem yU:∀{ns:List ap},n∈ns->aR n (dV g ns)=ab (g n)
 |x::r,h=>by
  unfold dV
  rw[J_]
  unfold aR
  by_cases e:x=n
  ·
   rw[we e,e]
  ·
   rw[wc e]
   exact yU (ns:=r) ((y_.mp h).resolve_left (a7 e))
theorem RW (h:n∉ns) (e:∀m∈ns,g m=g' m):xL n (g' n) (dV g ns)=dV g' (ns++[n]):=by
 unfold xL dV;rw[wc (by
  intro e
  rw[Z5] at e
  obtain⟨x,b,e⟩:=e
  obtain⟨y,a,rfl⟩:=o_.mp b
  exact h (Zq e▸a)),B_]
 congr 1;exact ZM λm c=>by rw[e m c]
def dG (g:ap->af) (ns:List ap):List (ap × T):=dV (λn=>t9 (g n)) ns
theorem gJ (h:n∈ns):aR n (dG g ns)=ab (t9 (g n)):=yU h
def AZ {b:Type}(n:ap) (a:b) (g:ap->b):ap->b:=λm=>if m=n then a else g m
theorem fH {a:b}{g:ap->b} (h:m≠n):AZ n a g m=g m:=wc h
theorem eY {a:b}{g:ap->b}:AZ n a g n=a:=we rfl
theorem RX (h:n∉ns):xL n (t9 p) (dG g ns)=dG (AZ n p g) (ns++[n]):=by
 have:=RW (g:=λn=>t9 (g n)) (g':=λm=>t9 (AZ n p g m)) h λm a=>by rw[show AZ n p g m=g m from fH λz=>h (z▸a)]
 rw[eY] at this;exact this
structure BH (H0 H:gV) (pd:af) (A:List ap) (ad:ap->af) (L:ap->List ap):Prop where
 sb:eG H0 H
 dc:H pd=ab (.dct (dG ad A))
 at_:∀n∈A,H (ad n)=ab (.lst ((L n).map t4))
 ij:∀a∈A,∀b∈A,ad a=ad b->a=b
 nw:∀n∈A,H0 (ad n)=ag
 nd:H0 pd=ag
theorem iW (s:eG a H) (h:a p=ag):eG a (eH H p o):=λb u e=>by rw[aH (bF e h)];exact s b u e
section
variable {ad:ap->af}{K:List ap}
theorem BH.more (g:BH H0 H pd A ad L) (s:eG H H'):BH H0 H' pd A ad L:=⟨g.sb.trans s,s _ _ g.dc,λn a=>s _ _ (g.at_ n a),g.ij,g.nw,g.nd⟩
theorem BH.put (g:BH H0 H pd A ad L) (l:n∉A) (j:H p=ab (.lst (K.map t4))) (q:∀m∈A,ad m≠p) (r:H0 p=ag):BH H0 (eH H pd (.dct (xL n (t9 p) (dG ad A)))) pd (A++[n]) (AZ n p ad) (AZ n K L):=by
 have k:∀{b o},H b=ab (.lst o)->b≠pd:=λh=>NC h g.dc wn;have i:∀m∈A,m≠n:=λm c z=>l (z▸c);refine⟨iW g.sb g.nd,by rw[aq,RX l],λm c=>?_,λa f b d e=>?_,λm c=>?_,g.nd⟩
 .rcases q_.mp c with c | c
  .rw[fH (i m c),fH (i m c),aH (k (g.at_ m c))];exact g.at_ m c
  rw[j_.mp c,eY,eY,aH (k j)];exact j
 .rcases q_.mp f with f | f <;> rcases q_.mp d with d | d
  .rw[fH (i a f),fH (i b d)] at e;exact g.ij a f b d e
  .rw[j_.mp d,fH (i a f),eY] at e;exact wT e (q a f)
  .rw[j_.mp f,fH (i b d),eY] at e;exact wT e.symm (q b d)
  rw[j_.mp f,j_.mp d]
 rcases q_.mp c with c | c
 .rw[fH (i m c)];exact g.nw m c
 rw[j_.mp c,eY];exact r
theorem BH.app (g:BH H0 H pd A ad L) (a:n∈A) (x:ap):BH H0 (eH H (ad n) (.lst ((L n).map t4++[t4 x]))) pd A ad (AZ n (L n++[x]) L):=by
 refine⟨iW g.sb (g.nw n a),by rw[aH (a7 (NC (g.at_ n a) g.dc wn))];exact g.dc,λm b=>?_,g.ij,g.nw,g.nd⟩;by_cases e:m=n
 .rw[e,eY,aq,B_];rfl
 rw[fH e,aH λz=>e (g.ij m b n a z)];exact g.at_ m b
end
def D6 (W:Wk) (a b:ap):Prop:=∃y,zl ["with"] W a y/\RT (zl ["with"] W) y b
theorem wM (h:a≠b):D6 W a b↔RT (zl ["with"] W) a b:=by
 constructor
 .rintro⟨y,f,d⟩;exact (RT.step .refl f).trans d
 intro z;induction z with
 |refl=>exact wT rfl h
 |@step b c f d i =>
 by_cases e:a=b
 .subst e;exact⟨c,d,.refl⟩
 obtain⟨y,g,j⟩:=i e;exact⟨y,g,j.step d⟩
theorem Kl {K:ap->List ap} (a:∀n∈nm W,∀x,x∈K n↔D6 W n x) (b:t∈nm W):(nm W).filter (λx=>decide (x=t)||(decide (x∈K t)&&decide (t∈K x)))=bf W t:=by
 refine Zr λx c=>?_;rw[Yx,fI,H_,h_,h_,h_,@h_ _ (ae _),a t b,a x c];by_cases e:x=t
 .subst e;exact⟨λ_=>⟨.refl,.refl⟩,λ_=>.inl rfl⟩
 rw[wM e,wM (a7 e)];exact⟨λh=>h.resolve_left e,.inr⟩
theorem yV (c:nW W) (h:zl ["with"] W a b):a∈nm W/\b∈nm W:=by
 rcases uC h with h | ⟨p,d,_,e | e⟩
 .exact (c.oo _ h).2
 .have:=(c.pp p d).2.2;rw[e] at this;exact this
 have:=(c.pp p d).2.2;rw[e] at this;exact⟨this.2,this.1⟩
structure Da (W:Wk) (t:ap) (ws ks:List ap):Prop where
 fr:∀x,x∈ws\/x∈ks->D6 W t x
 st:∀x,zl ["with"] W t x->x∈ws\/x∈ks
 cl:∀a b,a∈ks->zl ["with"] W a b->b∈ws\/b∈ks
 nd:ks.Nodup
theorem Da.fin (g:Da W t [] ks) (x:ap):x∈ks↔D6 W t x:=by
 refine⟨λh=>g.fr x (.inr h),λ⟨y,e,d⟩=>?_⟩;have key:∀z,z∈([]:List ap)\/z∈ks->z∈ks:=λz h=>h.resolve_left wn;have a:∀{u v},RT (zl ["with"] W) u v->u∈ks->v∈ks:=λr c=>by
  induction r with
  |refl=>exact c
  |step _ h b=>exact key _ (g.cl _ _ b h)
 exact a d (key y (g.st y e))
theorem Da.old (g:Da W t (ws++[x]) ks) (c:x∈ks):Da W t ws ks:=by
 have key:∀z,z∈ws++[x]\/z∈ks->z∈ws\/z∈ks:=λz h=>by
  rcases h with h | h
  .rcases q_.mp h with h | h
   .exact .inl h
   rw[j_.mp h];exact .inr c
  exact .inr h
 exact⟨λz h=>g.fr z (h.imp_left λq=>YC _ q),λz h=>key z (g.st z h),λa b h r=>key b (g.cl a b h r),g.nd⟩
theorem Da.new (g:Da W t (ws++[x]) ks) (e:x∉ks) (c:∀y,y∈L↔zl ["with"] W x y):Da W t (ws++L) (ks++[x]):=by
 have d:=g.fr x (.inl wn);have key:∀z,z∈ws++[x]\/z∈ks->z∈ws++L\/z∈ks++[x]:=λz h=>by
  rcases h with h | h
  .rcases q_.mp h with h | h
   .exact .inl (YC _ h)
   exact .inr (X_ _ h)
  exact .inr (YC _ h)
 refine⟨λz h=>?_,λz h=>key z (g.st z h),λa b h r=>?_,gD g.nd e⟩
 .rcases h with h | h <;> rcases q_.mp h with h | h
  .exact g.fr z (.inl (YC _ h))
  .obtain⟨y,i,f⟩:=d;exact⟨y,i,f.step ((c z).mp h)⟩
  .exact g.fr z (.inr h)
  rw[j_.mp h];exact d
 rcases q_.mp h with h | h
 .exact key b (g.cl a b h r)
 rw[j_.mp h] at r;exact .inl (X_ _ ((c b).mpr r))
theorem WF:q∈AF ["with"] ("with",a,b)↔q=(a,b)\/q=(b,a):=by
 unfold AF;rw[we wn,y_,j_]
def RZ:xi:=λts H Q=>∃(W:Wk),ts=[W.enc]/\nW W/\∀(a:gV) (c:af) (b:ap->af) (K:ap->List ap),eG H a->a c=ab (.dct (dG b (nm W)))->(∀n∈nm W,a (b n)=ab (.lst ((K n).map t4)))->(∀n∈nm W,∀x,x∈K n↔D6 W n x)->Q (.ref c) a
def WK:xi:=λts H Q=>∃(W:Wk),ts=[W.enc]/\nW W/\∀(a:gV) (p:af),eG H a->a p=ab (.lst ((uA W).map sT))->Q (.ref p) a
theorem yW:∀{ns:List ap}{i:Nat}{x:ap},ns.Nodup->ns[i]?=ab x->vE ns [x]=2^i
 |[],_,_,_,e=>by simp at e
 |y::r,0,x,nd,e=>by
  rw[Y8,GA] at e
  subst e
  rw[Y4] at nd
  have:vE r [y]=0:=by
   rw[bM,(pL r [y]).mpr λz b q=>nd.1 (j_.mp q▸b)];rfl
  simp [vE,this]
 |y::r,i+1,x,nd,e=>by
  rw[Ze] at e
  rw[Y4] at nd
  have a:y≠x:=λz=>nd.1 (by rw[z];exact S_ e)
  have c:=yW nd.2 e
  simp only[vE,c,j_,a,V_,E2]
  omega
def kW (t:ap) (p:ap × ap × ap):List ap:=if p.1="apart"/\(t=p.2.1\/t=p.2.2) then [if p.2.1=t then p.2.2 else p.2.1] else []
def uH (W:Wk) (t:ap):List ap:=W.pairs.flatMap (kW t)
def CO (W:Wk) (t:ap × Int × List ap):T:=.tup [.int (vE (nm W) [t.1]),.int (vE (nm W) (bf W t.1)),.int (vE (nm W) (dz W t.1)),.int (vE (nm W) (uH W t.1)),.int t.2.1,sT t.2.2]
theorem yX (ns A B:List ap):a3 (vE ns A) (vE ns B)=a3 (vE ns B) (vE ns A):=by rw[bM,bM,jg,jg,Nat.and_comm]
theorem yZ (ns A B:List ap):(0<a3 (vE ns A) (vE ns B))↔∃x∈ns,x∈A/\x∈B:=by
 have c:0<=a3 (vE ns A) (vE ns B):=by rw[bM,bM,jg];exact F2 _
 have b:=il ns A B;constructor
 .intro h;refine II λz=>?_;have:=b.mpr λx a q=>z ⟨x,a,q⟩;omega
 rintro⟨x,a,q⟩;have:a3 (vE ns A) (vE ns B)≠0:=λz=>b.mp z x a q;omega
theorem Gm (f:nW W) (c:i<vF W) (b:t∈W.tasks):(0<a3 (i:Int) (vE (nm W) [t.1]))↔t.1∈pk W i:=by
 have e:(i:Int)=vE (nm W) (pk W i):=(jW f c).symm;rw[e,yZ];exact⟨λ⟨x,_,a,d⟩=>by rw[j_.mp d] at a;exact a,λh=>⟨t.1,o_.mpr ⟨t,b,rfl⟩,h,j_.mpr rfl⟩⟩
theorem Sd (d:nW W) (c:i<vF W) (b:∀x∈A,x∈nm W):(a3 (vE (nm W) A) (i:Int)=vE (nm W) A)↔∀x∈A,x∈pk W i:=by
 have e:(i:Int)=vE (nm W) (pk W i):=(jW d c).symm;rw[e,yX,dm];exact⟨λh x a=>h x (b x a) a,λh x _ a=>h x a⟩
theorem Km (b:nW W) (g:i<vF W) (j:d<vF W) (c:∀x∈A,x∈nm W):(a3 (vE (nm W) A) (cr (d:Int) (i:Int))=vE (nm W) A)↔∀x∈A,x∈pk W i\/x∈pk W d:=by
 have e:(i:Int)=vE (nm W) (pk W i):=(jW b g).symm;have f:(d:Int)=vE (nm W) (pk W d):=(jW b j).symm;rw[e,f,m5,yX,dm];exact⟨λh x a=>(q_.mp (h x (c x a) a)).symm,λh x _ a=>q_.mpr (h x a).symm⟩
theorem Sg (c:nW W) (b:i<vF W):(0<a3 (vE (nm W) A) (i:Int))↔∃x∈A,x∈pk W i:=by
 have e:(i:Int)=vE (nm W) (pk W i):=(jW c b).symm;rw[e,yZ];exact⟨λ⟨x,_,h⟩=>⟨x,h⟩,λ⟨x,d,a⟩=>⟨x,dq a,d,a⟩⟩
theorem Sh (b:nW W) (f:i<vF W) (g:d<vF W):(a3 (i:Int) (d:Int)=0)↔∀x∈pk W i,x∉pk W d:=by
 have e:(i:Int)=vE (nm W) (pk W i):=(jW b f).symm;have c:(d:Int)=vE (nm W) (pk W d):=(jW b g).symm;rw[e,c,il];exact⟨λh x a z=>h x (dq a) ⟨a,z⟩,λh x _ z=>h x z.1 z.2⟩
def HL (W:Wk) (kind:ap) (d i:Nat) (t:ap × Int × List ap):Prop:=t.1∈pk W i->iR t.2.2 kind=ai/\(∀x∈bf W t.1,x∈pk W i)/\(∀x∈dz W t.1,x∈pk W i\/x∈pk W d)/\∀x∈uH W t.1,x∉pk W i
def Gn (W:Wk) (d8:Int) (kind:ap) (d i:Nat):Bool:=@decide (∀t∈W.tasks,HL W kind d i t) (ae _)&&decide (bT W.tasks (pk W i)<=d8)
theorem NG:x∈uH W t↔∃p∈W.pairs,p.1="apart"/\((p.2.1=t/\x=p.2.2)\/(p.2.1≠t/\p.2.2=t/\x=p.2.1)):=by
 unfold uH;rw[Zf];refine exists_congr λp=>and_congr_right λ_=>?_;unfold kW;split
 .rename_i h;rw[j_];constructor
  .intro e;refine⟨h.1,?_⟩;split at e
   .rename_i a;exact .inl ⟨a,e⟩
   rename_i a;exact .inr ⟨a,(h.2.resolve_left λz=>a z.symm).symm,e⟩
  rintro⟨_,⟨a,rfl⟩ | ⟨a,_,rfl⟩⟩
  .rw[we a]
  rw[wc a]
 rename_i h;constructor
 .intro e;cases e
 rintro⟨b,⟨a,_⟩ | ⟨_,a,_⟩⟩
 .exact wT ⟨b,.inl a.symm⟩ h
 exact wT ⟨b,.inr a.symm⟩ h
theorem ME:x∈jm W t↔∃p∈W.pairs,p.1="apart"/\p.2.1=t/\p.2.2=x:=by
 unfold jm;rw[o_];constructor
 .rintro⟨p,a,rfl⟩;rw[p_,H_,h_,h_] at a;exact⟨p,a.1,a.2.1,a.2.2,rfl⟩
 rintro⟨p,a,d,b,c⟩;exact⟨p,p_.mpr ⟨a,by rw[k_ d,k_ b];rfl⟩,c⟩
theorem Ko (w:nW W) (l:∀x∈pk W i,x∉pk W d):Gn W d8 kind d i=oM W d8 kind (pk W d) (pk W i):=by
 have key:(Gn W d8 kind d i=ai)↔(oM W d8 kind (pk W d) (pk W i)=ai):=by
  rw[LS];unfold Gn;rw[H_,@h_ _ (ae _),h_];constructor
  .rintro⟨r,v⟩;refine⟨λt k g=>?_,v⟩;obtain⟨a,b,c,e⟩:=r t k g;refine⟨l _ g,a,b,c,λx m z=>?_⟩;obtain⟨p,h,p1,j,f⟩:=ME.mp m;exact e x (NG.mpr ⟨p,h,p1,.inl ⟨j,f.symm⟩⟩) z
  intro F;refine⟨λt k g=>?_,F.ld⟩;obtain⟨_,a,b,c,e⟩:=F.one t k g;refine⟨a,b,c,λx m z=>?_⟩;obtain⟨p,h,p1,⟨j,f⟩ | ⟨j,f,s⟩⟩:=NG.mp m
  .exact e x (ME.mpr ⟨p,h,p1,j,f.symm⟩) z
  obtain⟨u,q,n⟩:=o_.mp (dq z);have o:=F.one u q (by rw[n];exact z);refine o.2.2.2.2 t.1 (ME.mpr ⟨p,h,p1,by rw[n,s],f⟩) g
 exact Yx.mpr key
def BA (W:Wk) (d8:Int) (k d j:Nat):List Nat:=zI bj ((k5 (vF W - j) j).filter (Bn W d8 k d))
theorem Gp (a:j<vF W):BA W d8 k d (j+1)=if Bn W d8 k d (vF W - 1 - j)=ai/\(BA W d8 k d j).any (λg=>bj g (vF W - 1 - j))=am then BA W d8 k d j++[vF W - 1 - j] else BA W d8 k d j:=by
 unfold BA;rw[show k5 (vF W - (j+1)) (j+1)=(vF W - 1 - j)::k5 (vF W - j) j by rw[List.range'_succ,show vF W - (j+1)=vF W - 1 - j by omega,show vF W - 1 - j+1=vF W - j by omega],Zn];by_cases h:Bn W d8 k d (vF W - 1 - j)=ai
 .rw[we h];show (if _ then _ else _)=_;cases e:(zI bj ((k5 (vF W - j) j).filter (Bn W d8 k d))).any (λg=>bj g (vF W - 1 - j)) with
  |true=>rw[we rfl,wc (λz=>by cases z.2)]
  |false=>rw[wc vS,we ⟨h,rfl⟩]
 rw[wc h,wc λz=>h z.1]
theorem Kp (W:Wk) (d8:Int) (k d:Nat):BA W d8 k d (vF W)=zI bj (zC W d8 k d):=by
 unfold BA zC;rw[Nat.sub_self,List.range_eq_range']
theorem za:(BA W d8 k d j).length<=j:=by
 refine R_ (lW bj _) (R_ (YD _ _) ?_);rw[List.length_range'];exact u_ _
theorem wN (a:b->b->Bool):∀xs:List b,(zI a xs).reverse.Sublist xs
 |[]=>List.Sublist.refl _
 |n::B=>by
  unfold zI
  split
  ·
   exact (wN a B).cons _
  ·
   rw[lT]
   exact (wN a B).cons₂ _
theorem Pd:(zw W d8 k d).Pairwise (·<·):=(List.pairwise_lt_range.filter _).sublist (wN bj _)
theorem uI {us vs:List Int}(h:us.Perm vs) (d:us.Pairwise (·<=·)) (c:vs.Pairwise (·<=·)):us=vs:=h.eq_of_pairwise (λa b _ _ f e=>Int.le_antisymm f e) d c
theorem Kq (h:us.Perm ((BA W d8 k d (vF W)).map λ(i:Nat)=>(i:Int))) (a:us.Pairwise (·<=·)):us=(zw W d8 k d).map λ(i:Nat)=>(i:Int):=by
 refine uI (h.trans ?_) a ?_
 .rw[Kp];exact ((iA _).map _).symm
 rw[LW];exact Pd.imp λh=>by omega
theorem zb (h:u∈bf W t):bf W u=bf W t:=by
 unfold bf at h |-;rw[p_,@h_ _ (ae _)] at h;refine Zr λx _=>?_;rw[Yx,@h_ _ (ae _),@h_ _ (ae _)];exact⟨λz=>⟨h.2.1.trans z.1,z.2.trans h.2.2⟩,λz=>⟨h.2.2.trans z.1,z.2.trans h.2.1⟩⟩
theorem Ss (i:t∈nm W):∃r,(uA W).filter (λg=>decide (t∈g))=bf W t::r:=by
 have b:∀g∈(uA W).filter (λg=>decide (t∈g)),g=bf W t:=λg d=>by rw[p_,h_] at d;obtain⟨u,_,rfl⟩:=o_.mp d.1;exact (zb d.2).symm
 have a:=pM (W:=W) i;have c:bf W t∈(uA W).filter (λg=>decide (t∈g)):=by
  rw[p_,h_];refine⟨?_,a⟩;cases e:bf W t with
  |nil=>rw[e] at a;cases a
  |cons y r =>
   have f:y∈bf W t:=by rw[e];exact .head _
   have h:=zb f
   exact o_.mpr ⟨y,p_.mpr ⟨(p_.mp f).1,by rw[h,e];exact k_ rfl⟩,by rw[h,e]⟩
 cases e:(uA W).filter (λg=>decide (t∈g)) with
 |nil=>rw[e] at c;cases c
 |cons g r=>rw[e] at b;exact⟨r,by rw[b g (.head _)]⟩
theorem Kr {K:ap->List ap} (f:∀n∈nm W,∀x,x∈K n↔D6 W n x):(nm W).filter (λx=>decide (t∈K x)&&!decide (x∈bf W t))=dz W t:=by
 unfold dz;refine Zr λx d=>?_;rw[Yx,H_,h_,ZW,YS,@h_ _ (ae _),f x d];unfold bf;rw[p_,@h_ _ (ae _)];have c:D6 W x t->RT (zl ["with"] W) x t:=λ⟨y,b,a⟩=>(RT.step .refl b).trans a;constructor
 .rintro⟨b,a⟩;exact⟨c b,λz=>a ⟨d,z,c b⟩⟩
 rintro⟨b,a⟩;have e:x≠t:=λz=>a (z▸.refl);exact⟨(wM e).mpr b,λz=>a z.2.1⟩
theorem Ks (W:Wk) (t:ap) (A:List (ap × ap × ap)) (p:ap × ap × ap):vE (nm W) ((A++[p]).flatMap (kW t))=cr (vE (nm W) (A.flatMap (kW t))) (vE (nm W) (kW t p)):=by
 rw[Fn,m5];simp
theorem Su (W:Wk):(uA W).length<=W.tasks.length:=by
 unfold uA;rw[g_];refine R_ (YD _ _) ?_;rw[g_];exact u_ _
theorem WL (x:ap) (xs:List ap):du ai (t4 x) (xs.map t4)=!decide (x∈xs):=by unfold du;simp only[Rh];rfl
theorem Gq (x:ap) (xs:List ap):du am (t4 x) (xs.map t4)=decide (x∈xs):=by unfold du;simp only[Rh];rfl
theorem zf:∀{ns:List ap}{i:Nat}{x:ap}{b:Int},ns.Nodup->ns[i]?=ab x->(x∈xc ns b↔b / 2^i%2=1)
 |[],_,_,_,_,e=>by simp at e
 |y::r,0,x,b,nd,e=>by
  rw[Y8,GA] at e
  subst e
  rw[Y4] at nd
  have f:y∉xc r (b / 2):=λz=>nd.1 (iQ _ _ _ z)
  rw[Int.pow_zero,oj]
  unfold xc
  by_cases c:b%2=1 <;> simp [c,f]
 |y::r,i+1,x,b,nd,e=>by
  rw[Ze] at e
  rw[Y4] at nd
  have a:x≠y:=λz=>nd.1 (by rw[<- z];exact S_ e)
  have d:=zf (b:=b / 2) nd.2 e
  have g:b / 2^(i+1)=b / 2 / 2^i:=by rw[eD vS,E2,oi]
  rw[g,<- d]
  show x∈(if b%2=1 then y::xc r (b / 2) else xc r (b / 2))↔_
  by_cases c:b%2=1
  ·
   rw[we c,y_]
   exact⟨λz=>z.resolve_left a,.inr⟩
  ·
   rw[wc c]
theorem Gr {W:Wk}{i:Nat} (h:W.tasks[i]?=ab t):xh (W.tasks.map xp) (i:Int)=ab (xp t):=bQ (by rw[C_,h];rfl)
theorem WM {b i:Nat} (c:nW W) (h:W.tasks[i]?=ab t):decide ((b:Int) / 2^i%2=1)=decide (t.1∈pk W b):=by
 have a:(nm W)[i]?=ab t.1:=by unfold nm;rw[C_,h];rfl
 unfold pk;rw[Zm,zf (ns:=nm W) c.nd a]
def WN:xi:=λts H Q=>∃(a:af) (x:T) (ns b:List ap),ts=[.ref a,x]/\H a=ab (.lst (ns.map t4))/\ns.length<=8/\Ru H x b/\Q (.int (vE ns b)) H
def M9:xi:=λts H Q=>∃(W:Wk) (m:Nat),ts=[W.enc,.int (m:Int)]/\nW W/\m<vF W/\Q (ze W m) H
def BD (W:Wk):List T:=W.tasks.map (CO W)
def WP:xi:=λts H Q=>∃(W:Wk),ts=[W.enc]/\nW W/\∀(a:gV) (p:af),eG H a->a p=ab (.lst (BD W))->Q (.ref p) a
def WQ:xi:=λts H Q=>∃(W:Wk) (p:af) (d8:Int) (kind:ap) (d i:Nat),ts=[.ref p,.int d8,.str kind,.int (d:Int),.int (i:Int)]/\nW W/\H p=ab (.lst (BD W))/\d<vF W/\i<vF W/\Q (.bl (Gn W d8 kind d i)) H
def WR:xi:=λts H Q=>∃(W:Wk) (p:af) (d8:Int) (k d:Nat),ts=[.ref p,.int d8,.str (W.row.getD k ""),.int (d:Int)]/\nW W/\vF W<=32/\H p=ab (.lst (BD W))/\d<vF W/\∀(a:gV) (q:af),eG H a->a q=ab (.lst ((zw W d8 k d).map aV))->Q (.ref q) a
def Nb:xi:=λts H Q=>∃(W:Wk) (p:af) (i:Nat),ts=[.ref p,.int (i:Int)]/\nW W/\H p=ab (.lst (BD W))/\i<vF W/\Q (.int (bT W.tasks (pk W i))) H
structure E9 (W:Wk) (f:ap->Nat):Prop where
 ord:∀o∈W.orders,f o.1<=f o.2
 pai:∀p∈W.pairs,f p.2.1=f p.2.2↔p.1="with"
 kin:∀t∈W.tasks,iR t.2.2 (W.row.getD (f t.1) "")=ai
theorem E9.congr (d:nW W) (h:E9 W f) (e:∀n∈nm W,f n=g n):E9 W g :=
 ⟨λo c=>by
  have q:=d.oo o c
  rw[<- e _ q.2.1,<- e _ q.2.2];exact h.ord o c,λp b=>by
  have q:=d.pp p b
  rw[<- e _ q.2.2.1,<- e _ q.2.2.2];exact h.pai p b,λt a=>by
  rw[<- e _ (o_.mpr ⟨t,a,rfl⟩)];exact h.kin t a⟩
def QI (ts:List (ap × Int × List ap)) (f:ap->Nat) (k:Nat):Int:=((ts.filter λt=>decide (f t.1=k)).map (·.2.1)).sum
def QN (W:Wk) (f:ap->Nat) (m:Nat):List Int:=(ax m).map (QI W.tasks f)
theorem pU (e:∀t∈ts,f t.1=g t.1) (k:Nat):QI ts f k=QI ts g k:=by
 have:(ts.filter λt=>decide (f t.1=k))=ts.filter λt=>decide (g t.1=k):=Zr λt a=>by rw[e t a]
 unfold QI;rw[this]
theorem Az (e:∀n∈nm W,f n=g n) (m:Nat):QN W f m=QN W g m :=
 ZM λk _=>pU (λt a=>e _ (o_.mpr ⟨t,a,rfl⟩)) k
theorem nA (A:List (ap × Int × List ap)) (t:ap × Int × List ap) (f:ap->Nat) (k:Nat):QI (A++[t]) f k=QI A f k+if f t.1=k then t.2.1 else 0:=by
 unfold QI;rw[Y_,B_,kx];by_cases h:f t.1=k <;> simp [h]
theorem Gs (a:k<m):(iz ns f m)[k]?=ab (ns.filter λn=>decide (f n=k)):=by
 unfold iz;rw[C_,YL a];rfl
theorem Gu (b:nW W) (d:m<=W.row.length) (a:∀n,f n<m):∀n∈nm W,fD (iz (nm W) f m) n=f n:=λn c =>
 gH (kJ b (la _) d a).nd (Gs (a n)) (p_.mpr ⟨c,k_ rfl⟩)
theorem nF:bT W.tasks ((nm W).filter λn=>decide (f n=k))=QI W.tasks f k:=by
 have e:(W.tasks.filter λt=>decide (t.1∈(nm W).filter λn=>decide (f n=k)))=W.tasks.filter λt=>decide (f t.1=k):=Zr λt a=>by rw[Zm,p_,h_];exact⟨λz=>z.2,λz=>⟨o_.mpr ⟨t,a,rfl⟩,z⟩⟩
 unfold bT QI;rw[e]
theorem Gv (a:nW W) (i:m<=W.row.length) (o:∀n,f n<m) (h:E9 W f) (r:∀l∈QN W f m,l<=d8):Bi W d8 (iz (nm W) f m):=by
 have c:BI W (iz (nm W) f m):=kJ (W:=W) a (la _) i o;have e:=Gu a i o;have d:=h.congr a (g:=fD (iz (nm W) f m)) λn q=>(e n q).symm;refine (uD a c).mp ⟨d.ord,d.pai,λk s j t p b=>?_,λs b=>?_⟩
 .have:=gH c.nd j b;have:=d.kin t p
  rwa [gH c.nd j b] at this
 obtain⟨k,u,rfl⟩:=o_.mp b;show bT W.tasks ((nm W).filter λn=>decide (f n=k))<=d8
 rw[nF];exact r _ (o_.mpr ⟨k,u,rfl⟩)
variable {f:ap->ap}{W W2:Wk}
def Wk.turn (W:Wk):Wk:=⟨W.tasks,W.orders.map λo=>(o.2,o.1),W.pairs,W.row.reverse⟩
theorem BI.lt (h:BI W D) (a:n∈nm W):fD D n<D.length:=by
 obtain⟨k,s,e,b⟩:=jR (h.al n a);rw[gH h.nd e b];rcases D7 k D.length with z | z
 .exact z
 rw[U_ z] at e;cases e
theorem BI.ldF (h:BI W D) (e:D[k]?=ab s):bT W.tasks s=QI W.tasks (fD D) k:=by
 rw[<- nF];refine lF λx=>?_;rw[p_,h_];constructor
 .intro a;exact⟨h.st x (Y9.mpr ⟨s,S_ e,a⟩),gH h.nd e a⟩
 rintro⟨a,d⟩;obtain⟨g,f,b,c⟩:=jR (h.al x a);have:=gH h.nd b c;rw[d] at this;subst this;rw[e] at b;cases b;exact c
theorem GT.lds (h:BI W D) (r:GT W d8 D (fD D)):∀l∈QN W (fD D) D.length,l<=d8:=λl a=>by
 obtain⟨k,b,rfl⟩:=o_.mp a;have e:=d_ (T_.mp b);rw[<- h.ldF e];exact r.bea _ (YZ _)
theorem GT.kd (h:BI W D) (r:GT W d8 D (fD D)) (a:t∈W.tasks):iR t.2.2 (W.row.getD (fD D t.1) "")=ai:=by
 obtain⟨k,s,e,b⟩:=jR (h.al t.1 (o_.mpr ⟨t,a,rfl⟩));rw[gH h.nd e b];exact r.kin k s e t a b
abbrev EF:=Nat × Int × Int × List ap × ap
def C3 (t:EF):T:=.tup [.int (t.1:Int),.int t.2.1,.int t.2.2.1,sT t.2.2.2.1,.str t.2.2.2.2]
structure Kj (ns:List ap) (sts:List Nat) (O:List (ap × ap)) (P:List (ap × ap × ap)):Prop where
 ol:O.length<=28
 od:O.Nodup
 oo:∀o∈O,∃i j,i≠j/\ns[i]?=ab o.1/\ns[j]?=ab o.2/\sts.getD i 0<=sts.getD j 0
 pl:P.length<=12
 pd:P.Nodup
 pp:∀p∈P,∃i j,i≠j/\ns[i]?=ab p.2.1/\ns[j]?=ab p.2.2/\((p.1="with"/\sts.getD i 0=sts.getD j 0)\/(p.1="apart"/\sts.getD i 0≠sts.getD j 0))
def WT:xi:=λts H Q=>∃(a c ps:af) (d:List Int) (ns:List ap) (b:List EF),ts=[.ref a,.ref c,.ref ps]/\H a=ab (.rol (d.map t3))/\d.length<=63/\H c=ab (.lst (ns.map t4))/\AT ns/\ns.length<=8/\H ps=ab (.lst (b.map C3))/\b.length=ns.length/\∀O P,Kj ns (b.map (·.1)) O P->Q (.tup [.tup (O.map xw),.tup (P.map ya)]) H
structure P5 (ns:List ap) (ss:List EF) (us:List (Int × Int × Int)):Prop where
 l:us.length=ns.length
 ex:∃ix:Nat->Nat,(∀p<ns.length,ix p<ns.length/\us[p]?=ab ((((ss.map (·.1)).getD (ix p) 0:Nat):Int),(us.getD p (0,0,0)).2.1,(ix p:Int)))/\(∀p q,p<q->q<ns.length->ix p≠ix q/\(ss.map (·.1)).getD (ix p) 0<=(ss.map (·.1)).getD (ix q) 0)
theorem Sv {f:List EF} (H:f.length=ns.length) (t:us.Perm ((ax ns.length).map λk=>((((f.map (·.1)).getD k 0:Nat):Int),((f.map (·.2.1)).getD k 0:Int),(k:Int)))) (E:us.Pairwise JP):P5 ns f us:=by
 have l:us.length=ns.length:=by rw[t.length_eq,g_,D_]
 have a:∀x∈us,∃k,k<ns.length/\x=((((f.map (·.1)).getD k 0:Nat):Int),((f.map (·.2.1)).getD k 0:Int),(k:Int)):=λx F=>by obtain⟨k,o,e⟩:=o_.mp (t.mem_iff.mp F);exact⟨k,T_.mp o,e.symm⟩
 have s:(us.map (·.2.2)).Nodup:=by refine (t.map (·.2.2)).nodup_iff.mpr ?_;rw[W_,List.Nodup,LW];refine List.Pairwise.imp (λ{x y} h e=>h ?_) (pu (n:=ns.length));have:(x:Int)=(y:Int):=e;omega
 refine⟨l,λp=>(us.getD p (0,0,0)).2.2.toNat,λp h=>?_,λp q m G=>?_⟩
 .have v:us[p]?=ab us[p]:=d_ uS;obtain⟨k,o,e⟩:=a _ (YZ (show p<us.length by omega));have g:us.getD p (0,0,0)=us[p]:=by rw[i_,v];rfl
  have i:(us.getD p (0,0,0)).2.2.toNat=k:=by rw[g,e];exact ZP k
  dsimp only;refine⟨by rw[i];exact o,?_⟩;rw[i,v,g,e]
 have c:p<us.length:=uS
 have d:q<us.length:=uS
 obtain⟨k,o,e⟩:=a _ (YZ c);obtain⟨u,B,r⟩:=a _ (YZ d);have A:us.getD p (0,0,0)=us[p]:=by rw[i_,d_ c];rfl
 have C:us.getD q (0,0,0)=us[q]:=by rw[i_,d_ d];rfl
 have w:(us.getD p (0,0,0)).2.2.toNat=k:=by rw[A,e];exact ZP k
 have D:(us.getD q (0,0,0)).2.2.toNat=u:=by rw[C,r];exact ZP u
 dsimp only;rw[w,D];constructor
 .intro z;have j:=(JI.mp s) p q (by rw[g_];exact c) (by rw[g_];exact d) m;rw[ZG,ZG,e,r,z] at j;exact j rfl
 have b:=(JI.mp E) p q c d m;unfold JP KeyOrd.kle at b;rw[e,r] at b;dsimp only[HE] at b;rw[YS] at b;omega
def Dn (p q a b:Nat):Prop:=a<p\/(a=p/\b<q)
structure DC (nmO:Nat->ap) (wd:Nat->Nat->ap) (m p q:Nat) (O:List (ap × ap)) (P:List (ap × ap × ap)):Prop where
 od:O.Nodup
 oo:∀o∈O,∃p' q',p'<q'/\q'<m/\Dn p q p' q'/\o=(nmO p',nmO q')
 pd:P.Nodup
 pp:∀x∈P,∃p' q',p'<q'/\q'<m/\Dn p q p' q'/\(x=(wd p' q',nmO p',nmO q')\/x=(wd p' q',nmO q',nmO p'))
 ol:O.length<=9*p+q
 pl:P.length<=2*(9*p+q)
theorem Dn.mono (h:Dn p q c a) (d:q<=b):Dn p b c a:=by unfold Dn at *;omega
theorem DC.skip {m p q e f:Nat} (h:DC c n m p q O P) (r:∀p' q',q'<m->Dn p q p' q'->Dn e f p' q') (j:9*p+q<=9*e+f):DC c n m e f O P :=
 ⟨h.od,λo i=>by obtain⟨a,b,k,d,g,l⟩:=h.oo o i;exact⟨a,b,k,d,r a b d g,l⟩,h.pd,λo i=>by obtain⟨a,b,k,d,g,l⟩:=h.pp o i;exact⟨a,b,k,d,r a b d g,l⟩,R_ h.ol j,R_ h.pl uS⟩
theorem DC.step (h:DC c d m p q O P) (r:∀i j,i<m->j<m->c i=c j->i=j) (k:p<q) (y:q<m) (v s u:Bool):
  DC c d m p (q+1) (bif v then O++[(c p,c q)] else O) (bif u then (bif s then P++[(d p q,c p,c q)] else P)++[(d p q,c q,c p)] else (bif s then P++[(d p q,c p,c q)] else P)):=by
 have B:Dn p (q+1) p q:=.inr ⟨rfl,ZD q⟩;have M:(c p,c q)∉O:=λz=>by obtain⟨a,b,L,Q,D,n⟩:=h.oo _ z;rw[Z_] at n;have N:=r _ _ uS uS n.1;have J:=r _ _ uS uS n.2;unfold Dn at D;omega
 have C:∀w,(w,c p,c q)∉P/\(w,c q,c p)∉P:=λw=>by
  constructor;all_goals
   intro z
   obtain⟨a,b,L,Q,D,n⟩:=h.pp _ z
   rw[Z_,Z_,Z_,Z_] at n
   unfold Dn at D
   rcases n with ⟨_,H,I⟩ | ⟨_,H,I⟩
   all_goals
    have N:=r _ _ uS uS H
    have J:=r _ _ uS uS I
    omega
 have h':DC c d m p (q+1) O P:=h.skip (λ_ _ _ z=>z.mono (kU q)) uS;have A:∀(P':List (ap × ap × ap)),(P'=P\/P'=P++[(d p q,c p,c q)])->P'.Nodup/\(∀x∈P',∃l g,l<g/\g<m/\Dn p (q+1) l g/\(x=(d l g,c l,c g)\/x=(d l g,c g,c l)))/\P'.length<=2*(9*p+q)+1/\(d p q,c q,c p)∉P':=by
  intro P' K;rcases K with rfl | rfl
  .exact⟨h.pd,h'.pp,nS h.pl,(C _).2⟩
  refine⟨gD h.pd (C _).1,λx t=>?_,by rw[b_];simp;exact h.pl,λz=>?_⟩
  .rcases q_.mp t with t | t
   .exact h'.pp x t
   exact⟨p,q,k,y,B,.inl (j_.mp t)⟩
  rcases q_.mp z with z | z
  .exact (C _).2 z
  have:=j_.mp z;rw[Z_,Z_] at this;have e:=r _ _ uS uS this.2.1;omega
 obtain⟨E,G,S,R⟩:=A (bif s then P++[(d p q,c p,c q)] else P) (by cases s <;> simp);generalize (bif s then P++[(d p q,c p,c q)] else P)=F at *;refine⟨?_,?_,?_,?_,?_,?_⟩
 .cases v
  .exact h.od
  exact gD h.od M
 .cases v
  .exact h'.oo
  intro o f;rcases q_.mp f with f | f
  .exact h'.oo o f
  exact⟨p,q,k,y,B,j_.mp f⟩
 .cases u
  .exact E
  exact gD E R
 .cases u
  .exact G
  intro o f;rcases q_.mp f with f | f
  .exact G o f
  exact⟨p,q,k,y,B,.inr (j_.mp f)⟩
 .cases v
  .exact h'.ol
  show (O++[_]).length<=_;rw[b_];have:=h.ol;simp;omega
 cases u
 .show F.length<=_;omega
 show (F++[_]).length<=_;rw[b_];simp;omega
theorem wO {R:zo}{p1 f d:Prop} (j:p1) (i:f) (g:d) (h:∀(b:Bool) (H':gV),H'=(bif b then e else a)->R D Z H'):if c=ai then p1/\f/\d/\R D Z e else R D Z a:=by
 cases c
 .rw[wc K_];exact h am _ rfl
 rw[we rfl];exact⟨j,i,g,h ai _ rfl⟩
theorem Gw {R:zo} (e:p1) (h:∀(b:Bool) (H':gV),H'=(bif b then d else a)->R D Z H'):if c=ai then p1/\R D Z d else R D Z a:=by
 cases c
 .rw[wc K_];exact h am _ rfl
 rw[we rfl];exact⟨e,h ai _ rfl⟩
structure A0 (H3 H:gV) (pk po pq:af) (us:List (Int × Int × Int)) (O:List (ap × ap)) (P:List (ap × ap × ap)):Prop where
 sb:eG H3 H
 k:H pk=ab (.lst (us.map AU))
 o:H po=ab (.lst (O.map xw))
 p:H pq=ab (.lst (P.map ya))
 no:H3 po=ag
 np:H3 pq=ag
 ko:pk≠po
 kp:pk≠pq
 op:po≠pq
theorem A0.new {pk b pq x:af} (h:A0 H3 H pk b pq us O P) (a:H x=ag):A0 H3 (eH H x u) pk b pq us O P :=
 ⟨h.sb.trans (eG.new a),eG.new a _ _ h.k,eG.new a _ _ h.o,eG.new a _ _ h.p,h.no,h.np,h.ko,h.kp,h.op⟩
theorem A0.putO {pk a pq:af} (h:A0 H3 H pk a pq us O P):A0 H3 (eH H a (.lst (O'.map xw))) pk a pq us O' P :=
 ⟨λb u c=>by rw[aH (bF c h.no)];exact h.sb b u c,by rw[aH h.ko];exact h.k,aq,by rw[aH (a7 h.op)];exact h.p,h.no,h.np,h.ko,h.kp,h.op⟩
theorem A0.putP {pk a pq:af} (h:A0 H3 H pk a pq us O P):A0 H3 (eH H pq (.lst (P'.map ya))) pk a pq us O P' :=
 ⟨λb u c=>by rw[aH (bF c h.np)];exact h.sb b u c,by rw[aH h.kp];exact h.k,by rw[aH h.op];exact h.o,aq,h.no,h.np,h.ko,h.kp,h.op⟩
def WW (m:Nat):List (Nat × Nat):=(ax m).flatMap λq=>(ax q).map λp=>(p,q)
theorem Gx:∀m:_root_.Fin 9,(WW m.val).length<=28:=by decide
theorem Sw {d:List EF}{c:Nat->Nat}{P P':List (ap × ap × ap)}{f:Nat->ap}{n:Nat->Nat->ap} (D:ns.length<=8) (A:∀p<ns.length,c p<ns.length) (w:∀p q,p<q->q<ns.length->c p≠c q/\(d.map (·.1)).getD (c p) 0<=(d.map (·.1)).getD (c q) 0) (j:∀p<ns.length,ns[c p]?=ab (f p)) (y:∀p q,n p q=if (d.map (·.1)).getD (c p) 0=(d.map (·.1)).getD (c q) 0 then "with" else "apart") (h:DC f n ns.length p q O P) (s:O'.Perm O) (v:P'.Perm P):Kj ns (d.map (·.1)) O' (P'.take 12):=by
 refine⟨?_,s.nodup_iff.mpr h.od,λo B=>?_,?_,(nX 12 P').nodup (v.nodup_iff.mpr h.pd),λx t=>?_⟩
 .rw[s.length_eq];have:=m6 (l:=O) (m:=(WW ns.length).map λz=>(f z.1,f z.2)) h.od λx t=>by obtain⟨a,b,k,i,_,rfl⟩:=h.oo x t;exact o_.mpr ⟨(a,b),Zf.mpr ⟨b,T_.mpr i,o_.mpr ⟨a,T_.mpr k,rfl⟩⟩,rfl⟩
  rw[g_] at this;have:=Gx ⟨ns.length,uS⟩;dsimp only at this;omega
 .obtain⟨a,b,k,i,_,rfl⟩:=h.oo o (s.mem_iff.mp B);obtain⟨r,u⟩:=w a b k i;exact⟨c a,c b,r,j a uS,j b i,u⟩
 .rw[Y0];omega
 obtain⟨a,b,k,i,_,C⟩:=h.pp x (v.mem_iff.mp (KG t));obtain⟨r,u⟩:=w a b k i;have g:=y a b;have key:(n a b="with"/\(d.map (·.1)).getD (c a) 0=(d.map (·.1)).getD (c b) 0)\/(n a b="apart"/\(d.map (·.1)).getD (c a) 0≠(d.map (·.1)).getD (c b) 0):=by
  by_cases e:(d.map (·.1)).getD (c a) 0=(d.map (·.1)).getD (c b) 0
  .rw[we e] at g;exact .inl ⟨g,e⟩
  rw[wc e] at g;exact .inr ⟨g,e⟩
 rcases C with rfl | rfl
 .exact⟨c a,c b,r,j a uS,j b i,key⟩
 exact⟨c b,c a,a7 r,j b i,j a uS,key.imp (λz=>⟨z.1,z.2.symm⟩) λz=>⟨z.1,a7 z.2⟩⟩
theorem nG {b c:Type}{f:b->T}{g:c->T}:∀(xs:List b) (a:List c),gh (xs.map f) (a.map g)=(xs.zip a).map λz=>.tup [f z.1,g z.2]
 |[],_=>rfl
 |_::_,[]=>rfl
 |x::xs,y::a=>by rw[J_,J_,gh,nG xs a];rfl
structure M2 (W:Wk) (sts:List Nat):Prop where
 l:sts.length=W.tasks.length
 lt:∀s∈sts,s<W.row.length
 kd:∀(i:Nat) (t:ap × Int × List ap),W.tasks[i]?=ab t->t.2.2=[]\/W.row.getD (sts.getD i 0) ""∈t.2.2
 lk:Kj (W.tasks.map (·.1)) sts W.orders W.pairs
def WX:xi:=λts H Q=>∃(a:af) (d:List Int) (b c:Int),ts=[.ref a,.int b,.int c]/\H a=ab (.rol (d.map t3))/\d.length<=63/\1<=b/\b<=8/\1<=c/\c<=8/\∀(W:Wk) (sts:List Nat),nW W->(W.tasks.length:Int)<=b->(W.row.length:Int)<=c->M2 W sts->∀p,H p=ag->Q (.tup [W.enc,.ref p]) (eH H p (.lst (sts.map λ(s:Nat)=>t3 (s:Int))))
structure Nw (row:List ap) (t:EF):Prop where
 s:t.1<row.length
 lo:1<=t.2.2.1
 hi:t.2.2.1<10^60
 ks:AT t.2.2.2.1
 kl:t.2.2.2.1.length<=4
 kd:t.2.2.2.1=[]\/row.getD t.1 ""∈t.2.2.2.1
 nm:xC t.2.2.2.2
def D9 (ns:List ap) (b:List EF) (O:List (ap × ap)) (P:List (ap × ap × ap)) (a:List ap):Wk:=⟨(ns.zip b).map λz=>(z.1,z.2.2.2.1,z.2.2.2.2.1),O,P,a⟩
theorem Sx (w:AT ns) (K:b.length=ns.length) (N:1<=ns.length) (I:ns.length<=8) (B:∀t∈b,Nw a t) (E:1<=a.length) (C:a.length<=8) (D:∀x∈a,xC x) (f:Kj ns (b.map (·.1)) O P):
  nW (D9 ns b O P a)/\M2 (D9 ns b O P a) (b.map (·.1))/\(D9 ns b O P a).tasks.length=ns.length:=by
 have k:(D9 ns b O P a).tasks.map (·.1)=ns:=by show ((ns.zip b).map λz=>(z.1,z.2.2.2.1,z.2.2.2.2.1)).map (·.1)=ns;rw[W_];show (ns.zip b).map (λz=>z.1)=ns;exact pw uS
 have n:(D9 ns b O P a).tasks.length=ns.length:=by
  have:=YB a5 k
  rwa [g_] at this
 have H:∀(i:Nat) (t:ap × Int × List ap),(D9 ns b O P a).tasks[i]?=ab t->∃u,b[i]?=ab u/\ns[i]?=ab t.1/\t.2=(u.2.2.1,u.2.2.2.1):=λi t e=>by have l:((ns.zip b).map λz=>(z.1,z.2.2.2.1,z.2.2.2.2.1))[i]?=ab t:=e;rw[C_,IN] at l;obtain⟨z,v,rfl⟩:=l;have:=List.getElem?_zip_eq_some.mp v;exact⟨z.2,this.2,this.1,rfl⟩
 have G:∀{i j:Nat} {x y:ap},i≠j->ns[i]?=ab x->ns[j]?=ab y->x≠y:=λ{i j x y} h c d z=>by
  rw[z,<- d] at c;have A:i<ns.length:=by
   rcases D7 i ns.length with q | q
   .exact q
   rw[U_ q,d] at c;cases c
  exact h ((Kb A w.nd).mp c)
 refine⟨⟨by rw[n];exact N,by rw[n];exact I,λt J=>?_,by rw[k];exact w.nd,f.ol,f.od,λo L=>?_,f.pl,f.pd,λp Q=>?_,E,C,D⟩,⟨by rw[g_,n,K],λs h=>?_,λi t e=>?_,by rw[k];exact f⟩,n⟩
 .obtain⟨i,A⟩:=Zw J;obtain⟨u,g,c,e⟩:=H i t A;have m:=B u (S_ g);have F:t.2.1=u.2.2.1:=by rw[e]
  have r:t.2.2=u.2.2.2.1:=by rw[e]
  exact⟨w.nm _ (S_ c),by rw[F];exact m.lo,by rw[F];exact m.hi,by rw[r];exact m.ks,by rw[r];exact m.kl⟩
 .obtain⟨i,j,h,c,d,_⟩:=f.oo o L;rw[k];exact⟨G h c d,S_ c,S_ d⟩
 .obtain⟨i,j,h,c,d,v⟩:=f.pp p Q;rw[k];exact⟨v.imp (λz=>z.1) λz=>z.1,G h c d,S_ c,S_ d⟩
 .obtain⟨u,g,rfl⟩:=o_.mp h;exact (B u g).s
 obtain⟨u,g,_,l⟩:=H i t e;have r:t.2.2=u.2.2.2.1:=by rw[l]
 have M:(b.map (·.1)).getD i 0=u.1:=by rw[i_,C_,g];rfl
 rw[r,M];exact (B u (S_ g)).kd
def A7 (L:List Int) (z:(ap × Int × List ap) × Nat):List Int:=L.set z.2 (L.getD z.2 0+z.1.2.1)
def Cc (W:Wk) (sts:List Nat):List Int:=(W.tasks.zip sts).foldl A7 (aS W.row.length 0)
theorem zg (L:List Int):∀a:List ((ap × Int × List ap) × Nat),(a.foldl A7 L).length=L.length:=λa=>by
 induction a generalizing L with
 |nil=>rfl
 |cons z r b=>rw[fz,b];unfold A7;rw[kz]
theorem zj (W:Wk) (sts:List Nat):(Cc W sts).length=W.row.length:=by unfold Cc;rw[zg,Zb]
def Sy:xi:=λts H Q=>∃(W:Wk) (q:af) (sts:List Nat),ts=[W.enc,.ref q]/\nW W/\H q=ab (.lst (sts.map λ(s:Nat)=>t3 (s:Int)))/\sts.length=W.tasks.length/\(∀s∈sts,s<W.row.length)/\∀p,H p=ag->Q (.ref p) (eH H p (.lst ((Cc W sts).map t3)))
theorem zm:∀(L:List Int) (i:Nat) (v:Int),i<L.length->(L.set i (L.getD i 0+v)).sum=L.sum+v
 |[],_,_,h=>wT h wn
 |x::r,0,v,_=>by simp [List.set,Zz];omega
 |x::r,i+1,v,h=>by
  have:=zm r i v (by simpa using h)
  simp only[List.set_cons_succ,Zz,List.getD_cons_succ,this]
  omega
theorem zp:∀(a:List ((ap × Int × List ap) × Nat)) (L:List Int),(∀z∈a,z.2<L.length)->(a.foldl A7 L).sum=L.sum+(a.map (·.1.2.1)).sum
 |[],L,_=>by simp
 |z::r,L,h=>by
  rw[fz,zp r (A7 L z) λy b=>by unfold A7;rw[kz];exact h y (z_ _ b)]
  unfold A7
  rw[zm L z.2 z.1.2.1 (h z A_),J_,Zz]
  omega
theorem Gy:∀(b:List ((ap × Int × List ap) × Nat)) (L:List Int),(∀z∈b,0<=z.1.2.1)->(∀x∈L,0<=x)->∀x∈b.foldl A7 L,0<=x
 |[],L,_,hL=>hL
 |z::r,L,h,hL=>by
  rw[fz]
  refine Gy r _ (λy c=>h y (z_ _ c)) λx a=>?_
  unfold A7 at a
  rcases List.mem_or_eq_of_mem_set a with q | q
  ·
   exact hL x q
  ·
   rw[q]
   have f:=h z A_
   have d:0<=L.getD z.2 0:=by
    rw[i_]
    cases e:L[z.2]? with
    |none=>exact FK 0
    |some y=>exact hL y (S_ e)
   omega
theorem Gz (n:Nat):(aS n (0:Int)).sum=0:=by induction n with
 |zero=>rfl
 |succ n a=>rw[Zc,Zz,a];rfl
theorem SJ (c:nW W):∀x∈Cc W sts,0<=x:=Gy _ _ (λz a=>by have:=(c.tk z.1 (GV a).1).lo;omega) λx b=>by rw[(List.mem_replicate.mp b).2];exact FK 0
theorem Ku (c:sts.length=W.tasks.length) (h:∀s∈sts,s<W.row.length):(Cc W sts).sum=(W.tasks.map (·.2.1)).sum:=by
 unfold Cc;rw[zp _ _ λz b=>by rw[Zb];exact h _ (GV b).2,Gz];have e:(W.tasks.zip sts).map (·.1.2.1)=W.tasks.map (·.2.1):=by have:=pw (l₁:=W.tasks) (l₂:=sts) uS;have a:=YB (ff (·.2.1)) this;rw[W_] at a;exact a
 rw[e];omega
theorem Kv (c:nW W):1<=(W.tasks.map (·.2.1)).sum:=by
 have d:=c.t1;have b:=c.tk;cases e:W.tasks with
 |nil=>rw[e] at d;exact wT d vS
 |cons t r =>
 rw[e] at b;rw[J_,Zz];have i:=(b t A_).lo;have g:∀l:List (ap × Int × List ap),(∀u∈l,MU u)->0<=(l.map (·.2.1)).sum:=λl=>by
  induction l with
  |nil=>intro _;exact FK _
  |cons u l h =>
  intro a;rw[J_,Zz];have:=h λv f=>a v (z_ _ f);have:=(a u A_).lo;omega
 have:=g r λu a=>b u (z_ _ a);omega
def WY:xi:=λts H Q=>∃(c:Int) (W:Wk) (q:af) (sts:List Nat),ts=[.int c,W.enc,.ref q]/\nW W/\H q=ab (.lst (sts.map λ(s:Nat)=>t3 (s:Int)))/\sts.length=W.tasks.length/\(∀s∈sts,s<W.row.length)/\∀n:Int,0<=n->Q (.int n) H
def W0:xi:=λts H Q=>∃(a:af) (e:List Int) (b d:Int),ts=[.ref a,.int b,.int d]/\H a=ab (.rol (e.map t3))/\e.length<=63/\1<=b/\b<=8/\1<=d/\d<=8/\∀(W:Wk) (sts:List Nat) (d8 c:Int),nW W->(W.tasks.length:Int)<=b->(W.row.length:Int)<=d->M2 W sts->0<=d8->∀p,H p=ag->Q (.tup [W.enc,.ref p,.int d8,.int c]) (eH H p (.lst (sts.map λ(s:Nat)=>t3 (s:Int))))
def fS:List ap->List Nat->ap->Nat
 |x::r,s::q,n=>if x=n then s else fS r q n
 |_,_,_=>0
theorem Nf (a:0<m):∀{ns:List ap}{sts:List Nat},(∀s∈sts,s<m)->fS ns sts n<m
 |[],_,_=>a
 |_::_,[],_=>a
 |x::r,s::q,h=>by
  unfold fS
  split
  ·
   exact h s A_
  ·
   exact Nf a λy b=>h y (z_ _ b)
theorem Ba (a:nW W) (c:m<=W.row.length) (h:iB (vF W - 1) (FY W d8 m)=ab v):BI W (v.map (pk W))/\GT W d8 (v.map (pk W)) (fD (v.map (pk W)))/\(v.map (pk W)).length=m/\∀s∈v.map (pk W),(nm W).filter (λn=>decide (n∈s))=s:=by
 obtain⟨r,e⟩:=(MV a c).ok _ (jj h);obtain⟨b,F⟩:=r.dok a;refine⟨b,(uD a b).mpr F,by rw[g_];exact e,λs f=>?_⟩;obtain⟨i,d,rfl⟩:=o_.mp f;rw[<- FQ a,cV a ((r.ok a).2.2.2.2 i d)]
theorem SM (a:nW W) (b:r.length=W.row.length) (c:∀x∈r,x∈W.row):nW ⟨W.tasks,W.orders,W.pairs,r⟩ :=
 ⟨a.t1,a.t8,a.tk,a.nd,a.os,a.od,a.oo,a.ps,a.pd,a.pp,by show 1<=r.length;rw[b];exact a.r1,by show r.length<=8;rw[b];exact a.r8,λx d=>a.rn x (c x d)⟩
def W3:xi:=λts H Q=>∃(W:Wk) (c:Int),ts=[W.enc,.int c]/\nW W/\∀r:List ap,r.length=W.row.length->(∀x∈r,x∈W.row)->Q (Wk.enc ⟨W.tasks,W.orders,W.pairs,r⟩) H
theorem jF:∀{ns:List ap}{sts:List Nat}{i:Nat}{n:ap},ns.Nodup->i<sts.length->ns[i]?=ab n->fS ns sts n=sts.getD i 0
 |[],_,_,_,_,_,e=>by simp at e
 |x::r,[],_,_,_,hl,_=>by cases hl
 |x::r,s::q,0,n,_,_,e=>by
  rw[Y8,GA] at e
  unfold fS
  rw[we e]
  rfl
 |x::r,s::q,i+1,n,h,hl,e=>by
  rw[Ze] at e
  rw[Y4] at h
  unfold fS
  rw[wc λz=>h.1 (by rw[z];exact S_ e),jF h.2 (Nat.lt_of_succ_lt_succ hl) e]
  simp
structure Ch (W:Wk) (d8:Int) (ps:List Nat) (j:Nat):Prop where
 kin:∀t,W.tasks[ps.length]?=ab t->iR t.2.2 (W.row.getD j "")=ai
 ld:QI (W.tasks.take (ps.length+1)) (fS (nm W) (ps++[j])) j<=d8
 ord:∀o∈W.orders,o.1∈(nm W).take (ps.length+1)->o.2∈(nm W).take (ps.length+1)->fS (nm W) (ps++[j]) o.1<=fS (nm W) (ps++[j]) o.2
 pai:∀p∈W.pairs,p.2.1∈(nm W).take (ps.length+1)->p.2.2∈(nm W).take (ps.length+1)->(fS (nm W) (ps++[j]) p.2.1=fS (nm W) (ps++[j]) p.2.2↔p.1="with")
def DT (W:Wk) (d8:Int) (many:Nat) (ps:List Nat):Prop:=∃a:List Nat,ps.length+a.length=W.tasks.length/\(∀s∈a,s<many)/\∀i,i<a.length->Ch W d8 (ps++a.take i) (a.getD i 0)
theorem GC (h:ps.length=W.tasks.length):DT W d8 many ps:=⟨[],h,(λ_ h=>nomatch h),λi a=>wT a (fw _)⟩
theorem GD (h:ps.length<W.tasks.length):DT W d8 many ps↔∃j,j<many/\Ch W d8 ps j/\DT W d8 many (ps++[j]):=by
 constructor
 .rintro⟨b,d,c,e⟩;cases b with
  |nil=>simp at d;omega
  |cons j b =>
  refine⟨j,c j A_,by simpa using e 0 wn,b,by simp at d |-;omega,λs a=>c s (z_ _ a),λi f=>?_⟩;have:=e (i+1) (by simp;exact f);rw[ZR];simpa using this
 rintro⟨j,k,g,b,d,c,e⟩;refine⟨j::b,by simp at d |-;omega,λs a=>?_,λi f=>?_⟩
 .rcases y_.mp a with rfl | a
  .exact k
  exact c s a
 cases i with
 |zero=>simpa using g
 |succ i =>
  have:=e i (by simpa using f)
  rw[ZR] at this
  simpa using this
theorem nH {b:Type}{xs:List b}{x:b} (h:x∈xs.take c):∃i,i<c/\xs[i]?=ab x:=by
 obtain⟨i,a⟩:=Zw h;rw[Iy] at a;split at a
 .exact⟨i,by assumption,a⟩
 cases a
theorem Kz (b:nW W) (f:c<=a.length) (h:n∈(nm W).take c):fS (nm W) (a.take c) n=fS (nm W) a n:=by
 obtain⟨i,d,e⟩:=nH h;rw[jF (ns:=nm W) b.nd (by rw[Y0];omega) e,jF (ns:=nm W) b.nd uS e,i_,i_,Iy,we d]
theorem yn {a:List Nat} (h:i<a.length):a.take i++[a.getD i 0]=a.take (i+1):=by
 rw[i_,d_ h,YF h];rfl
theorem KD (W:Wk) (c:Nat):(nm W).take c=(W.tasks.take c).map (·.1):=List.map_take.symm
theorem iY {i:Nat} (h:W.tasks[i]?=ab t):(nm W)[i]?=ab t.1:=by unfold nm;rw[C_,h];rfl
theorem zq (A:nW W) (h:i<c.length) (C:c.length=W.tasks.length) (j:W.tasks[i]?=ab t) {f:ap->Nat} (x:∀n∈nm W,f n=fS (nm W) c n):
  Ch W d8 (c.take i) (c.getD i 0)↔iR t.2.2 (W.row.getD (f t.1) "")=ai/\QI (W.tasks.take (i+1)) f (f t.1)<=d8/\(∀o∈W.orders,o.1∈(nm W).take (i+1)->o.2∈(nm W).take (i+1)->f o.1<=f o.2)/\∀p∈W.pairs,p.2.1∈(nm W).take (i+1)->p.2.2∈(nm W).take (i+1)->(f p.2.1=f p.2.2↔p.1="with"):=by
 have e:(c.take i).length=i:=by rw[Y0];omega
 have B:fS (nm W) c t.1=c.getD i 0:=jF A.nd h (iY j);have q:f t.1=c.getD i 0:=by rw[x t.1 (S_ (iY j)),B]
 have d:∀n∈(nm W).take (i+1),fS (nm W) (c.take (i+1)) n=f n:=λn y=>by rw[Kz A h y,x n (KG y)]
 have z:QI (W.tasks.take (i+1)) (fS (nm W) (c.take (i+1))) (f t.1)=QI (W.tasks.take (i+1)) f (f t.1):=pU (λu l=>d u.1 (by rw[KD];exact o_.mpr ⟨u,l,rfl⟩)) _;constructor
 .intro m;have w:=m.kin t (by rw[e];exact j);have g:=m.ld;have k:=m.ord;have r:=m.pai;rw[yn h,e] at g k r;rw[<- q,z] at g;refine⟨by rw[q];exact w,g,λo v a b=>?_,λp s a b=>?_⟩
  .rw[<- d _ a,<- d _ b];exact k o v a b
  rw[<- d _ a,<- d _ b];exact r p s a b
 rintro⟨w,g,k,r⟩;refine⟨λu l=>?_,?_,λo v=>?_,λp s=>?_⟩
 .rw[e,j] at l;cases l;rw[<- q];exact w
 .rw[yn h,e,<- q,z];exact g
 .rw[yn h,e];intro a b;rw[d _ a,d _ b];exact k o v a b
 rw[yn h,e];intro a b;rw[d _ a,d _ b];exact r p s a b
theorem SN (c:nW W) {f:ap->Nat}:∀{B:List (ap × Int × List ap)},(∀t∈B,t∈W.tasks)->0<=QI B f k:=by
 intro B;induction B with
 |nil=>intro _;exact FK 0
 |cons t r a =>
 intro h;have i:=a λu b=>h u (z_ _ b);have d:=(c.tk t (h t A_)).lo;unfold QI at i |-;rw[Zn];split
 .rw[J_,Zz];omega
 exact i
theorem GF (b:nW W) {f:ap->Nat}:QI (W.tasks.take c) f k<=QI W.tasks f k:=by
 have e:QI W.tasks f k=QI (W.tasks.take c) f k+QI (W.tasks.drop c) f k:=by unfold QI;rw[<- kx,<- B_,<- Y_,kD]
 have:=SN b (f:=f) (k:=k) (B:=W.tasks.drop c) λt a=>k6 a;omega
theorem KH (g:nW W) (G:0<=d8):DT W d8 many []↔∃f:ap->Nat,(∀n,f n<many)/\E9 W f/\∀l∈QN W f many,l<=d8:=by
 have M:=g.t1;constructor
 .rintro⟨j,C,D,B⟩;rw[YM,Nat.zero_add] at C;have I:0<many:=Z0 (Y5 _) (D (j[0]' uS) (YZ _));have st:∀i t,W.tasks[i]?=ab t->_:=λi t b=>by
   have d:i<j.length:=by
    rcases D7 i W.tasks.length with z | z
    .omega
    rw[U_ z] at b;cases b
   have:=B i d;rw[IH] at this;exact (zq g d C b (f:=fS (nm W) j) λ_ _=>rfl).mp this
  have b:∃t,W.tasks[W.tasks.length - 1]?=ab t:=⟨_,d_ uS⟩;obtain⟨N,u⟩:=b;have a:=st _ _ u;rw[show W.tasks.length - 1+1=W.tasks.length by omega,GH (show (nm W).length<=W.tasks.length by rw[cX];exact u_ _)] at a;refine⟨fS (nm W) j,λn=>Nf I D,⟨λo m=>?_,λp q=>?_,λt b=>?_⟩,λl v=>?_⟩
  .exact a.2.2.1 o m (g.oo o m).2.1 (g.oo o m).2.2
  .exact a.2.2.2 p q (g.pp p q).2.2.1 (g.pp p q).2.2.2
  .obtain⟨i,d⟩:=Zw b;exact (st i t d).1
  obtain⟨k,L,rfl⟩:=o_.mp v;have J:∀c,c<=W.tasks.length->QI (W.tasks.take c) (fS (nm W) j) k<=d8:=λc=>by
   induction c with
   |zero=>intro _;exact G
   |succ c H =>
   intro K;have b:=d_ (show c<W.tasks.length by omega);have s:=st c _ b;by_cases e:fS (nm W) j (W.tasks[c]' uS).1=k
   .rw[<- e];exact s.2.1
   rw[YF (show c<W.tasks.length by omega),nA,wc e,F4];exact H uS
  have:=J W.tasks.length (u_ _)
  rwa [F1] at this
 rintro⟨f,E,h,A⟩;have r:((nm W).map f).length=W.tasks.length:=by rw[g_,cX]
 have y:∀n∈nm W,f n=fS (nm W) ((nm W).map f) n:=λn F=>by
  obtain⟨i,d⟩:=Zw F;have w:i<(nm W).length:=by
   rcases D7 i (nm W).length with z | z
   .exact z
   rw[U_ z] at d;cases d
  rw[jF (ns:=nm W) g.nd (by rw[g_];exact w) d,i_,C_,d];rfl
 refine⟨(nm W).map f,by rw[YM,Nat.zero_add];exact r,λs B=>?_,λi d=>?_⟩
 .obtain⟨n,_,rfl⟩:=o_.mp B;exact E n
 rw[IH];have x:i<W.tasks.length:=uS
 have b:=d_ x;rw[zq g d r b (f:=f) y];refine⟨h.kin _ (YZ _),Int.le_trans (GF g) (A _ (o_.mpr ⟨_,T_.mpr (E _),rfl⟩)),λo m _ _=>h.ord o m,λp q _ _=>h.pai p q⟩
theorem KJ (a:nW W) (c:m<=W.row.length):(∃v,iB (vF W - 1) (FY W d8 m)=ab v)↔∃f:ap->Nat,(∀n,f n<m)/\E9 W f/\∀l∈QN W f m,l<=d8:=by
 constructor
 .rintro⟨v,k⟩;obtain⟨b,R,j,_⟩:=Ba a c k;obtain⟨t,d⟩:∃t,t∈W.tasks:=List.exists_mem_of_length_pos (by have:=a.t1;omega);have p:0<m:=by have:=b.lt (n:=t.1) (o_.mpr ⟨t,d,rfl⟩);omega
  refine⟨λn=>if n∈nm W then fD (v.map (pk W)) n else 0,λn=>?_,?_,?_⟩
  .show (if n∈nm W then fD (v.map (pk W)) n else 0)<m;split
   .rw[<- j];exact b.lt (by assumption)
   exact p
  .exact E9.congr (f:=fD (v.map (pk W))) a ⟨R.ord,R.pai,λt d=>R.kd b d⟩ λn e=>by rw[we e]
  rw[Az (g:=fD (v.map (pk W))) (λn e=>by rw[we e]) m];have:=R.lds b
  rwa [j] at this
 rintro⟨f,i,h,o⟩;have b:BI W (iz (nm W) f m):=kJ a (la _) c i;exact LG.mp ((yQ a c).mpr ⟨_,yY.ofD a b (Gv a c i h o),by rw[g_,pN]⟩)
def ni (s:Nat):T:=.int (s:Int)
theorem SQ (g:mG) (W:Wk) (Z:xv) (H:gV) (Q:xv->gV->Prop):xO 4 g W.enc Z H Q=(True/\g [.tup (W.tasks.map xp),.tup (W.orders.map xw),.tup (W.pairs.map ya),.tup (W.row.map t4)] Z H Q):=propext ⟨λh=>⟨wo,h.2⟩,λh=>⟨rfl,h.2⟩⟩
theorem uJ {f g:ap->Nat} (h:∀n∈ns,f n=g n):dN ns f=dN ns g:=ZM λn a=>by rw[h n a]
theorem W4 {ps:List Nat} (h:i<ps.length):xh (ps.map ni) (i:Int)=ab (.int ((ps.getD i 0:Nat):Int)):=bQ (by rw[C_,i_,d_ h];rfl)
theorem Ng {i:Nat} (h:W.tasks[i]?=ab t):xh (W.tasks.map xp) (i:Int)=ab (xp t):=bQ (by rw[C_,h];rfl)
def GJ:Nat->xi
 |0=>λ_ _ _=>False
 |m+1=>λts H Q=>∃(W:Wk) (d8:Int) (many:Nat) (q:af) (ps:List Nat),ts=[W.enc,.int d8,.int (many:Int),.ref q]/\nW W/\many<=W.row.length/\H q=ab (.lst (ps.map ni))/\ps.length<=W.tasks.length/\W.tasks.length<=ps.length+m/\∀b:Bool,(b=ai↔DT W d8 many ps)->Q (.bl b) H
theorem zr (e:nW W) (d:many<=W.row.length) (a:H q=ab (.lst (ps.map ni))) (f:ps.length<=W.tasks.length) (c:W.tasks.length<=ps.length+m) (h:∀b:Bool,(b=ai↔DT W d8 many ps)->Q (.bl b) H):GJ (m+1) [W.enc,.int d8,.int (many:Int),.ref q] H Q:=⟨W,d8,many,q,ps,rfl,e,d,a,f,c,h⟩
def W5:xi:=λts H Q=>∃(W:Wk) (d8:Int) (q:af) (ps:List Nat) (j:Nat),ts=[W.enc,.int d8,.ref q,.int (j:Int)]/\nW W/\H q=ab (.lst (ps.map ni))/\ps.length<W.tasks.length/\j<W.row.length/\∀b:Bool,(b=ai↔Ch W d8 ps j)->Q (.bl b) H
def gR (L:List Nat) (m:Nat):List Nat:=L.filter λo=>bj o m&&!decide (o=m)
def eZ (W:Wk) (d8:Int) (many:Nat) (less:Bool) (s m:Nat) (L:List Nat):CM :=
 if less=ai/\gR L m≠[] then .less ((gR L m).getLastD 0)
 else if s=many\/(less=am/\d8*((many:Int) - s)<AY W m) then .left (AY W m)
 else .ways (Ct W d8 s m)
def BS:CM->List Nat
 |.ways os=>os
 |_=>[]
def xy (W:Wk) (d8:Int) (many:Nat) (less:Bool):Nat->List Nat
 |0=>[0]
 |s+1=>(ax (vF W)).filter λo=>decide (o∈(xy W d8 many less s).flatMap λm=>BS (eZ W d8 many less s m (xy W d8 many less s)))
def BG (W:Wk) (d8:Int) (many:Nat) (less drop:Bool) (s:Nat) (A:List Nat):List AW:=(A.filter λm=>!drop||!decide (m=vF W - 1)).map λm=>(s,m,eZ W d8 many less s m (xy W d8 many less s))
def At (W:Wk) (d8:Int) (many:Nat) (less drop:Bool) (n:Nat):List AW:=(ax n).flatMap λs=>BG W d8 many less drop s (xy W d8 many less s)
theorem Os:o∈gR L m↔o∈L/\bj o m=ai/\o≠m:=by
 unfold gR;rw[p_,H_,ZW,YS]
theorem uK (h:L≠[]):L.getLastD 0∈L:=by
 rw[List.getLastD_eq_getLast?,List.getLast?_eq_some_getLast h];exact pE h
theorem iw (c:nW W):∀{s:Nat},(∀m∈xy W d8 many less s,m<vF W/\GG W m)/\(xy W d8 many less s).Pairwise (·<·)
 |0=>⟨λm b=>by rw[j_.mp b];exact⟨eF W,J5 W⟩,List.pairwise_singleton _ _⟩
 |s+1=>by
  refine⟨λo f=>?_,List.pairwise_lt_range.filter _⟩
  obtain⟨j,d⟩:=p_.mp f
  rw[h_,Zf] at d
  obtain⟨m,b,a⟩:=d
  obtain⟨h,e⟩:=(iw c (s:=s)).1 m b
  unfold eZ at a
  split at a
  ·
   cases a
  ·
   split at a
   ·
    cases a
   ·
    obtain⟨g,i,rfl⟩:=o_.mp a
    exact⟨T_.mp j,RC c h e (iu i)⟩
theorem W6:o∈xy W d8 many less (s+1)↔o<vF W/\o∈(xy W d8 many less s).flatMap λm=>BS (eZ W d8 many less s m (xy W d8 many less s)):=by
 show o∈(ax (vF W)).filter _↔_;rw[p_,h_,T_]
theorem zu (a:nW W):(xy W d8 many less s).length<=256:=by
 have h:=iw (d8:=d8) (many:=many) (less:=less) a (s:=s);have:=m6 (l:=xy W d8 many less s) (m:=ax (vF W)) (h.2.imp λh=>L_ h) λx b=>T_.mpr (h.1 x b).1;rw[D_] at this;exact R_ this (ir a)
theorem jY (a:nW W) (b:m<vF W):F5 W (eZ W d8 many less s m (xy W d8 many less s)):=by
 unfold eZ;split
 .rename_i h;exact ((iw a).1 _ (Os.mp (uK h.2)).1).1
 split
 .trivial
 exact⟨wL a b,by unfold Ct;rw[g_];exact qZ a⟩
theorem q9 (h:c∈At W d8 many less drop n):c.1<n/\c.2.1∈xy W d8 many less c.1/\c.2.2=eZ W d8 many less c.1 c.2.1 (xy W d8 many less c.1):=by
 obtain⟨s,b,h⟩:=Zf.mp h;obtain⟨m,a,rfl⟩:=o_.mp h;exact⟨T_.mp b,(p_.mp a).1,rfl⟩
theorem Nh (a:nW W):∀c∈At W d8 many less drop n,Ix W c:=λc e=>by
 obtain⟨_,b,d⟩:=q9 e;have:=((iw a).1 _ b).1;exact⟨this,by rw[d];exact jY a this⟩
theorem nJ (a:nW W):∀n:Nat,(At W d8 many less drop n).length<=n*256
 |0=>u_ _
 |n+1=>by
  unfold At
  rw[ky,Fn,b_,ID]
  have b:(At W d8 many less drop n).length<=n*256:=nJ a n
  unfold At at b
  have c:(BG W d8 many less drop n (xy W d8 many less n)).length<=256:=by
   unfold BG
   rw[g_]
   exact R_ (YD _ _) (zu a)
  omega
theorem zx (n:Nat):At W d8 many less drop (n+1)=At W d8 many less drop n++BG W d8 many less drop n (xy W d8 many less n):=by
 unfold At;rw[ky,Fn,ID]
theorem L9:(s,m)∈(At W d8 many less am n).map yy↔s<n/\m∈xy W d8 many less s:=by
 constructor
 .intro h;obtain⟨c,d,e⟩:=o_.mp h;obtain⟨b,a,_⟩:=q9 d;obtain⟨rfl,rfl⟩:=Gc e;exact⟨b,a⟩
 rintro⟨b,a⟩;exact o_.mpr ⟨(s,m,eZ W d8 many less s m (xy W d8 many less s)),Zf.mpr ⟨s,T_.mpr b,o_.mpr ⟨m,p_.mpr ⟨a,rfl⟩,rfl⟩⟩,rfl⟩
theorem Ni:∀{ks:List (Nat × Nat)},ks.Pairwise (λa b=>B7 a b=ai)->ES ks=ai
 |[],_=>rfl
 |[_],_=>rfl
 |a::b::r,h=>by
  rw[List.pairwise_cons] at h
  show (B7 a b&&ES (b::r))=ai
  rw[h.1 b (.head _),Ni h.2]
  rfl
theorem Nj (e:nW W):∀n:Nat,((At W d8 many less drop n).map yy).Pairwise (λa b=>B7 a b=ai)
 |0=>iF
 |n+1=>by
  rw[zx,B_,List.pairwise_append]
  refine⟨Nj e n,?_,λa g b j=>?_⟩
  ·
   unfold BG
   rw[W_,LW]
   refine ((iw e).2.filter _).imp λ{a b} h=>?_
   show B7 (n,a) (n,b)=ai
   unfold B7
   rw[we rfl]
   exact k_ h
  ·
   obtain⟨c,i,rfl⟩:=o_.mp g
   obtain⟨d,k,rfl⟩:=o_.mp j
   have f:=(q9 i).1
   obtain⟨m,l,rfl⟩:=o_.mp k
   show B7 (c.1,c.2.1) (n,m)=ai
   unfold B7
   rw[wc (L_ f)]
   exact k_ f
theorem zy (j:nW W) (f:many<=W.row.length):∀{s:Nat},s<=many->∀m∈xy W d8 many less s,∃b,yY W d8 b m/\b.length=s
 |0,_,m,h=>by rw[j_.mp h];exact⟨[],.nil,rfl⟩
 |s+1,hs,o,ho=>by
  obtain⟨k,e⟩:=p_.mp ho
  rw[h_,Zf] at e
  obtain⟨m,c,a⟩:=e
  obtain⟨b,r,d⟩:=zy j f (s:=s) uS m c
  unfold eZ at a
  split at a
  ·
   cases a
  ·
   split at a
   ·
    cases a
   ·
    obtain⟨g,i,rfl⟩:=o_.mp a
    exact⟨b++[g],.snoc r uS (by rw[d];exact iu i),by rw[b_,d];rfl⟩
theorem GK (a:nW W) (t:many<=W.row.length) (x:0<=d8) (n:¬RB W d8 many):DE W d8 many (At W d8 many less am (many+1))=ai:=by
 unfold DE;rw[H_,H_,h_,YG];refine⟨L9.mpr ⟨Nat.succ_pos _,j_.mpr rfl⟩,Ni (Nj a _),λc l=>?_⟩;obtain⟨b,d,j⟩:=q9 l;obtain⟨p,f,r⟩:=c;simp only at b d j;obtain⟨g,k⟩:=(iw a).1 _ d;unfold EL;rw[H_,H_,h_,KS];refine⟨nV b,k,?_⟩;simp only;rw[j];unfold eZ;split
 .rename_i h;obtain⟨u,w,v⟩:=Os.mp (uK h.2);unfold DJ;rw[H_,H_,h_,ZW,YS];exact⟨L9.mpr ⟨b,u⟩,v,w⟩
 rename_i m;split
 .rename_i h;unfold DJ;rw[H_,h_,h_];refine⟨rfl,?_⟩;rcases h with h | h
  .subst h;have:f≠vF W - 1:=λz=>n (by
    obtain⟨s,r,q⟩:=zy a t (u_ _) f d
    exact⟨s,z▸r,q⟩)
   have:=RD a g this;rw[Int.sub_self,og];exact this
  exact h.2
 rename_i h;have e:p<many:=by
  rcases g5 (nV b) with z | z
  .exact z
  exact wT (.inl z) h
 unfold DJ;rw[H_,H_,h_,h_,YG];refine⟨e,rfl,λo i=>k_ (L9.mpr ⟨uS,?_⟩)⟩;refine p_.mpr ⟨T_.mpr (wL a g o i),k_ (Zf.mpr ⟨f,d,?_⟩)⟩;unfold eZ;rw[wc m,wc h];exact i
def Db:Unit->T:=λ_=>.bl ai
def AE (os:List Nat) (E:List (Nat × Unit)):List (Nat × Unit):=os.foldl (λE o=>y3 o () E) E
theorem GP:∀{os:List Nat}{E:List (Nat × Unit)},(E.map (·.1)).Nodup->((AE os E).map (·.1)).Nodup/\∀k,k∈(AE os E).map (·.1)↔k∈os\/k∈E.map (·.1)
 |[],E,h=>⟨h,λk=>by simp [AE]⟩
 |o::r,E,h=>by
  obtain⟨c,a⟩:=GP (os:=r) (E:=y3 o () E) (yN h)
  refine⟨c,λk=>(a k).trans ?_⟩
  rw[pR,y_]
  split
  ·
   rename_i b
   exact⟨λz=>z.elim (λz=>.inl (.inr z)) .inr,λz=>z.elim (λz=>z.elim (λz=>.inr (z▸b)) .inl) .inr⟩
  ·
   rw[q_,j_]
   exact⟨λz=>z.elim (λz=>.inl (.inr z)) (λz=>z.elim .inr λz=>.inl (.inl z)),λz=>z.elim (λz=>z.elim (λz=>.inr (.inr z)) .inl) λz=>.inr (.inl z)⟩
theorem wQ (a b:List Nat) (E:List (Nat × Unit)):AE (a++b) E=AE b (AE a E):=Lv
theorem SX (b:nW W) (h:us.Perm ((dI Db (AE ((xy W d8 many less s).flatMap λm=>BS (eZ W d8 many less s m (xy W d8 many less s))) [])).map (·.1))) (f:us.Pairwise (·<=·)):us=(xy W d8 many less (s+1)).map λ(i:Nat)=>(i:Int):=by
 obtain⟨l,j⟩:=GP (os:=(xy W d8 many less s).flatMap λm=>BS (eZ W d8 many less s m (xy W d8 many less s))) (E:=[]) EC;generalize (AE ((xy W d8 many less s).flatMap λm=>BS (eZ W d8 many less s m (xy W d8 many less s))) [])=E at *;have e:(dI Db E).map (·.1)=(E.map (·.1)).map λ(i:Nat)=>(i:Int):=by unfold dI;rw[W_,W_];rfl
 rw[e] at h;have c:=(iw (d8:=d8) (many:=many) (less:=less) b (s:=s+1)).2;refine uI (h.trans (List.Perm.map _ ?_)) f (by rw[LW];exact c.imp λh=>by omega);refine (List.perm_ext_iff_of_nodup l (c.imp λh=>L_ h)).mpr λk=>?_;rw[j k,W6];refine⟨λz=>?_,λz=>.inl z.2⟩;have z:=z.resolve_right wn;refine⟨?_,z⟩;obtain⟨m,d,a⟩:=Zf.mp z;have g:=jY (d8:=d8) (many:=many) (less:=less) (s:=s) b ((iw b).1 m d).1;generalize eZ W d8 many less s m (xy W d8 many less s)=r at *;cases r with
 |ways os=>exact g.1 k a
 |left=>cases a
 |less=>cases a
theorem GQ (a:nW W) (b:many<=W.row.length) (c:0<=d8):DT W d8 many []↔RB W d8 many:=by
 rw[KH a c,<- KJ a b,<- LG,yQ a b];rfl
theorem Nk {os:List Nat} (h:∀o∈os,o<vF W):(dI Db (AE os [])).length<=vF W:=by
 obtain⟨c,b⟩:=GP (os:=os) (E:=[]) EC;have:=m6 (l:=(AE os []).map (·.1)) (m:=ax (vF W)) c λx a=>T_.mpr (h x (((b x).mp a).resolve_right wn));rw[D_,g_] at this;unfold dI;rw[g_];exact this
theorem Nm (h:F5 W r):∀o∈BS r,o<vF W:=λo a=>by
 cases r with
 |ways os=>exact h.1 o a
 |left=>cases a
 |less=>cases a
theorem KN {x:T}:xh (xs++[x]) (-1)=ab x:=by
 have e:AL (xs++[x]).length (-1)=ab xs.length:=by
  unfold AL;rw[b_,t_];have a:¬((0:Int)<=-1):=vS
  simp only[a,V_];first
   | (rw[we uS];congr 1;omega)
   | (split <;> first | (congr 1;omega) | omega)
 unfold xh;rw[e];show (xs++[x])[xs.length]?=ab x;simp
theorem S5 (h:M≠[]):xh (M.map aV) (-1)=ab (.int ((M.getLastD 0:Nat):Int)):=by
 rw[<- Zj h,B_];have e:((M.dropLast++[M.getLast h]).getLastD 0)=M.getLast h:=wn
 rw[e];exact KN
def S6 (H:gV) (t:T):CM->Prop
 |.left n=>t=.tup [.str "left",.int n]
 |.less o=>t=.tup [.str "less",.int (o:Int)]
 |.ways os=>∃q,t=.tup [.str "ways",.ref q]/\H q=ab (.lst (os.map aV))
def Np:xi:=λts H Q=>∃(W:Wk) (p b:af) (d8:Int) (many s m:Nat) (less:Bool) (L:List Nat),ts=[W.enc,.ref p,.int d8,.int (many:Int),.tup [.int (s:Int),.int (m:Int),.bl less],.ref b]/\nW W/\vF W<=32/\H p=ab (.lst (BD W))/\H b=ab (.lst (L.map aV))/\L.length<=256/\m<vF W/\s<=many/\many<=W.row.length/\∀(a:gV) (t:T),eG H a->S6 a t (eZ W d8 many less s m L)->Q t a
def GR:xi:=λts H Q=>∃(W:Wk) (s m:Nat) (t:T) (r:CM),ts=[W.enc,.int (s:Int),.int (m:Int),t]/\nW W/\m<vF W/\S6 H t r/\F5 W r/\Q (AA W (s,m,r)) H
def Nq:xi:=λts H Q=>∃(W:Wk) (d8:Int) (many:Nat) (less drop:Bool),ts=[W.enc,.int d8,.int (many:Int),.bl less,.bl drop]/\nW W/\vF W<=32/\many<=W.row.length/\Q (.tup ((At W d8 many less drop (many+1)).map (AA W))) H
section
variable {K:a6}
abbrev zz:List ap:=[yb,CH,CD,w_,zS]
theorem MB:fY zz [yb,CH,CD] (aC (vT 46)):=aX
theorem GX {f:af} (g:G3 K mg "_law_drawn" (vT 46) [yb,CH,CD] f y) (B:Bl mg) (j:Z1 P w K mg base 3 "_law_works" (vT 43) [yb,CH,CD] WX) (k:Z1 P w K mg base 2 "_law_beat" (vT 45) [yA,w_,zS] WY) (b:Z1 P w K mg base 1 "_law_cell" (vT 37) [yb,AB] Kd):Z1 P w K mg base 4 "_law_drawn" (vT 46) [yb,CH,CD] W0:=by
 refine c6 g MB ?_;rintro _ _ _ s _ _ _ H3 _ r ⟨a,o,e,d,rfl,z,m,S,Z,R,Y,I⟩;refine⟨_,(aj (iH (aN j r rfl (aa wh (aa wm (aa w4 ak)))) (bU (n:=2) rfl (aG (aB 3 MB.nd) (aG (aB 4 MB.nd) bC))))
   (au (aK (bB (aa xa (aa xk (aa (aN k r rfl (aa (aN b r rfl (aa wh (aa ao ak))) (aa xa (aa xk ak)))) (aa (aN b r rfl (aa wh (aa ao ak))) ak)))))))),?_⟩
 walk_at "q";walk_at "h";have D:=t6.mk I;clear I;walk_at "s";refine⟨a,o,e,d,rfl,z,m,S,Z,R,Y,λW sts L U X v p G=>?_⟩;have F:eG H3 (eH H3 p (.lst (sts.map λ(s:Nat)=>t3 (s:Int)))):=eG.new G;have C:eH H3 p (.lst (sts.map λ(s:Nat)=>t3 (s:Int))) p=ab (.lst (sts.map λ(s:Nat)=>t3 (s:Int))):=aq;have J:=t6.mk (λq c (t:0<=q)=>D.out W sts q c L U X v t p G);have x:=F _ _ z;try walk_at ""
 generalize eH H3 p (.lst (sts.map λ(s:Nat)=>t3 (s:Int)))=H4 at F C x J |-;clear D;walk_at "n";walk_at "";refine⟨wo,a,o,14,rfl,x,m,vS,λN=>⟨N,W,p,sts,rfl,L,C,v.l,v.lt,λq t=>⟨a,o,15,rfl,x,m,vS,λV=>?_⟩⟩⟩;try dsimp only
 exact⟨vS,n7.of eG.refl (J.out q V t)⟩
def zA:xi:=λts H Q=>∃(a:af) (ns:List Int),ts=[.ref a]/\H a=ab (.rol (ns.map t3))/\ns.length<=63/\∀b,Q (.bl ai) b
abbrev Nr:List ap:=[yb,w_,zS,xS,yA,"_law_loads_here",AD,"_law_here","_law_due","_law_way","_law_paper","_law_found"]
theorem Cf:fY Nr [yb] (aC (vT 61)):=aX
theorem S7 {f:af} (g:G3 K mg "law" (vT 61) [yb] f fd) (B:Bl mg) (G:Z1 P w K mg base 4 "_law_drawn" (vT 46) [yb,CH,CD] W0) (D:Z1 P w K mg base 1 "_law_loads" (vT 44) [w_,zS] Sy) (O:Z1 P w K mg base 1 "_law_moved" (vT 47) [w_,yA] W3) (S:Z1 P w K mg base 10 "_law_some" (vT 49) [w_,xS,AD,BE] (GJ 9)) (X:Z1 P w K mg base 4 "_law_made" (vT 60) [w_,xS,AD,"_law_less","_law_drop"] Nq) (x:Z1 P w K mg base 8 "is_paper" (vT 35) ["works","beat","many","paper"] Wv):lz P w K mg base 12 f fd [yb] zA:=by
 refine GS g.fn Cf (λts H Q h=>?_) (λcdv A QE s H E ts H3 Q hr h=>?_)
 .obtain⟨a,ns,rfl,_⟩:=h;rfl
 have I:=zc.u30 hr;obtain⟨a,ns,rfl,ha,h63,k⟩:=h;refine⟨_,(aj (iH (aN G hr rfl (aa wh (aa ao (aa ao ak)))) (bU (n:=4) rfl (aG (aB 1 Cf.nd) (aG (aB 2 Cf.nd) (aG (aB 3 Cf.nd) (aG (aB 4 Cf.nd) bC))))))
   (aj (aD 5 Cf.nd (aN D hr rfl (aa wm (aa w4 ak))))
   (aj (aD 1 Cf.nd (aN O hr rfl (aa wm (aa (aF bu xk ao) ak))))
   (aj (bh G_ rfl (bA (aY (aa (aM bZ rfl B.len_ cg (aa (aJ wt wm ao) ak)) (aa (aF aW (aF bu xk ao) (aF aZ (aM bZ rfl B.len_ cg (aa (aJ wt wm ao) ak)) ao)) ak)))) (aB 6 Cf.nd) (au (bh G_ rfl (bA (aY (aa xa (aa (aM (yf rfl) rfl B.max_ jC (aa ao (aa (aF fG (aM (jN rfl) rfl B.max_ jC (aa xA ak)) ao) ak))) ak)))) (aB 7 Cf.nd) (aj (aD 8 Cf.nd (Cv (aN S hr rfl (aa wm (aa y7 (aa y6 (aa (aY ak) ak)))))))
     (au (bh G_ rfl (bN rfl B.range_ (aa ao ak)) (aB 9 Cf.nd) (aj (aD 10 Cf.nd (aN X hr rfl (aa wm (aa y7 (aa y6 (aa (di (bR I) (aF aW (aF aZ xk AN) ao) ao) (aa (mJ (Cv AC) (mH (di (bR I) (aF aW (aF bu xk ao) ao) ao))) ak)))))))
      (aj (aD 11 Cf.nd (aN x hr rfl (aa wm (aa y7 (aa y6 (aa (v3 10) ak))))))
      (au (bc (yk.pt (jq (fC (cH (aM PP rfl B.isinstance_ oJ (aa (v3 11) (aa (UG rfl B.bool_ Jg) ak))))) (ik (aO (gF I) (v3 11) AC)))) (au (aK cG)) aL))))))))))
   (au (aK cG)))))),?_⟩
 walk_at "q";walk_at "h";have k':=t6.mk k;clear k;walk_at "s";refine⟨a,ns,5,4,rfl,ha,h63,vS,vS,vS,vS,λW sts d8 c hW hw5 _ hf hb p hp=>?_⟩;have hfl:=hf.l;have hft:=hf.lt;have J:=t6.mk hW;try walk_at ""
 have gp:eH H3 p (.lst (sts.map λ(s:Nat)=>t3 (s:Int))) p=ab (.lst (sts.map λ(s:Nat)=>t3 (s:Int))):=aq;generalize eH H3 p (.lst (sts.map λ(s:Nat)=>t3 (s:Int)))=H5 at gp |-;clear hW hf hp ha h63;walk_at "t";walk_at "n";walk_at "s";refine⟨W,p,sts,rfl,J.out,gp,hfl,hft,λpl hpl=>?_⟩;try dsimp only
 have gl:eH H5 pl (.lst ((Cc W sts).map t3)) pl=ab (.lst ((Cc W sts).map t3)):=aq;have hll:=zj W sts;have hlr:=J.out.r1;generalize Cc W sts=ld at *;generalize eH H5 pl (.lst (ld.map t3))=H6 at gl |-;clear gp hfl hft hpl;walk_at "n";walk_at "s";refine⟨by first | trivial | exact⟨vS,xo⟩,W,c / 16,rfl,J.out,λr hr1 hr2=>?_⟩;have hV:=SM J.out hr1 hr2;try dsimp only
 have hvr:(⟨W.tasks,W.orders,W.pairs,r⟩:Wk).row.length=W.row.length:=hr1;have h32:vF (⟨W.tasks,W.orders,W.pairs,r⟩:Wk)<=32:=IQ (n:=2) (j:=5) vS (by show W.tasks.length<=5;omega);generalize (⟨W.tasks,W.orders,W.pairs,r⟩:Wk)=V at hV hvr h32 |-;rw[<- hvr] at hll hlr;clear hr1 hr2 J hvr;have y:=hV.r8;have t:=t6.mk hV;clear hV;walk_at "n";refine aA λR3 hR3=>?_;have cm0:=Yy (c / 8) (show ((V.row.length:Int)+1)≠0 by omega);have cm1:=Q_ (c / 8) (show (0:Int)<(V.row.length:Int)+1 by omega);obtain⟨j,hj⟩:∃j:Nat,c / 8%((V.row.length:Int)+1)=(j:Int):=⟨(c / 8%((V.row.length:Int)+1)).toNat,uS⟩;walk_at "";refine⟨⟨vS,vS⟩,uS,vS,λp1 hp1=>?_⟩;have eL:[t3 (V.row.length:Int),t3 (j:Int)]=([V.row.length,j]:List Nat).map ni:=rfl;rw[eL];have hL:∀z∈([V.row.length,j]:List Nat),z<=V.row.length:=λz hz=>by simp only[y_,YJ,AJ] at hz;rcases hz with rfl | rfl <;> omega
 generalize ([V.row.length,j]:List Nat)=L at hL |-;have hL':=t6.mk hL;have gL:eH H6 p1 (.lst (L.map ni)) p1=ab (.lst (L.map ni)):=aq;have gl7:=(eG.new (o:=.lst (L.map ni)) hp1) _ _ gl;generalize eH H6 p1 (.lst (L.map ni))=H7 at gL gl7 |-;clear eL hL cm0 cm1 hj hp1 gl;refine aU ni L (λA Z H=>∃(v6 C y u d q:Option T),Z=[ab (.ref a),ab V.enc,ab (.ref p),ab (.int d8),ab (.int c),ab (.ref pl),v6,C,y,u,d,q]/\eG H7 H) ⟨_,_,_,_,_,_,rfl,eG.refl⟩ ?_ ?_
 .rintro Z H ⟨v6,C,y,u,d,q,rfl,v⟩;refine⟨.inl (v _ _ gL),?_⟩;walk_at "n";walk_at "";exact n7.of eG.refl (k'.out _)
 rintro A m B Z H N e ⟨v6,C,y,u,d,q,rfl,v⟩ hN;refine⟨.inl (v _ _ gL),?_⟩;have Y:m<=V.row.length:=hL'.out m (by rw[e];simp);have hN':t6 (∀C y u d q R,eG H R->N [ab (.ref a),ab V.enc,ab (.ref p),ab (.int d8),ab (.int c),ab (.ref pl),ab (.int (m:Int)),C,y,u,d,q] R):=⟨λC y u d q R h=>hN _ _ ⟨_,C,y,u,d,q,rfl,v.trans h⟩⟩;have gl:=v _ _ gl7;have is:=fU ld;have hne:¬ld=[]:=λz=>by rw[z,YM] at hll;omega
 clear hN e hR3 hL' gl7 gL v;simp only[ni];walk_at "";refine⟨wo,λM hM _=>⟨vS,λp2 hp2=>?_⟩⟩;have eB:[t3 d8,t3 (if M - 1>0 then M - 1 else 0)]=([d8,if M - 1>0 then M - 1 else 0]:List Int).map t3:=rfl;rw[eB];have hB:∀z∈([d8,if M - 1>0 then M - 1 else 0]:List Int),0<=z:=λz hz=>by
  simp only[y_,YJ,AJ] at hz;rcases hz with rfl | rfl
  .exact hb
  split <;> omega
 generalize ([d8,if M - 1>0 then M - 1 else 0]:List Int)=bs at hB |-;have hB':=t6.mk hB;have gB:eH H p2 (.lst (bs.map t3)) p2=ab (.lst (bs.map t3)):=aq;have sb8:eG H (eH H p2 (.lst (bs.map t3))):=eG.new hp2;generalize eH H p2 (.lst (bs.map t3))=H8 at gB sb8 |-;clear eB hB hp2 hM hne is gl;refine aU t3 bs (λA Z R=>∃(C y u d q:Option T),Z=[ab (.ref a),ab V.enc,ab (.ref p),ab (.int d8),ab (.int c),ab (.ref pl),ab (.int (m:Int)),C,y,u,d,q]/\eG H8 R) ⟨_,_,_,_,_,rfl,eG.refl⟩ ?_ ?_
 .rintro Z R ⟨C,y,u,d,q,rfl,v⟩;exact⟨.inl (v _ _ gB),hN'.out _ _ _ _ _ _ (sb8.trans v)⟩
 rintro A2 b B2 Z R N2 e2 ⟨C,y,u,d,q,rfl,v⟩ QU;refine⟨.inl (v _ _ gB),?_⟩;have hb0:0<=b:=hB'.out b (by rw[e2];simp);have hN3:t6 (∀y u d q H'',eG R H''->N2 [ab (.ref a),ab V.enc,ab (.ref p),ab (.int d8),ab (.int c),ab (.ref pl),ab (.int (m:Int)),ab (.int b),y,u,d,q] H''):=⟨λy u d q H'' h=>QU _ _ ⟨_,y,u,d,q,rfl,v.trans h⟩⟩;clear QU e2 hN' hB' gB sb8;walk_at "s";refine⟨vS,λp3 hp3=>zr (ps:=[]) t.out Y aq (Y5 _) (by have:=t.out.t8;show V.tasks.length<=0+8;omega) λsm hsm=>?_⟩;have s3:eG R (eH R p3 (.lst [])):=eG.new hp3;try dsimp only
 generalize eH R p3 (.lst [])=H9 at s3 |-;rw[GQ t.out Y hb0] at hsm;rw[dw];clear hp3;walk_at "n";walk_at "";refine⟨wo,vS,vS,?_⟩;rw[show cw 2=2 from rfl,iT];refine aU (λ(i:Nat)=>t3 (i:Int)) (ax 2) (λA3 Z H2=>∃(u d q:Option T),Z=[ab (.ref a),ab V.enc,ab (.ref p),ab (.int d8),ab (.int c),ab (.ref pl),ab (.int (m:Int)),ab (.int b),ab (.bl (!sm)),u,d,q]/\eG H9 H2) ⟨_,_,_,rfl,eG.refl⟩ ?_ ?_
 .rintro Z H2 ⟨u,d,q,rfl,v⟩;exact⟨wo,hN3.out _ _ _ _ _ (s3.trans v)⟩
 rintro A3 i B3 Z H2 N4 e4 ⟨u,d,q,rfl,v⟩ hN4;walk_at "t";have U:t6 (∀u d q,N4 [ab (.ref a),ab V.enc,ab (.ref p),ab (.int d8),ab (.int c),ab (.ref pl),ab (.int (m:Int)),ab (.int b),ab (.bl (!sm)),u,d,q] H2):=⟨λu d q=>hN4 _ _ ⟨u,d,q,rfl,v⟩⟩;clear hN4 e4 hN3 s3 v;have dl:=t6.mk hsm;clear hsm;refine aA λR5 hR5=>?_;cases sm with
 |true =>
  walk_at "";refine⟨vS,⟨vS,vS⟩,vS,V,b,m,decide ((c+(i:Int))%2=1),decide (c / 2%2=1),rfl,t.out,h32,Y,?_⟩;generalize decide ((c+(i:Int))%2=1)=less;generalize decide (c / 2%2=1)=drop;have ok:=Nh (W:=V) (d8:=b) (many:=m) (less:=less) (drop:=drop) t.out (n:=m+1);have ln:=nJ (W:=V) (d8:=b) (many:=m) (less:=less) (drop:=drop) t.out (m+1);have e:DE V b m (At V b m less drop (m+1))=am:=by
   cases h:DE V b m (At V b m less drop (m+1)) with
   |false=>rfl
   |true=>exact wT (dl.out.mp rfl) (Wm t.out hb0 Y ok h)
  generalize At V b m less drop (m+1)=cs at *;try dsimp only
  walk_at "n";have F:=t6.mk ok;clear ok dl;walk_at "";refine⟨V,b,m,cs,rfl,t.out,Y,F.out,uS,?_⟩;rw[e];have hf:=U.out;clear e U k' F;show N4 _ _;exact hf _ _ _
 |false =>
 walk_at "";refine⟨vS,V,b,m,decide ((c+(i:Int))%2=1),am,rfl,t.out,h32,Y,?_⟩;generalize decide ((c+(i:Int))%2=1)=less;have ok:=Nh (W:=V) (d8:=b) (many:=m) (less:=less) (drop:=am) t.out (n:=m+1);have ln:=nJ (W:=V) (d8:=b) (many:=m) (less:=less) (drop:=am) t.out (m+1);have e:DE V b m (At V b m less am (m+1))=ai:=GK t.out Y hb0 λz=>nomatch dl.out.mpr z;generalize At V b m less am (m+1)=cs at *;try dsimp only
 walk_at "n";have F:=t6.mk ok;clear ok dl;walk_at "";refine⟨V,b,m,cs,rfl,t.out,Y,F.out,uS,?_⟩;rw[e];have hf:=U.out;clear e U k' F;show N4 _ _;exact hf _ _ _
def S8:xi:=λts H Q=>∃W:Wk,ts=[W.enc]/\nW W/\∀p,H p=ag->Q (.ref p) (eH H p (.lst ((D3 ["with"] W).map xw)))
def S9:xi:=λts H Q=>∃(x:T) (L:List (ap × ap)) (s:ap),ts=[x,.str s]/\((∃a,x=.ref a/\H a=ab (.lst (L.map xw)))\/x=.tup (L.map xw))/\L.length<=100 /\
 ∀(p:af) (kvs:List (ap × T)),H p=ag->(∀z,(aR z kvs).isSome=ai↔RT (λa b=>(a,b)∈L) s z)->Q (.ref p) (eH H p (.dct kvs))
def Tc:xi:=λts H Q=>∃(W:Wk) (t:ap),ts=[W.enc,.str t]/\nW W/\∀(p:af) (kvs:List (ap × T)),H p=ag->(∀z,(aR z kvs).isSome=ai↔RT (zl ["with"] W) t z)->Q (.ref p) (eH H p (.dct kvs))
def Td:xi:=λts H Q=>∃(W:Wk) (t:ap),ts=[W.enc,.str t]/\nW W/\∀(p:af) (kvs:List (ap × T)),H p=ag->(∀z,(aR z kvs).isSome=ai↔RT (zl ["with"] W) z t)->Q (.ref p) (eH H p (.dct kvs))
def W7:xi:=λts H Q=>∃(W:Wk) (a b:af) (d c:List (ap × T)),ts=[W.enc,.ref a,.ref b]/\nW W/\H a=ab (.dct d)/\H b=ab (.dct c)/\Q (sT ((W.tasks.map (·.1)).filter λx=>(aR x d).isSome&&(aR x c).isSome)) H
def W8:xi:=λts H Q=>∃(W:Wk) (a b:af) (d c:List (ap × T)),ts=[W.enc,.ref a,.ref b]/\nW W/\H a=ab (.dct d)/\H b=ab (.dct c)/\Q (sT ((W.tasks.map (·.1)).filter λx=>(aR x d).isSome&&!(aR x c).isSome)) H
def W9:xi:=λts H Q=>∃(W:Wk) (t:ap),ts=[W.enc,.str t]/\nW W/\Q (sT (bf W t)) H
def Xa:xi:=λts H Q=>∃(W:Wk) (t:ap),ts=[W.enc,.str t]/\nW W/\Q (sT (dz W t)) H
abbrev nM:List ap:=["works","links","word","one","other"]
theorem Iq:fY nM ["works"] (aC (vT 2)):=aX
theorem uL {f:af} (g:G3 K mg "links_of" (vT 2) ["works"] f x) (B:Bl mg):Z1 P w K mg base 1 "links_of" (vT 2) ["works"] S8:=by
 refine c6 g Iq ?_;rintro _ A _ _ H _ _ H3 _ L ⟨⟨tk,c,xE,j⟩,rfl,v,k⟩;have l:=zc.u30 L;refine⟨_,(aj (aD 1 Iq.nd (bG xX rfl B.list_ qF (aa (aJ wt wh ao) ak)))
   (aj (bh G_ rfl (cD (aJ wt wh ao)) (bU (n:=3) rfl (aG (aB 2 Iq.nd) (aG (aB 3 Iq.nd) (aG (aB 4 Iq.nd) bC)))) (au (bc (aO (bR l) w4 cZ) (aj (bK (dj I_ M_ N_ bx wm (aa (bB (aa xa (aa xk ak))) ak)))
     (au (bK (dj I_ M_ N_ bx wm (aa (bB (aa xk (aa xa ak))) ak))))) aL)))
   (au (aK wm)))),?_⟩
 walk_at "q";walk_at "h";have D:c.length<=28:=v.os;have y:xE.length<=12:=v.ps;walk_at "";intro p J;refine aU ya xE (λA Z H=>∃(u v3 m:Option T),Z=[ab (t5 [t5 (tk.map xp),t5 (c.map xw),t5 (xE.map ya),t5 (j.map t4)]),ab (.ref p),u,v3,m]/\H=eH H3 p (.lst ((c++A.flatMap (AF ["with"])).map xw))) ⟨ag,ag,ag,rfl,wn⟩ ?_ ?_
 .rintro Z H ⟨u,v3,m,rfl,rfl⟩;walk_at "t";walk_at "";exact n7.of eG.refl (k p J)
 rintro A ⟨w,a,b⟩ B Z H N e ⟨u,v3,m,rfl,rfl⟩ z;have G:=qR ["with"] A;have M:A.length<=12:=by have:=YB a5 e;simp only[b_,n_] at this;omega
 have o:(c++A.flatMap (AF ["with"])).length<=52:=by rw[b_];omega
 have d:N [ab (t5 [t5 (tk.map xp),t5 (c.map xw),t5 (xE.map ya),t5 (j.map t4)]),ab (.ref p),ab (.str w),ab (.str a),ab (.str b)] (eH H3 p (.lst ((c++A.flatMap (AF ["with"])).map xw++(AF ["with"] (w,a,b)).map xw))):=z _ _ ⟨_,_,_,rfl,by rw[Fn,<- ZR,B_];simp⟩;generalize c++A.flatMap (AF ["with"])=F at d o;replace d:=t6.mk d;walk_at "t";clear z e k v G;simp only[ya];walk_at "";walk_at "t";by_cases q:w="with"
 .subst q;have t:AF ["with"] ("with",a,b)=[(a,b),(b,a)]:=by unfold AF;simp
  rw[t] at d;try simp only[ZV,if_true]
  refine⟨⟨wo,wo⟩,uS,uS,⟨wo,wo⟩,uS,by simp;omega,?_⟩;have C:=d.out;simp only[J_,ZX,xw] at C;rw[ZR];exact C
 have t:AF ["with"] (w,a,b)=[]:=by unfold AF;simp [q]
 rw[t,ZX,YH] at d;simp only[q,Zd,v_,V_];exact d.out
abbrev pW:List ap:=["links","start","found","grown","one","other"]
theorem E7:fY pW ["links","start"] (aC (vT 3)):=aX
theorem wR {f:af} (g:G3 K mg "reached" (vT 3) ["links","start"] f fd) (B:Bl mg):Z1 P w K mg base 1 "reached" (vT 3) ["links","start"] S9:=by
 refine c6 g E7 ?_;rintro _ A _ _ H _ _ H3 _ hr ⟨x,L,t,rfl,hx,hL,k⟩;have M:=zc.u1 hr;refine⟨_,(aj (aD 2 E7.nd (Dw wm cG))
   (aj (aD 3 E7.nd cG)
   (aj (jL G_ (cH xa) (aj (aD 3 E7.nd cG)
    (au (bh G_ rfl (Jt 0) (bU (n:=2) rfl (aG (aB 4 E7.nd) (aG (aB 5 E7.nd) bC))) (au (bc (yk.pt (cW (iM M xk w4) (cL (pG M xA w4)))) (aj (jM M w4 xA cG)
      (au (aD 3 E7.nd cG))) aL))))))
   (au (aK w4))))),?_⟩
 walk_at "q";walk_at "h";walk_at "";intro p hp;walk_at "t";rw[Rq];refine⟨λm Z H=>∃(F:List ap) (g:Bool) (C J:Option T),Z=[ab x,ab (.str t),ab (.ref p),ab (.bl g),C,J]/\H=eH H3 p (.dct (dF F))/\t∈F/\F.Nodup/\(∀z∈F,RT (λa b=>(a,b)∈L) t z)/\(g=am->∀a b,(a,b)∈L->a∈F->b∈F)/\m=2*(L.length+1 - F.length)+(if g then 1 else 0),
  ⟨_,[t],ai,ag,ag,rfl,rfl,A_,wn,(λz D=>by rw[j_.mp D];exact .refl),(λz=>nomatch z),rfl⟩,?_⟩
 have d:∀F:List ap,F.Nodup->(∀z∈F,RT (λa b=>(a,b)∈L) t z)->F.length<=L.length+1:=λF X hF=>by
  have:=m6 (l:=F) (m:=t::L.map (·.2)) X λz D=>by
   cases hF z D with
   |refl=>exact A_
   |step _ r=>exact z_ _ (o_.mpr ⟨_,r,rfl⟩)
  simpa using this
 rintro m Z H ⟨F,g,C,J,rfl,rfl,hs,X,hR,hg,rfl⟩;walk_at "";cases g with
 |false=>simp only[v_,V_];refine n7.of eG.refl (k p _ hp λz=>?_);rw[lR,h_];exact⟨hR z,λh=>Wa hs (hg rfl) h⟩
 |true =>
  try simp only[if_true]
  have Y:(∃a,x=.ref a/\eH H3 p (.dct (dF F)) a=ab (.lst (L.map xw)))\/x=.tup (L.map xw):=by
   rcases hx with ⟨a,rfl,e⟩ | e
   ·
    exact .inl ⟨a,rfl,by rw[aH (bF e hp)];exact e⟩
   ·
    exact .inr e
  refine Fw Y λstill V=>?_
  have v:∀c,still (eH H3 p (.dct (dF c))):=by
   rcases V with rfl | ⟨a,rfl,e⟩
   ·
    exact λ_=>trivial
   ·
    have R:a≠p:=λz=>by subst z;rw[aq] at e;cases e
    rw[aH R] at e
    exact λc=>.inl (by rw[aH R];exact e)
  refine aU xw L (λA Z H=>∃(c:List ap) (g':Bool) (C J:Option T),Z=[ab x,ab (.str t),ab (.ref p),ab (.bl g'),C,J]/\H=eH H3 p (.dct (dF c))/\t∈c/\c.Nodup/\(∀z∈c,RT (λa b=>(a,b)∈L) t z)/\(g'=am->c=F/\∀o∈A,o.1∈F->o.2∈F)/\(g'=ai->F.length<c.length)) ⟨F,am,C,J,rfl,rfl,hs,X,hR,λ_=>⟨rfl,(λ_ h=>nomatch h)⟩,(λz=>nomatch z)⟩ ?_ ?_
  ·
   rintro Z H ⟨c,g',C,J,rfl,rfl,u,q,j,U,W⟩
   refine⟨v c,?_⟩
   have b1:=d F X hR
   have b2:=d c q j
   cases g' with
   |true =>
    have:=W rfl
    exact⟨_,by simp only[if_true];omega,c,ai,C,J,rfl,rfl,u,q,j,(λz=>nomatch z),rfl⟩
   |false =>
    obtain⟨e,hc⟩:=U rfl
    subst e
    exact⟨_,wn,c,am,C,J,rfl,rfl,u,q,j,λ_ a b I y=>hc (a,b) I y,rfl⟩
  ·
   rintro A ⟨a,b⟩ B Z H N e ⟨c,g',C,J,rfl,rfl,u,q,j,U,W⟩ hN
   refine⟨v c,?_⟩
   have I:(a,b)∈L:=by rw[e];simp
   have b2:=d c q j
   have l1:=lR a c
   have l2:=lR b c
   have l3:=Rp c
   have no:¬(a∈c/\b∉c)->N [ab x,ab (.str t),ab (.ref p),ab (.bl g'),ab (.str a),ab (.str b)] (eH H3 p (.dct (dF c))):=λhno=>hN _ _ ⟨c,g',_,_,rfl,rfl,u,q,j,λhg'=>by
    obtain⟨e1,hc⟩:=U hg'
    subst e1
    refine⟨rfl,λo S=>?_⟩
    rcases q_.mp S with S | S
    ·
     exact hc o S
    ·
     rw[j_.mp S]
     intro y
     exact II λG=>hno ⟨y,G⟩,W⟩
   have O:a∈c->b∉c->N [ab x,ab (.str t),ab (.ref p),ab (.bl ai),ab (.str a),ab (.str b)] (eH H3 p (.dct (xL b (T.bl ai) (dF c)))):=λy G=>by
    rw[Ro G]
    refine hN _ _ ⟨c++[b],ai,_,_,rfl,rfl,YC _ u,gD q G,λz D=>?_,(λz=>nomatch z),λ_=>?_⟩
    ·
     rcases q_.mp D with D | D
     ·
      exact j z D
     ·
      rw[j_.mp D]
      exact .step (j a y) I
    ·
     rw[b_,t_]
     cases g' with
     |true=>have:=W rfl;omega
     |false=>obtain⟨e1,_⟩:=U rfl;subst e1;omega
   replace no:=t6.mk no
   replace O:=t6.mk O
   clear hN U W v V d k hx Y hg hR j X q hs u e I
   simp only[xw]
   walk_at ""
   walk_at "t"
   by_cases y:a∈c
   ·
    simp only[y,ZV,if_true]
    by_cases G:b∈c
    ·
     simp only[G,ZV,Zy,v_,V_]
     exact no.out λz=>z.2 G
    ·
     simp only[G,Zd,DS,if_true]
     exact⟨uS,O.out y G⟩
   ·
    simp only[y,Zd,v_,V_]
    exact no.out λz=>y z.1
abbrev iZ:List ap:=["works","task"]
theorem Bb:fY iZ iZ (aC (vT 4)):=aX
theorem Bc {f:af} (g:G3 K mg "led_to" (vT 4) iZ f j) (B:Bl mg) (c:Z1 P w K mg base 1 "reached" (vT 3) ["links","start"] S9) (b:Z1 P w K mg base 1 "links_of" (vT 2) ["works"] S8):Z1 P w K mg base 2 "led_to" (vT 4) iZ Tc:=by
 refine c6 g Bb ?_;rintro _ _ _ _ _ _ _ _ _ l ⟨W,t,rfl,m,k⟩;refine⟨_,(au (aK (aN c l rfl (aa (aN b l rfl (aa wh ak)) (aa wm ak))))),?_⟩;walk_at "q";walk_at "";refine⟨W,rfl,m,λq n=>?_⟩;try dsimp only
 refine⟨_,D3 ["with"] W,t,rfl,.inl ⟨q,rfl,aq⟩,R_ (yG m) vS,λp kvs d u=>?_⟩;obtain⟨v,d⟩:=cU d;refine n7.of (λa o e=>?_) (k p kvs d u);by_cases h:a=p
 .subst h;rw[aq] at e |-;exact e
 rw[aH h] at e |-;rw[aH (bF e n)];exact e
abbrev eQ:List ap:=["works","task"]
theorem uM:fY eQ eQ (aC (vT 5)):=aX
theorem uN {f:af} (g:G3 K mg "led_from" (vT 5) eQ f D) (B:Bl mg) (d:Z1 P w K mg base 1 "reached" (vT 3) ["links","start"] S9) (c:Z1 P w K mg base 1 "links_of" (vT 2) ["works"] S8):Z1 P w K mg base 2 "led_from" (vT 5) eQ Td:=by
 refine c6 g uM ?_;rintro _ A _ s H _ _ H3 _ m ⟨W,t,rfl,G,k⟩;refine⟨_,(au (aK (aN d m rfl (aa (bD rfl (b6 5 eQ ["one","other"] 2 []) (bA (aN c m rfl (aa wh ak))) (λS I s H O X=>⟨(bU (n:=2) rfl (aG (aB 0 (n5 ["one","other"])) (aG (aB 1 (n5 ["one","other"])) bC))),bY,(bB (aa wm (aa wh ak)))⟩)) (aa wm ak))))),?_⟩;walk_at "q";walk_at "h";have R:=yG (ws:=["with"]) G;walk_at "";refine⟨W,rfl,G,λq J=>?_⟩;try dsimp only
 rw[yc,aq,pC];walk_at "c";refine gP xw (D3 ["with"] W) (λA C Z H=>H=eH H3 q (.lst ((D3 ["with"] W).map xw))/\C=(A.map IX).map xw/\∃x u:Option T,Z=[x,u]) ⟨rfl,rfl,ag,ag,rfl⟩ ?_ ?_
 .rintro C Z H ⟨rfl,rfl,x,u,rfl⟩;refine⟨.inl aq,by rw[g_,g_];omega,λr m=>?_⟩;obtain⟨n0,y⟩:=cU m;refine⟨_,(D3 ["with"] W).map IX,t,rfl,.inl ⟨r,rfl,aq⟩,by rw[g_];omega,λp kvs l M=>?_⟩;obtain⟨V,l⟩:=cU l;obtain⟨Y,l⟩:=cU l;refine n7.of (λa o e=>?_) (k p kvs l λz=>(M z).trans Rr);by_cases h:a=p
  .subst h;rw[aq] at e |-;exact e
  rw[aH h] at e |-;rw[aH (bF e y),aH (bF e J)];exact e
 rintro A ⟨a,b⟩ B C Z H N e ⟨rfl,rfl,x,u,rfl⟩ F;have U:A.length<=52:=by have:=YB a5 e;simp only[b_,n_] at this;omega
 refine⟨.inl aq,?_⟩;have j:=F (((A.map IX).map xw)++[xw (b,a)]) [ab (.str a),ab (.str b)] _ ⟨rfl,by rw[B_,B_];rfl,_,_,rfl⟩;replace j:=t6.mk j;clear F k e;simp only[xw] at j |-;walk_at "";exact⟨wo,uS,uS,j.out⟩
abbrev fV:List ap:=["works","found","other"]
theorem wU:fY fV fV (aC (vT 6)):=aX
theorem wV {f:af} (g:G3 K mg "in_both" (vT 6) fV f q) (B:Bl mg):Z1 P w K mg base 1 "in_both" (vT 6) fV W7:=by
 refine c6 g wU ?_;rintro _ _ _ s H _ _ _ _ J ⟨⟨tk,m,xE,j⟩,a,b,d,c,rfl,G,U,L,k⟩;have l:=zc.u1 J;refine⟨_,(au (aK (bG cR rfl B.tuple_ cT (aa (bD rfl (b6 6 fV ["task","found","other"] 1 [1,2]) (cD (aJ wt wh ao)) (λO r s H M S=>⟨(aB 0 (n5 ["task","found","other"])),(dJ (yk.pt (cW (iM l (aJ wt wh ao) wm) (cL (iM l (aJ wt wh ao) w4))))),(aJ wt wh ao)⟩)) ak)))),?_⟩;walk_at "q";walk_at "h";have R:tk.length<=8:=G.t8;walk_at "";walk_at "c";refine cN xp (λt=>t4 t.1) (λt=>(aR t.1 d).isSome&&(aR t.1 c).isSome) tk [ab (.ref a),ab (.ref b)] trivial uS (λt v C n=>?_) (λt v I C n=>?_) (λp D=>?_)
 .obtain⟨nm,u,ks⟩:=t;simp only[xp];dsimp only at n;cases F:(aR nm d).isSome <;> cases y:(aR nm c).isSome <;> simp only[F,y,ms,lf,Zy,DS,Y7,Zu] at n <;> walk_at ""
 .simp only[xp];walk_at "";try exact n
 walk_at "";refine n7.of (eG.new D) ?_;have e:(tk.filter λt=>(aR t.1 d).isSome&&(aR t.1 c).isSome).map (λt=>t4 t.1)=((tk.map (·.1)).filter λx=>(aR x d).isSome&&(aR x c).isSome).map t4:=by rw[kA,W_];rfl
 rw[e];exact k
abbrev dU:List ap:=["works","task"]
theorem uO:fY dU dU (aC (vT 8)):=aX
theorem uP {f:af} (g:G3 K mg "group_of" (vT 8) dU f u) (B:Bl mg) (c:Z1 P w K mg base 1 "in_both" (vT 6) ["works","found","other"] W7) (d:Z1 P w K mg base 2 "led_to" (vT 4) dU Tc) (b:Z1 P w K mg base 2 "led_from" (vT 5) dU Td):Z1 P w K mg base 3 "group_of" (vT 8) dU W9:=by
 refine c6 g uO ?_;rintro _ _ _ _ _ _ _ _ _ m ⟨W,t,rfl,n,k⟩;refine⟨_,(au (aK (aN c m rfl (aa wh (aa (aN d m rfl (aa wh (aa wm ak))) (aa (aN b m rfl (aa wh (aa wm ak))) ak)))))),?_⟩;walk_at "q";walk_at "";refine⟨W,t,rfl,n,λp y z j=>?_⟩;try dsimp only
 refine⟨W,t,rfl,n,λq v D l=>?_⟩;obtain⟨C,i⟩:=cU D;try dsimp only
 refine⟨W,p,q,y,v,rfl,n,by rw[aH (a7 C)];exact aq,aq,?_⟩;refine n7.of (λa o e=>by rw[aH (bF e i),aH (bF e z)];exact e) ?_;rw[show (W.tasks.map (·.1)).filter (λx=>(aR x y).isSome&&(aR x v).isSome)=bf W t from ?_]
 .exact k
 unfold bf;refine Zr λx G=>?_;rw[Yx,H_,@h_ _ (ae _),j x,l x]
abbrev cC:List ap:=["works","found","other"]
theorem jZ:fY cC cC (aC (vT 7)):=aX
theorem j0 {f:af} (g:G3 K mg "in_first_alone" (vT 7) cC f q) (B:Bl mg):Z1 P w K mg base 1 "in_first_alone" (vT 7) cC W8:=by
 refine c6 g jZ ?_;rintro _ _ _ s H _ _ _ _ J ⟨⟨tk,m,xE,j⟩,a,b,d,c,rfl,G,U,L,k⟩;have l:=zc.u1 J;refine⟨_,(au (aK (bG cR rfl B.tuple_ cT (aa (bD rfl (b6 7 cC ["task","found","other"] 1 [1,2]) (cD (aJ wt wh ao)) (λO r s H M S=>⟨(aB 0 (n5 ["task","found","other"])),(dJ (yk.pt (cW (iM l (aJ wt wh ao) wm) (cL (pG l (aJ wt wh ao) w4))))),(aJ wt wh ao)⟩)) ak)))),?_⟩;walk_at "q";walk_at "h";have R:tk.length<=8:=G.t8;walk_at "";walk_at "c";refine cN xp (λt=>t4 t.1) (λt=>(aR t.1 d).isSome&&!(aR t.1 c).isSome) tk [ab (.ref a),ab (.ref b)] trivial uS (λt v C n=>?_) (λt v I C n=>?_) (λp D=>?_)
 .obtain⟨nm,u,ks⟩:=t;simp only[xp];dsimp only at n;cases F:(aR nm d).isSome <;> cases y:(aR nm c).isSome <;> simp only[F,y,ms,lf,Zy,DS,Y7,Zu] at n <;> walk_at ""
 .simp only[xp];walk_at "";try exact n
 walk_at "";refine n7.of (eG.new D) ?_;have e:(tk.filter λt=>(aR t.1 d).isSome&&!(aR t.1 c).isSome).map (λt=>t4 t.1)=((tk.map (·.1)).filter λx=>(aR x d).isSome&&!(aR x c).isSome).map t4:=by rw[kA,W_];rfl
 rw[e];exact k
abbrev dW:List ap:=["works","task"]
theorem uQ:fY dW dW (aC (vT 9)):=aX
theorem uR {f:af} (g:G3 K mg "ahead_of" (vT 9) dW f u) (B:Bl mg) (b:Z1 P w K mg base 1 "in_first_alone" (vT 7) ["works","found","other"] W8) (c:Z1 P w K mg base 2 "led_from" (vT 5) dW Td) (d:Z1 P w K mg base 2 "led_to" (vT 4) dW Tc):Z1 P w K mg base 3 "ahead_of" (vT 9) dW Xa:=by
 refine c6 g uQ ?_;rintro _ _ _ _ _ _ _ _ _ m ⟨W,t,rfl,n,k⟩;refine⟨_,(au (aK (aN b m rfl (aa wh (aa (aN c m rfl (aa wh (aa wm ak))) (aa (aN d m rfl (aa wh (aa wm ak))) ak)))))),?_⟩;walk_at "q";walk_at "";refine⟨W,t,rfl,n,λp v z j=>?_⟩;try dsimp only
 refine⟨W,t,rfl,n,λq y D l=>?_⟩;obtain⟨C,i⟩:=cU D;try dsimp only
 refine⟨W,p,q,v,y,rfl,n,by rw[aH (a7 C)];exact aq,aq,?_⟩;refine n7.of (λa o e=>by rw[aH (bF e i),aH (bF e z)];exact e) ?_;rw[show (W.tasks.map (·.1)).filter (λx=>(aR x v).isSome&&!(aR x y).isSome)=dz W t from ?_]
 .exact k
 unfold dz;refine Zr λx G=>?_;rw[Yx,H_,@h_ _ (ae _),j x,ZW,<- Bool.not_eq_true,l x]
def nO:xi:=λts H Q=>∃(W:Wk) (x:T) (a:List ap),ts=[W.enc,x]/\nW W/\Ru H x a/\Q (.int (vE (W.tasks.map (·.1)) a)) H
def GZ:xi:=λts H Q=>∃(W:Wk) (n:Int),ts=[W.enc,.int n]/\nW W/\0<=n/\n<2^W.tasks.length/\Q (sT (xc (W.tasks.map (·.1)) n)) H
def Nt:xi:=λts H Q=>∃(ks:List ap) (k:ap),ts=[sT ks,.str k]/\Q (.bl (iR ks k)) H
def pX:xi:=λts H Q=>∃a b:Int,ts=[.int a,.int b]/\Q (.bl (decide (a3 a b=b))) H
def Nu:xi:=λts H Q=>∃(W:Wk) (t:ap),ts=[W.enc,.str t]/\nW W/\∀p,H p=ag->Q (.ref p) (eH H p (.lst ((jm W t).map t4)))
def Nv:xi:=λts H Q=>∃W:Wk,ts=[W.enc]/\nW W/\∀p,H p=ag->Q (.ref p) (eH H p (.lst (W.tasks.map (zv W (W.tasks.map (·.1))))))
def Nx:xi:=λts H Q=>∃(W:Wk) (a:af) (d8:Int) (kind:ap) (D S:List ap),ts=[.ref a,.int d8,.str kind,.int (vE (W.tasks.map (·.1)) D),.int (vE (W.tasks.map (·.1)) S)]/\nW W/\H a=ab (.lst (W.tasks.map (zv W (W.tasks.map (·.1)))))/\Q (.bl (oM W d8 kind D S)) H
abbrev lG:List ap:=["works","tasks","number","worth","task"]
theorem F3:fY lG ["works","tasks"] (aC (vT 15)):=aX
theorem rm {f:af} (g:G3 K mg "number_of" (vT 15) ["works","tasks"] f m) (B:Bl mg):Z1 P w K mg base 1 "number_of" (vT 15) ["works","tasks"] nO:=by
 refine c6 g F3 ?_;rintro _ A _ _ H _ _ H3 _ z ⟨⟨tk,c,xE,b⟩,x,d,rfl,C,r,k⟩;have j:=zc.u31 z;refine⟨_,(aj (aD 2 F3.nd ao)
   (aj (aD 3 F3.nd ao)
   (aj (bh G_ rfl (cD (aJ wt wh ao)) (aB 4 F3.nd) (aj (bc (aO (iy j) (aJ wt xk ao) wm rfl) (au (aD 2 F3.nd (aF aZ w4 xa))) aL)
    (au (aD 3 F3.nd (aF c7 xa ao)))))
   (au (aK w4))))),?_⟩
 walk_at "q";walk_at "h";have F:tk.length<=8:=C.t8;walk_at "";refine aU xp tk (λA Z H=>∃v:Option T,H=H3/\Z=[ab (t5 [t5 (tk.map xp),t5 (c.map xw),t5 (xE.map ya),t5 (b.map t4)]),ab x,ab (.int (vE (A.map (·.1)) d)),ab (.int (2^A.length)),v]) ⟨ag,rfl,rfl⟩ ?_ ?_
 .rintro Z H ⟨v,rfl,rfl⟩;walk_at "t";walk_at "";exact n7.of eG.refl k
 rintro A t B Z H N e ⟨v,rfl,rfl⟩ p;have q:A.length+1<=8:=by have:=YB a5 e;simp only[b_,n_] at this;omega
 have D:0<(2:Int)^A.length/\(2:Int)^A.length<=256:=by
  have:A.length=0\/A.length=1\/A.length=2\/A.length=3\/A.length=4\/A.length=5\/A.length=6\/A.length=7:=by omega
  rcases this with e | e | e | e | e | e | e | e <;> rw[e] <;> decide
 have o:EV (2^A.length) 2:=.inl ⟨uS,uS⟩;have a:∀v,N [ab (t5 [t5 (tk.map xp),t5 (c.map xw),t5 (xE.map ya),t5 (b.map t4)]),ab x,ab (.int (vE (A.map (·.1)) d+2^A.length*(if t.1∈d then 1 else 0))),ab (.int (2^A.length*2)),v] H:=λv=>by have:=p [ab (t5 [t5 (tk.map xp),t5 (c.map xw),t5 (xE.map ya),t5 (b.map t4)]),ab x,ab (.int (vE ((A++[t]).map (·.1)) d)),ab (.int (2^(A++[t]).length)),v] H ⟨v,rfl,rfl⟩;rw[show (2:Int)^(A++[t]).length=2^A.length*2 by rw[b_,t_,E2],B_,J_,ZX,jE,g_] at this;exact this
 replace a:=t6.mk a;obtain⟨nm,u,ks⟩:=t;walk_at "t";clear p e k;simp only[xp,sT];walk_at "";refine yH r ?_;by_cases n:nm∈d
 .simp only[n,ZV,if_true,v_,V_,dw,lb] at a |-;exact⟨by first | trivial | exact o,a.out _⟩
 simp only[n,Zd,if_true,v_,V_,dw,og,F4] at a |-;exact⟨by first | trivial | exact o,a.out _⟩
abbrev dD:List ap:=["kinds","kind"]
theorem nP:fY dD dD (aC (vT 11)):=aX
theorem nQ {f:af} (g:G3 K mg "may_be_done" (vT 11) dD f e) (B:Bl mg):Z1 P w K mg base 1 "may_be_done" (vT 11) dD Nt:=by
 refine c6 g nP ?_;rintro _ _ _ _ _ _ _ _ _ i ⟨ks,a,rfl,k⟩;have c:=zc.u30 i;have b:=zc.u31 i;refine⟨_,(au (aK (Uv (di (bR c) (aM bZ rfl B.len_ cg (aa wh ak)) ao) (mH (di (iy b) wm wh rfl))))),?_⟩;rw[show aP dD [sT ks,t4 a]=[ab (t5 (ks.map t4)),ab (t4 a)] from rfl];have n:pl 20 (t4 a)=ai:=rfl;have l:=cz ks;have m:du am (t4 a) (ks.map t4)=decide (a∈ks):=by unfold du;have:(t4 a∈ks.map t4)↔a∈ks:=eX gG;simp only[this];simp
 walk_at "";unfold iR at k;cases ks with
 |nil=>simp only[ZV,ot,YM,if_true] at k |-;exact n7.of eG.refl k
 |cons y r =>
  have:¬(((r.length+1:Nat)):Int)=0:=by omega
  simp only[n_,this,Zd,v_,V_] at k |-
  exact⟨wo,wo,n7.of eG.refl (by simpa using k)⟩
abbrev gU:List ap:=["number","part"]
theorem wW:fY gU gU (aC (vT 20)):=aX
theorem wX {f:af} (g:G3 K mg "has_all" (vT 20) gU f e) (B:Bl mg):Z1 P w K mg base 1 "has_all" (vT 20) gU pX:=by
 refine c6 g wW ?_;rintro _ _ _ _ _ _ _ _ _ j ⟨a,b,rfl,k⟩;have c:=zc.u30 j;refine⟨_,(au (aK (di (bR c) (aF gK wh wm) wm))),?_⟩;walk_at "q";walk_at "";exact n7.of eG.refl k
abbrev dB:List ap:=["works","task"]
theorem oN:fY dB dB (aC (vT 18)):=aX
theorem oO {f:af} (g:G3 K mg "apart_from" (vT 18) dB f y) (B:Bl mg):Z1 P w K mg base 1 "apart_from" (vT 18) dB Nu:=by
 refine c6 g oN ?_;rintro _ A q s H _ _ H3 _ R ⟨⟨tk,m,xE,j⟩,t,rfl,O,k⟩;have c:=zc.u30 R;refine⟨_,(au (aK (bD rfl (b6 18 dB ["word","one","other","task"] 3 [1]) (cD (aJ wt wh ao)) (λV D s H S X=>⟨(bU (n:=3) rfl (aG (aB 0 (n5 ["word","one","other","task"])) (aG (aB 1 (n5 ["word","one","other","task"])) (aG (aB 2 (n5 ["word","one","other","task"])) bC)))),(dJ (yk.pt (cW (aO (bR c) wh cZ) (cL (aO (bR c) wm xa))))),w4⟩)))),?_⟩;walk_at "q";walk_at "h";have M:xE.length<=12:=O.ps;walk_at "";walk_at "c";refine gP ya xE (λA x Z H=>H=H3/\x=((A.filter λp=>decide (p.1=("apart":ap))&&decide (p.2.1=t)).map (·.2.2)).map t4/\∃u o v:Option T,Z=[u,o,v,ab (.str t)]) ⟨rfl,rfl,ag,ag,ag,rfl⟩ ?_ ?_
 .rintro x Z H ⟨rfl,rfl,u,o,v,rfl⟩;refine⟨wo,?_,λp J=>n7.of eG.refl (k p J)⟩;rw[g_,g_];exact R_ (YD _ _) uS
 rintro A ⟨w,a,b⟩ B x Z H N e ⟨rfl,rfl,u,o,v,rfl⟩ r;have I:A.length<=12:=by have:=YB a5 e;simp only[b_,n_] at this;omega
 have U:((A.filter λp=>decide (p.1=("apart":ap))&&decide (p.2.1=t)).map (·.2.2)).length<=12:=by rw[g_];exact R_ (YD _ _) I
 walk_at "t";have L:t6 (w="apart"/\a=t->N (((A.filter λp=>decide (p.1=("apart":ap))&&decide (p.2.1=t)).map (·.2.2)).map t4++[t4 b]) [ab (.str w),ab (.str a),ab (.str b),ab (.str t)] H):=⟨λh=>r _ _ _ ⟨rfl,by rw[Y_];simp [h],_,_,_,rfl⟩⟩;have C:t6 (¬(w="apart"/\a=t)->N (((A.filter λp=>decide (p.1=("apart":ap))&&decide (p.2.1=t)).map (·.2.2)).map t4) [ab (.str w),ab (.str a),ab (.str b),ab (.str t)] H):=⟨λh=>r _ _ _ ⟨rfl,by rw[Y_];simp [h],_,_,_,rfl⟩⟩;generalize ((A.filter λp=>decide (p.1=("apart":ap))&&decide (p.2.1=t)).map (·.2.2))=F at *;clear r k e;simp only[ya];walk_at "";walk_at "t";by_cases d:w="apart"
 .simp only[d,ZV,if_true];by_cases l:a=t
  .simp only[l,ZV,if_true];have:=L.out ⟨d,l⟩;rw[d,l] at this;exact⟨uS,this⟩
  simp only[l,Zd,v_,V_];have:=C.out λz=>l z.2;rw[d] at this;exact this
 simp only[d,Zd,v_,V_];exact C.out λz=>d z.1
abbrev G4:List ap:=[w_,xS,AD,"_law_less","_law_drop",z5,"_law_cases","_law_level",zS,"_law_behind",zD,FA,"_law_there"]
theorem D0:fY G4 [w_,xS,AD,"_law_less","_law_drop"] (aC (vT 60)):=aX
theorem KR {f:af} (g:G3 K mg "_law_made" (vT 60) [w_,xS,AD,"_law_less","_law_drop"] f fd) (B:Bl mg) (F_plan:Z1 P w K mg base 3 "_law_plan" (vT 52) [w_] WP) (V:Z1 P w K mg base 2 "_law_shown" (vT 59) [w_,zS,zD,FA] GR) (J:Z1 P w K mg base 3 "_law_reason" (vT 58) [w_,z5,xS,AD,"_law_case","_law_level"] Np):Z1 P w K mg base 4 "_law_made" (vT 60) [w_,xS,AD,"_law_less","_law_drop"] Nq:=by
 refine c6 g D0 ?_;rintro _ A _ s H _ _ H3 Q hr ⟨W,d8,many,less,drop,rfl,F,h32,hmr,kk⟩;have hu30:=zc.u30 hr;have hu1:=zc.u1 hr;refine⟨_,(aj (aD 5 D0.nd (aN F_plan hr rfl (aa wh ak)))
   (aj (aD 6 D0.nd (aY ak))
   (aj (aD 7 D0.nd (aY (aa ao ak)))
   (aj (bh G_ rfl (bN rfl B.range_ (aa (aF aZ w4 ao) ak)) (aB 8 D0.nd) (aj (aD 9 D0.nd En)
    (aj (bh G_ rfl (bA y7) (aB 10 D0.nd) (aj (aD 11 D0.nd (aN J hr rfl (aa wh (aa xA (aa wm (aa w4 (aa (bB (aa AC (aa (v3 10) (aa xa ak)))) (aa y7 ak))))))))
     (aj (bc (aO (bR hu30) (aJ wt (v3 11) ao) cZ) (au (bh G_ rfl (bA (aJ wt (v3 11) ao)) (aB 12 D0.nd) (au (Ep hu1 AN (v3 12) cG)))) aL)
     (au (bc (yk.pt (jq (fC (cH xk)) (ik (aO (gF hu30) (v3 10) (aF fG (aF kj ao (aM bZ rfl B.len_ cg (aa xA ak))) ao))))) (au (bK (dj I_ M_ N_ bx y6 (aa (aN V hr rfl (aa wh (aa AC (aa (v3 10) (aa (v3 11) ak))))) ak)))) aL)))))
    (au (aD 7 D0.nd (aM (yD hr) rfl B.sorted_ kI (aa AN ak)))))))
   (au (aK (bG cR rfl B.tuple_ cT (aa y6 ak)))))))),?_⟩
 walk_at "q";walk_at "h";have k':=t6.mk kk;clear kk;have t8:=F.t8;have r8:=F.r8;have tp:=eF W;have tl:=ir F;have pll:(BD W).length=W.tasks.length:=g_ _;walk_at "s";refine⟨W,rfl,F,λH4 p sb4 I=>?_⟩;try dsimp only
 walk_at "n";walk_at "s";refine⟨vS,λv S=>?_⟩;have h30:=cF sb4 S;have npc:p≠v:=bF I S;have gp5:=(eG.new (o:=.lst []) S) _ _ I;have sb5:=sb4.trans (eG.new (o:=.lst []) S);have gc5:eH H4 v (.lst []) v=ab (.lst ((At W d8 many less drop 0).map (AA W))):=aq;generalize eH H4 v (.lst [])=H5 at gp5 sb5 gc5 |-;clear I sb4 S;walk_at "n";walk_at "s";refine⟨vS,λk hql=>?_⟩;have sn:eG H5 (eH H5 k (.lst [t3 0])):=eG.new hql;have gl6:eH H5 k (.lst [t3 0]) k=ab (.lst ((xy W d8 many less 0).map aV)):=aq;have gp6:=sn _ _ gp5;have gc6:=sn _ _ gc5;have sb6:=sb5.trans sn;have nlc0:k≠v:=a7 (bF gc5 hql);generalize eH H5 k (.lst [t3 0])=H6 at gl6 gp6 gc6 sb6 |-;clear sn gp5 gc5 sb5 hql;walk_at "n";refine aA λR3 hR3=>?_;have e1:(many:Int)+1=((many+1:Nat):Int):=rfl;walk_at "";refine⟨wo,uS,uS,?_⟩;rw[iT];refine aU (λ(i:Nat)=>t3 (i:Int)) (ax (many+1)) (λA Z H=>∃(k:af) (v8 v9 d j a:Option T),Z=[ab W.enc,ab (.int d8),ab (.int (many:Int)),ab (.bl less),ab (.bl drop),ab (.ref p),ab (.ref v),ab (.ref k),v8,v9,d,j,a]/\eG H3 H/\H p=ab (.lst (BD W))/\H v=ab (.lst ((At W d8 many less drop A.length).map (AA W)))/\H k=ab (.lst ((xy W d8 many less A.length).map aV))/\k≠v) ⟨_,_,_,_,_,_,rfl,sb6,gp6,gc6,gl6,nlc0⟩ ?_ ?_
 .rintro Z H ⟨k,v8,v9,d,j,a,rfl,sb,I,gc,U,nlc⟩;rw[D_] at gc;walk_at "t";have ml:=nJ (d8:=d8) (many:=many) (less:=less) (drop:=drop) F (many+1);clear gl6 gp6 gc6 sb6;walk_at "n";walk_at "";exact n7.of sb k'.out
 rintro A s B Z H N e ⟨k,v8,v9,d,j,a,rfl,sb,I,gc,U,nlc⟩ hN;walk_at "t";have hA:A.length<many+1:=by have:=YB a5 e;simp only[b_,n_,D_] at this;omega
 have hs:s=A.length:=by
  have h1:(ax (many+1))[A.length]?=ab s:=by rw[e,O_ (u_ _)];simp
  rw[YL hA] at h1;exact (P_ h1).symm
 subst hs;have hN':t6 (∀(k:af) (v8 v9 d j a:Option T) D,eG H3 D->D p=ab (.lst (BD W))->D v=ab (.lst ((At W d8 many less drop A.length++BG W d8 many less drop A.length (xy W d8 many less A.length)).map (AA W)))->D k=ab (.lst ((xy W d8 many less (A.length+1)).map aV))->k≠v->N [ab W.enc,ab (.int d8),ab (.int (many:Int)),ab (.bl less),ab (.bl drop),ab (.ref p),ab (.ref v),ab (.ref k),v8,v9,d,j,a] D):=⟨λk v8 v9 d j a D h1 h2 h3 h4 h5=>hN _ _ ⟨k,v8,v9,d,j,a,rfl,h1,h2,by rw[b_,t_,zx];exact h3,by rw[b_,t_];exact h4,h5⟩⟩;have ml:=nJ (d8:=d8) (many:=many) (less:=less) (drop:=drop) F A.length;have lv:=iw (d8:=d8) (many:=many) (less:=less) F (s:=A.length);have lv8:=zu (d8:=d8) (many:=many) (less:=less) F (s:=A.length);clear hN e hR3 k' gl6 gp6 gc6 sb6 H6 H5;generalize hC:(At W d8 many less drop A.length).map (AA W)=C at *;have cl:C.length<=A.length*256:=by rw[<- hC,g_];exact ml
 have lv':=t6.mk lv;clear lv ml;walk_at "s";intro y L;have nb0:=cF sb L;have X:eG H (eH H y (.dci [])):=eG.new L;have gb:eH H y (.dci []) y=ab (.dci (dI Db (AE (([]:List Nat).flatMap λm=>BS (eZ W d8 many less A.length m (xy W d8 many less A.length))) []))):=aq;have gp7:=X _ _ I;have gc7:eH H y (.dci []) v=ab (.lst (C++(BG W d8 many less drop A.length []).map (AA W))):=by rw[show (BG W d8 many less drop A.length []).map (AA W)=[] from rfl,YH];exact X _ _ gc
 have gl7:=X _ _ U;have sb7:=sb.trans X;have nbp:p≠y:=bF I L;have nbc:v≠y:=bF gc L;have nbl:k≠y:=bF U L;generalize eH H y (.dci [])=H7 at gb gp7 gc7 gl7 sb7 |-;clear X L I gc U sb;walk_at "n";refine aA λR5 hR5=>?_;walk_at "";refine aU aV (xy W d8 many less A.length) (λA2 Z D=>∃d j a:Option T,Z=[ab W.enc,ab (.int d8),ab (.int (many:Int)),ab (.bl less),ab (.bl drop),ab (.ref p),ab (.ref v),ab (.ref k),ab (.int ((A.length:Nat):Int)),ab (.ref y),d,j,a]/\eG H3 D/\D p=ab (.lst (BD W))/\D k=ab (.lst ((xy W d8 many less A.length).map aV))/\D y=ab (.dci (dI Db (AE (A2.flatMap λm=>BS (eZ W d8 many less A.length m (xy W d8 many less A.length))) [])))/\D v=ab (.lst (C++(BG W d8 many less drop A.length A2).map (AA W)))) ⟨_,_,_,rfl,sb7,gp7,gl7,gb,gc7⟩ ?_ ?_
 .rintro Z D ⟨d,j,a,rfl,sb,I,U,gb,gc⟩;refine⟨.inl U,?_⟩;walk_at "n";walk_at "";have hlt:∀o∈(xy W d8 many less A.length).flatMap (λm=>BS (eZ W d8 many less A.length m (xy W d8 many less A.length))),o<vF W:=λo ho=>by obtain⟨m,hm,h3⟩:=Zf.mp ho;exact Nm (jY F (lv'.out.1 m hm).1) o h3
  have hdl:=Nk hlt;refine⟨uS,λus h1 h2 p1 hp1=>?_⟩;rw[SX F h1 h2,W_];have sn:=eG.new (o:=.lst ((xy W d8 many less (A.length+1)).map aV)) hp1;exact hN'.out _ _ _ _ _ _ _ (sb.trans sn) (sn _ _ I) (by rw[B_,hC];exact sn _ _ gc) aq (a7 (bF gc hp1))
 rintro A2 m B2 Z D N2 e2 ⟨d,j,a,rfl,sb,I,U,gb,gc⟩ QU;refine⟨.inl U,?_⟩;have hml:m∈xy W d8 many less A.length:=by rw[e2];simp
 have hmt:=(lv'.out.1 m hml).1;have hro:=jY (d8:=d8) (many:=many) (less:=less) (s:=A.length) F hmt;have hN3:t6 (∀d j a G,eG H3 G->G p=ab (.lst (BD W))->G k=ab (.lst ((xy W d8 many less A.length).map aV))->G y=ab (.dci (dI Db (AE (BS (eZ W d8 many less A.length m (xy W d8 many less A.length))) (AE (A2.flatMap λm=>BS (eZ W d8 many less A.length m (xy W d8 many less A.length))) []))))->G v=ab (.lst ((C++(BG W d8 many less drop A.length A2).map (AA W))++(if (!drop||!decide (m=vF W - 1))=ai then [AA W (A.length,m,eZ W d8 many less A.length m (xy W d8 many less A.length))] else [])))->N2 [ab W.enc,ab (.int d8),ab (.int (many:Int)),ab (.bl less),ab (.bl drop),ab (.ref p),ab (.ref v),ab (.ref k),ab (.int ((A.length:Nat):Int)),ab (.ref y),d,j,a] G):=⟨λd j a G h1 h2 h3 h4 h5=>QU _ _ ⟨d,j,a,rfl,h1,h2,h3,by rw[Fn,wQ,ID];exact h4,by
  rw[h5]
  unfold BG
  rw[Y_,B_,B_,ZR,Zn,qS]
  split <;> rfl⟩⟩
 have cl2:(C++(BG W d8 many less drop A.length A2).map (AA W)).length<av:=by
  have h1:(BG W d8 many less drop A.length A2).length<=A2.length:=by unfold BG;rw[g_];exact YD _ _
  have h2:=YB a5 e2;rw[b_,n_] at h2;rw[b_,g_];omega
 have hpre:∀os,(∀o∈os,o<vF W)->(dI Db (AE os (AE (A2.flatMap λm=>BS (eZ W d8 many less A.length m (xy W d8 many less A.length))) []))).length<=256:=λos ho=>by
  rw[<- wQ];refine R_ (Nk λo h=>?_) (ir F);rcases q_.mp h with h | h
  .obtain⟨m',hm',h3⟩:=Zf.mp h;exact Nm (jY F (lv'.out.1 m' (by rw[e2];exact YC _ hm')).1) o h3
  exact ho o h
 clear QU e2 hR5 hN';generalize C++(BG W d8 many less drop A.length A2).map (AA W)=C2 at *;generalize AE (A2.flatMap λm=>BS (eZ W d8 many less A.length m (xy W d8 many less A.length))) []=E0 at *;refine aA λR6 hR6=>?_;simp only[aV];walk_at "";refine⟨vS,W,p,k,d8,many,A.length,m,less,xy W d8 many less A.length,rfl,F,h32,I,U,lv8,hmt,uS,hmr,λH8 t s8 ht=>?_⟩;try dsimp only
 generalize eZ W d8 many less A.length m (xy W d8 many less A.length)=r at *;have gp8:=s8 _ _ I;have gl8:=s8 _ _ U;have M:=s8 _ _ gb;have gc8:=s8 _ _ gc;have sb8:=sb.trans s8;clear I U gb gc sb s8 lv' gc7 gl7 gp7 sb7 hC cl;walk_at "n";refine aA λR7 hR7=>?_
 suffices key:∀(u:Option T) (O:gV),(∀b o,b≠y->H8 b=ab o->O b=ab o)->O y=ab (.dci (dI Db (AE (BS r) E0)))->R7 { nx:=N2,rt:=n7 Q,bk:=R5 { nx:=N,rt:=n7 Q,bk:=R3 { nx:=λ_ D=>n7 Q T.non D,rt:=n7 Q},ct:=N},ct:=N2} [ab W.enc,ab (.int d8),ab (.int (many:Int)),ab (.bl less),ab (.bl drop),ab (.ref p),ab (.ref v),ab (.ref k),ab (.int ((A.length:Nat):Int)),ab (.ref y),ab (.int (m:Int)),ab t,u] O by
  clear hR7;cases r with
  |left n =>
   have ht':t=t5 [.str "left",.int n]:=ht
   subst ht'
   walk_at ""
   rw[wc xo]
   exact key _ _ (λb o _ h=>h) M
  |less o =>
   have ht':t=t5 [.str "less",.int (o:Int)]:=ht
   subst ht'
   walk_at ""
   rw[wc xo]
   exact key _ _ (λb o _ h=>h) M
  |ways os =>
  obtain⟨q,ht',hq⟩:=ht;subst ht';walk_at "";have nqb:q≠y:=λz=>by rw[z,M] at hq;cases hq
  have Y:=t6.mk hpre;clear hpre;refine aU aV os (λA3 Z O=>∃u:Option T,Z=[ab W.enc,ab (.int d8),ab (.int (many:Int)),ab (.bl less),ab (.bl drop),ab (.ref p),ab (.ref v),ab (.ref k),ab (.int ((A.length:Nat):Int)),ab (.ref y),ab (.int (m:Int)),ab (.tup [.str "ways",.ref q]),u]/\(∀b o,b≠y->H8 b=ab o->O b=ab o)/\O y=ab (.dci (dI Db (AE A3 E0)))) ⟨_,rfl,λb o _ h=>h,M⟩ ?_ ?_
  .rintro Z O ⟨u,rfl,R,k2⟩;exact⟨.inl (R _ _ nqb hq),key _ _ R k2⟩
  rintro A3 o B3 Z O N4 e4 ⟨u,rfl,R,k2⟩ hN4;refine⟨.inl (R _ _ nqb hq),?_⟩;have hl:=Y.out A3 λx hx=>hro.1 x (by rw[e4];exact YC _ hx);have fin:t6 (∀u D,(∀b o,b≠y->H8 b=ab o->D b=ab o)->D y=ab (.dci (dI Db (y3 o () (AE A3 E0))))->N4 [ab W.enc,ab (.int d8),ab (.int (many:Int)),ab (.bl less),ab (.bl drop),ab (.ref p),ab (.ref v),ab (.ref k),ab (.int ((A.length:Nat):Int)),ab (.ref y),ab (.int (m:Int)),ab (.tup [.str "ways",.ref q]),u] D):=⟨λu D h1 h2=>hN4 _ _ ⟨u,rfl,h1,by rw[wQ];exact h2⟩⟩;clear hN4 key e4 Y hN3;simp only[aV];walk_at "";refine⟨uS,fin.out _ _ (λb o hb h=>by rw[aH hb];exact R b o hb h) ?_⟩;rw[aq];exact YB (λl=>ab (O3.dci l)) (Rz Db o () (AE A3 E0))
 intro u O R gb9;have gp9:=R _ _ nbp gp8;have gl9:=R _ _ nbl gl8;have gc9:=R _ _ nbc gc8;have sb9:eG H3 O:=λb o h=>R b o (bF h nb0) (sb8 b o h);have ht9:S6 O t r:=by
  cases r with
  |left n=>exact ht
  |less o=>exact ht
  |ways os =>
  obtain⟨q,e,hq⟩:=ht;exact⟨q,e,R _ _ (λz=>by rw[z,M] at hq;cases hq) hq⟩
 clear ht gp8 gl8 gc8 M R sb8 hpre;walk_at "n";walk_at "";have hsh:(1:Int)*2^W.tasks.length - 1=((vF W - 1:Nat):Int):=by
  rw[HA];have:((vF W:Nat):Int)=2^W.tasks.length:=by unfold vF;push_cast;rfl
  rw[<- this];omega
 have yes:(!drop||!decide (m=vF W - 1))=ai->GR [W.enc,.int ((A.length:Nat):Int),.int (m:Int),t] O λx H1=>ML (H1 v) v x H1 λ_ H1=>N2 [ab W.enc,ab (.int d8),ab (.int (many:Int)),ab (.bl less),ab (.bl drop),ab (.ref p),ab (.ref v),ab (.ref k),ab (.int ((A.length:Nat):Int)),ab (.ref y),ab (.int (m:Int)),ab t,u] H1:=λz=>by
  refine⟨W,A.length,m,t,r,rfl,F,hmt,ht9,hro,?_⟩;try dsimp only
  rw[gc9];refine⟨cl2,hN3.out _ _ _ _ (iW sb9 h30) ?_ ?_ ?_ ?_⟩
  .rw[aH npc];exact gp9
  .rw[aH nlc];exact gl9
  .rw[aH (a7 nbc)];exact gb9
  rw[aq,we z]
 cases drop with
 |false=>rw[we vS];exact⟨⟨wo,wo⟩,yes rfl⟩
 |true =>
 rw[wc vS,hsh];refine⟨⟨uS,uS,vS⟩,?_⟩;by_cases c:m=vF W - 1
 .rw[wc (by rw[k_ (show (m:Int)=((vF W - 1:Nat):Int) by rw[c])];decide)];exact hN3.out _ _ _ _ sb9 gp9 gl9 gb9 (by rw[wc (by simp [c]),YH];exact gc9)
 rw[we (by rw[m_ (show ¬(m:Int)=((vF W - 1:Nat):Int) by omega)];rfl)];exact⟨⟨wo,wo⟩,yes (by simp [c])⟩
abbrev rA:List ap:=[w_,zS,zD,FA,FO,"_law_thing"]
theorem I0:fY rA [w_,zS,zD,FA] (aC (vT 59)):=aX
theorem G5 {f:af} (g:G3 K mg "_law_shown" (vT 59) [w_,zS,zD,FA] f y) (B:Bl mg) (a:Z1 P w K mg base 1 "_law_tasks" (vT 54) [w_,AG] M9):Z1 P w K mg base 2 "_law_shown" (vT 59) [w_,zS,zD,FA] GR:=by
 refine c6 g I0 ?_;rintro _ _ _ s H _ _ _ _ l ⟨W,s,m,t,r,rfl,e,x,u,d,z⟩;have c:=zc.u30 l;refine⟨_,(aj (iH xa (bU (n:=2) rfl (aG (aB 4 I0.nd) (aG (aB 5 I0.nd) bC))))
   (aj (bc (aO (bR c) xk cZ) (au (aD 5 I0.nd (aN a l rfl (aa wh (aa xA ak))))) aL)
   (aj (bc (aO (bR c) xk cZ) (au (aD 5 I0.nd (bG cR rfl B.tuple_ cT (aa (bD rfl (b6 59 rA [Au,w_] 1 [0]) (bA xA) (λR C s H M U=>⟨(aB 0 (n5 [Au,w_])),bY,(aN a l rfl (aa wm (aa wh ak)))⟩)) ak)))) aL)
   (au (aK (bB (aa wm (aa (aN a l rfl (aa wh (aa w4 ak))) (aa (bB (aa xk (aa xA ak))) ak))))))))),?_⟩
 walk_at "q";walk_at "h";have k:=t6.mk z;clear z;have L:=e.r8;cases r with
 |left n =>
  have b:t=t5 [.str "left",.int n]:=u
  subst b
  walk_at ""
  walk_at "t"
  rw[wc xo,wc xo]
  exact⟨W,m,rfl,e,x,vS,vS,n7.of eG.refl k.out⟩
 |less o =>
  have b:t=t5 [.str "less",.int (o:Int)]:=u
  subst b
  walk_at ""
  refine⟨wo,W,o,rfl,e,d,?_⟩
  try dsimp only
  rw[wc xo]
  exact⟨W,m,rfl,e,x,vS,vS,n7.of eG.refl k.out⟩
 |ways os =>
 obtain⟨q,b,D⟩:=u;subst b;walk_at "";walk_at "t";rw[wc xo];walk_at "c";have S:=d.2;refine bJ aV (ze W) os [ab W.enc] (.inl D) uS (λo F O j=>?_) (λp I=>?_)
 .have J:=t6.mk j;clear j k;simp only[aV];walk_at "";exact⟨W,o,rfl,e,d.1 o F,J.out⟩
 exact⟨W,m,rfl,e,x,vS,vS,n7.of (eG.new I) k.out⟩
abbrev j4:List ap:=[w_,z5,xS,AD,"_law_case","_law_level",zS,zD,"_law_less","_law_left","_law_more"]
theorem GY:fY j4 [w_,z5,xS,AD,"_law_case","_law_level"] (aC (vT 58)):=aX
theorem Bd {f:af} (g:G3 K mg "_law_reason" (vT 58) [w_,z5,xS,AD,"_law_case","_law_level"] f fd) (B:Bl mg) (b:Z1 P w K mg base 2 "_law_greatest" (vT 56) [z5,xS,CL,zD] WR) (k:Z1 P w K mg base 1 "_law_load" (vT 57) [z5,AG] Nb):Z1 P w K mg base 3 "_law_reason" (vT 58) [w_,z5,xS,AD,"_law_case","_law_level"] Np:=by
 refine c6 g GY ?_;rintro _ _ _ s H _ _ H3 Q hr ⟨W,p,G,d8,many,s,m,less,L,rfl,I,h32,hp,hl,l256,hm,hs,hmr,kk⟩;have d:=zc.u30 hr;refine⟨_,(aj (iH xk (bU (n:=3) rfl (aG (aB 6 GY.nd) (aG (aB 7 GY.nd) (aG (aB 8 GY.nd) bC)))))
   (aj (aD 9 GY.nd (aN k hr rfl (aa wm (aa (aF fG (aF fG (aF kj ao (aM bZ rfl B.len_ cg (aa wm ak))) ao) y7) ak))))
   (aj (jd (i:=10) rfl GY.nd (b6 58 j4 [EB,zD] 1 [7]) (bA xA) (λcl R s H C0 fp=>⟨(aB 0 (n5 [EB,zD])),(dJ (yk.pt (cW (aO (bR d) (aF gK wh wm) wm) (cL (aO (gF d) wh wm))))),wh⟩))
   (aj (bc (yk.pt (cW (cH AC) (cL (aO (gF d) (v3 10) (aY ak))))) (au (aK (bB (aa cZ (aa (aJ wt (v3 10) (qM ao)) ak))))) aL)
   (aj (bc (yk.pt (jq (aO (bR d) y6 xa) (ik (yk.pt (cW (fC (cH AC)) (cL (aO mQ AN (aF c7 w4 (aF fG xa y6))))))))) (au (aK (bB (aa cZ (aa AN ak))))) aL)
   (au (aK (bB (aa cZ (aa (bD rfl (b6 58 j4 [Au,zD] 1 [7]) (bA (aN b hr rfl (aa wm (aa w4 (aa (aJ wt (aJ wt wh ao) y6) (aa y7 ak)))))) (λcl R s H C0 fp=>⟨(aB 0 (n5 [Au,zD])),bY,(aF aZ wm wh)⟩)) ak)))))))))),?_⟩
 walk_at "q";walk_at "h";have j:=t6.mk kk;clear kk;have t8:=I.t8;have r8:=I.r8;have tp:=eF W;have pll:(BD W).length=W.tasks.length:=g_ _;walk_at "s";walk_at "n";walk_at "t";walk_at "s";have D:(1:Int)*2^W.tasks.length - 1 - (m:Int)=((vF W - 1 - m:Nat):Int):=by
  rw[HA];have:((vF W:Nat):Int)=2^W.tasks.length:=by unfold vF;push_cast;rfl
  rw[<- this];omega
 rw[D];refine⟨⟨uS,uS,vS⟩,W,p,vF W - 1 - m,rfl,I,hp,uS,?_⟩;clear D;try dsimp only
 walk_at "n";walk_at "s";walk_at "c";refine cN aV aV (λo=>bj o m&&!decide (o=m)) L [ab (.int (m:Int))] (.inl hl) uS (λo ho Q' l=>?_) (λo ho hpo Q' l=>?_) (λp1 O=>?_)
 .have a:=t6.mk l;have eh:decide (a3 (o:Int) (m:Int)=(m:Int))=bj o m:=rfl;clear l j;simp only[aV];walk_at "";cases c:bj o m with
  |true =>
   rw[c,Y7] at a;rw[we rfl];have e:decide ((o:Int)=(m:Int))=decide (o=m):=Zm.mpr mo;try rw[e]
   exact a.out
  |false =>
  rw[c,Zu] at a;rw[wc vS];exact a.out
 .have a:=t6.mk l;clear l j;simp only[aV];walk_at "";exact a.out
 have em:L.filter (λo=>bj o m&&!decide (o=m))=gR L m:=rfl;rw[em];have ml:(gR L m).length<=L.length:=YD _ _;have y:eG H3 (eH H3 p1 (.lst ((gR L m).map aV))):=eG.new O;have S:eH H3 p1 (.lst ((gR L m).map aV)) p1=ab (.lst ((gR L m).map aV)):=aq;generalize eH H3 p1 (.lst ((gR L m).map aV))=H4 at y S |-;have gp:=y _ _ hp;clear em O;have hE:eZ W d8 many less s m L=if less=ai/\gR L m≠[] then CM.less ((gR L m).getLastD 0) else if s=many\/(less=am/\d8*((many:Int) - s)<AY W m) then CM.left (AY W m) else CM.ways (Ct W d8 s m):=rfl
 have hlf:bT W.tasks (pk W (vF W - 1 - m))=AY W m:=rfl;rw[hE] at j;generalize gR L m=M at *;clear hE;walk_at "n";refine aA λR3 Z=>?_;walk_at ""
 suffices key:¬(less=ai/\M≠[])->∀v,eG H3 v->v p=ab (.lst (BD W))->R3 { nx:=λ_ v=>n7 Q T.non v,rt:=n7 Q} [ab W.enc,ab (.ref p),ab (.int d8),ab (.int (many:Int)),ab (.tup [.int (s:Int),.int (m:Int),.bl less]),ab (.ref G),ab (.int (s:Int)),ab (.int (m:Int)),ab (.bl less),ab (.int (AY W m)),ab (.ref p1)] v by
  clear Z;cases less with
  |false=>rw[wc vS];exact key (λz=>by cases z.1) _ y gp
  |true =>
  rw[we rfl];refine⟨vS,λp2 C=>?_⟩;have n12:=bF S C;have V:eG H4 (eH H4 p2 (.lst [])):=eG.new C;have g2:=V _ _ S;rw[g2,Dp];refine⟨n12,by rw[YG];intro t ht;obtain⟨x,_,rfl⟩:=o_.mp ht;rfl,rfl,?_⟩;try simp only[if_true,dw]
  by_cases c:M=[]
  .rw[wc (by rw[c];decide)];exact key (λz=>z.2 c) _ (y.trans V) (V _ _ gp)
  rw[we (by simp [c])];rw[g2,sY,S5 c,dZ];refine⟨vS,?_⟩;refine n7.of eG.refl (j.out _ _ (y.trans V) ?_);rw[we ⟨rfl,c⟩];rfl
 intro F H5 J gp5;rw[wc F] at j;clear y gp S hl;walk_at "n";refine aA λR4 X=>?_;have cm:EV d8 ((many:Int) - s):=.inr ⟨uS,uS⟩;walk_at ""
 suffices r:¬(s=many\/(less=am/\d8*((many:Int) - s)<AY W m))->R4 { nx:=λ_ v=>n7 Q T.non v,rt:=n7 Q} [ab W.enc,ab (.ref p),ab (.int d8),ab (.int (many:Int)),ab (.tup [.int (s:Int),.int (m:Int),.bl less]),ab (.ref G),ab (.int (s:Int)),ab (.int (m:Int)),ab (.bl less),ab (.int (AY W m)),ab (.ref p1)] H5 by
  have kl:(s=many\/(less=am/\d8*((many:Int) - s)<AY W m))->n7 Q (t5 [.str "left",.int (AY W m)]) H5:=λz=>n7.of eG.refl (j.out H5 _ J (by rw[we z];rfl));clear X j;by_cases c1:s=many
  .rw[we (k_ uS)];exact⟨vS,kl (.inl c1)⟩
  rw[wc (by rw[m_ uS];decide)];cases less with
  |false =>
   rw[we vS];walk_at "t";by_cases U:d8*((many:Int) - s)<AY W m
   .rw[we (k_ U)];exact⟨vS,kl (.inr ⟨rfl,U⟩)⟩
   rw[wc (by rw[m_ U];decide)];exact r λz=>z.elim c1 λz=>U z.2
  |true =>
  rw[wc vS];exact r λz=>z.elim c1 λz=>by cases z.1
 intro u;rw[wc u] at j;have Y:s<W.row.length:=by
  rcases g5 hs with z | z
  .omega
  exact wT (.inl z) u
 have x0:=wJ Y;clear u F cm;walk_at "n";walk_at "";refine⟨W,p,d8,s,m,rfl,I,h32,gp5,hm,λH6 q sb6 gq=>?_⟩;try dsimp only
 rw[yc,gq,pC];walk_at "c";have gl:=qZ (d8:=d8) (s:=s) (m:=m) I;refine bJ aV (λf=>aV (m+f)) (zw W d8 s m) [ab (.int (m:Int))] (.inl gq) uS (λf hf Q' l=>?_) (λq2 hq2=>?_)
 .have a:=t6.mk l;clear l j;simp only[aV];walk_at "";have e:(m:Int)+(f:Int)=((m+f:Nat):Int):=uS
  first | exact a.out | (rw[e];exact a.out)
 have e:(zw W d8 s m).map (λf=>aV (m+f))=(Ct W d8 s m).map aV:=by unfold Ct;rw[W_];rfl
 rw[e];exact⟨vS,n7.of eG.refl (j.out _ _ ((J.trans sb6).trans (eG.new hq2)) ⟨q2,rfl,aq⟩)⟩
abbrev nR:List ap:=[w_,AH,"_law_led","_law_groups_here",z5,AB,"_law_group","_law_own","_law_ahead","_law_foes",FO,A6,EB]
theorem Cb:fY nR [w_] (aC (vT 52)):=aX
theorem KY {f:af} (g:G3 K mg "_law_plan" (vT 52) [w_] f fd) (B:Bl mg) (a:Z1 P w K mg base 1 "_law_number" (vT 53) [AH,Au] WN) (D:Z1 P w K mg base 2 "_law_groups" (vT 51) [w_] WK) (q:Z1 P w K mg base 1 "_law_chained" (vT 50) [w_] RZ):Z1 P w K mg base 3 "_law_plan" (vT 52) [w_] WP:=by
 refine c6 g Cb ?_;rintro _ A _ s H _ _ H3 _ hr ⟨W,rfl,hW,kk⟩;have hu30:=zc.u30 hr;have y:=zc.u31 hr;have hu1:=zc.u1 hr;refine⟨_,(aj (aD 1 Cb.nd (bD rfl (b6 52 nR [EI] 1 []) (cD (aJ wt wh ao)) (λcl P8 s H C0 fp=>⟨(aB 0 (n5 [EI])),bY,(aJ wt wh ao)⟩)))
   (aj (aD 2 Cb.nd (aN q hr rfl (aa wh ak)))
   (aj (aD 3 Cb.nd (aN D hr rfl (aa wh ak)))
   (aj (aD 4 Cb.nd (aY ak))
   (aj (bh G_ rfl (bN rfl B.range_ (aa (aM bZ rfl B.len_ cg (aa wm ak)) ak)) (aB 5 Cb.nd) (aj (aD 6 Cb.nd (aJ wt (bD rfl (b6 52 nR [A6,AH,AB] 1 [1,5]) (bA xa) (λcl P8 s H C0 fp=>⟨(aB 0 (n5 [A6,AH,AB])),(dJ (aO (iy y) (aJ wt wm w4) wh rfl)),wh⟩)) ao))
    (aj (aD 7 Cb.nd (aN a hr rfl (aa wm (aa y6 ak))))
    (aj (aD 8 Cb.nd (aN a hr rfl (aa wm (aa (bD rfl (b6 52 nR [DU,"_law_group",AH,AB,"_law_led"] 1 [6,1,5,2]) (bA wm) (λcl P8 s H C0 fp=>⟨(aB 0 (n5 [DU,"_law_group",AH,AB,"_law_led"])),(dJ (yk.pt (cW (aO (iy y) (aJ wt w4 xa) (dM hu1 xk wh) rfl) (cL (aO (iI y) wh wm rfl))))),wh⟩)) ak))))
    (aj (aD 9 Cb.nd ao)
    (aj (bh G_ rfl (cD (aJ wt wh ao)) (bU (n:=3) rfl (aG (aB 10 Cb.nd) (aG (aB 11 Cb.nd) (aG (aB 12 Cb.nd) bC)))) (au (bc (yk.pt (cW (aO (bR hu30) (v3 10) cZ) (cL (aO (iy y) (aJ wt wm xA) (bB (aa (v3 11) (aa (v3 12) ak))) rfl)))) (au (aD 9 Cb.nd (aF yg AN (aN a hr rfl (aa wm (aa (aY (aa (aJ wt (aY (aa (v3 11) (aa (v3 12) ak))) (bG xY rfl B.int_ Dk (aa (di (bR hu30) (v3 11) (aJ wt wm xA)) ak))) ak)) ak)))))) aL)))
    (au (bK (dj I_ M_ N_ bx xk (aa (bB (aa (aF kj ao xA) (aa y7 (aa AC (aa AN (aa (aJ wt (aJ wt (aJ wt wh ao) xA) ao) (aa (aJ wt (aJ wt (aJ wt wh ao) xA) ao) ak))))))) ak))))))))))
   (au (aK xk))))))),?_⟩
 walk_at "q";walk_at "h";have k':=t6.mk kk;clear kk;have t8:=hW.t8;have p12:=hW.ps;have nl:(nm W).length=W.tasks.length:=cX W;have hW':=t6.mk hW;clear hW;walk_at "s";walk_at "c";refine bJ xp (λt=>t4 t.1) W.tasks [] trivial uS ?c1 ?c2
 case c1 =>
  intro t ht Q' G
  clear k'
  simp only[xp]
  walk_at ""
  try exact G
 intro C hpn;have e1:W.tasks.map (λt=>t4 t.1)=(nm W).map t4:=by unfold nm;rw[W_];rfl
 rw[e1];have sb0:eG H3 (eH H3 C (.lst ((nm W).map t4))):=eG.new hpn;have O:eH H3 C (.lst ((nm W).map t4)) C=ab (.lst ((nm W).map t4)):=aq;generalize eH H3 C (.lst ((nm W).map t4))=H4 at sb0 O |-;clear e1 hpn;walk_at "n";walk_at "s";refine⟨W,rfl,hW'.out,λH5 pf kd K2 s5 gf ga hK=>?_⟩;try dsimp only
 walk_at "n";walk_at "s";refine⟨W,rfl,hW'.out,λH6 pg X gg=>?_⟩;try dsimp only
 walk_at "n";walk_at "s";refine⟨vS,λJ hpp=>?_⟩;have h0:=cF (sb0.trans (s5.trans X)) hpp;have U:eG H6 (eH H6 J (.lst [])):=eG.new hpp;have M:eH H6 J (.lst []) J=ab (.lst ((W.tasks.take 0).map (CO W))):=aq;generalize eH H6 J (.lst [])=H7 at U M |-;walk_at "n";refine aA λR4 hR4=>?_;have gn7:=U _ _ (X _ _ (s5 _ _ O));walk_at "";refine⟨wo,uS,uS,?_⟩;rw[iT];refine aU (λ(i:Nat)=>t3 (i:Int)) (ax W.tasks.length) (λA Z H=>∃v5 v6 v7 v8 v9 k l d:Option T,Z=[ab W.enc,ab (.ref C),ab (.ref pf),ab (.ref pg),ab (.ref J),v5,v6,v7,v8,v9,k,l,d]/\eG H6 H/\H J=ab (.lst ((W.tasks.take A.length).map (CO W)))) ⟨_,_,_,_,_,_,_,_,rfl,U,M⟩ ?_ ?_
 .rintro Z H ⟨v5,v6,v7,v8,v9,k,l,d,rfl,L,M⟩;rw[D_,F1] at M;walk_at "t";have fin:=t6.mk (k'.out H J ((sb0.trans (s5.trans X)).trans L) M);clear k';walk_at "n";walk_at "";exact n7.of eG.refl fin.out
 rintro A i B Z H N e ⟨v5,v6,v7,v8,v9,k,l,d,rfl,L,M⟩ hN;walk_at "t";have hA:A.length<W.tasks.length:=by have:=YB a5 e;simp only[b_,n_,D_] at this;omega
 have hi:i=A.length:=by
  have h1:(ax W.tasks.length)[A.length]?=ab i:=by rw[e,O_ (u_ _)];simp
  rw[YL hA] at h1;exact (P_ h1).symm
 subst hi;have ht:=d_ hA;have a1:=Gr ht;have hbit:=yW (ns:=nm W) (i:=A.length) (x:=W.tasks[A.length].1) hW'.out.nd (by unfold nm;rw[C_,ht];rfl);have a2:xh ((nm W).map t4) ((A.length:Nat):Int)=ab (t4 W.tasks[A.length].1):=bQ (by unfold nm;rw[C_,C_,ht];rfl);have F:t6 (∀v5 v6 v7 v8 v9 k l d S,eG H6 S->S J=ab (.lst ((W.tasks.take A.length).map (CO W)++[CO W W.tasks[A.length]]))->N [ab W.enc,ab (.ref C),ab (.ref pf),ab (.ref pg),ab (.ref J),v5,v6,v7,v8,v9,k,l,d] S):=⟨λv5 v6 v7 v8 v9 k l d S h1 h2=>hN _ _ ⟨v5,v6,v7,v8,v9,k,l,d,rfl,h1,by rw[b_,t_,YF hA,B_];exact h2⟩⟩;have htm:W.tasks[A.length].1∈nm W:=o_.mpr ⟨_,YZ hA,rfl⟩;clear hN e hR4;generalize W.tasks[A.length]=t at *;have Y:=L _ _ (X _ _ (s5 _ _ O));have gd:=L _ _ (X _ _ gf);have gg':=L _ _ gg;have gl:=Su W;obtain⟨r,hr2⟩:=Ss htm;have hgl:=Fx W t.1;have cur8:((W.tasks.take A.length).map (CO W)).length<=8:=by rw[g_,Y0];omega
 simp only[xp] at a1;clear ht U;generalize (W.tasks.take A.length).map (CO W)=cur at *;walk_at "s";walk_at "c";refine cN sT sT (λg=>decide (t.1∈g)) (uA W) [ab (.ref C),ab (.int ((A.length:Nat):Int))] (.inl gg') uS (λg hg Q' G=>?_) (λg hg hpg Q' G=>?_) (λp1 hp1=>?_)
 .have b:=t6.mk G;have pg':=cz g;clear G k' F;simp only[sT];walk_at "";rw[Gq];exact⟨rfl,wo,b.out⟩
 .have b:=t6.mk G;clear G k' F;walk_at "";exact b.out
 rw[hr2,show xh (ff sT (bf W t.1::r)) 0=ab (sT (bf W t.1)) from bQ (j:=0) rfl,dZ];have I:=L.trans (eG.new (o:=.lst (ff sT (bf W t.1::r))) hp1);have gp8:=(eG.new (o:=.lst (ff sT (bf W t.1::r))) hp1) _ _ M;generalize eH H p1 (.lst (ff sT (bf W t.1::r)))=H8 at I gp8 |-;clear Y gd gg' hr2 M L hp1;have Y:=I _ _ (X _ _ (s5 _ _ O));have gd:=I _ _ (X _ _ gf);walk_at "n";walk_at "s";refine⟨C,_,nm W,bf W t.1,rfl,Y,uS,.inl rfl,?_⟩;try dsimp only
 walk_at "n";walk_at "s";walk_at "c";refine cN t4 t4 (λx=>decide (t.1∈K2 x)&&!decide (x∈bf W t.1)) (nm W) [ab (sT (bf W t.1)),ab (.ref C),ab (.int ((A.length:Nat):Int)),ab (.ref pf)] (.inl Y) uS (λx hx Q' G=>?_) (λx hx hpx Q' G=>?_) (λp2 V=>?_)
 .have lkx:=gJ (g:=kd) hx;have gax:=I _ _ (X _ _ (ga x hx));have p1:=cz (K2 x);have p2:=cz (bf W t.1);have b:=t6.mk G;clear G k' F hK ga;simp only[sT];walk_at "";rw[Gq,WL];refine⟨rfl,wo,?_⟩;by_cases c:t.1∈K2 x
  .rw[k_ c,Y7] at b;rw[we (k_ c)];exact⟨rfl,wo,b.out⟩
  rw[m_ c,Zu] at b;rw[wc (by rw[m_ c];decide)];exact b.out
 .have b:=t6.mk G;clear G k' F;walk_at "";exact b.out
 rw[Kr hK];have sb9:=I.trans (eG.new (o:=.lst (ff t4 (dz W t.1))) V);have gp9:=(eG.new (o:=.lst (ff t4 (dz W t.1))) V) _ _ gp8;have gn9:=(eG.new (o:=.lst (ff t4 (dz W t.1))) V) _ _ Y;refine⟨C,_,nm W,dz W t.1,rfl,gn9,uS,.inr ⟨p2,rfl,aq⟩,?_⟩;try dsimp only
 generalize eH H8 p2 (.lst (ff t4 (dz W t.1)))=H9 at sb9 gp9 gn9 |-;clear Y gp8 I V gd;walk_at "n";walk_at "s";walk_at "n";walk_at "s";refine aU ya W.pairs (λB1 Z H=>∃v m u:Option T,Z=[ab W.enc,ab (.ref C),ab (.ref pf),ab (.ref pg),ab (.ref J),ab (.int ((A.length:Nat):Int)),ab (sT (bf W t.1)),ab (.int (vE (nm W) (bf W t.1))),ab (.int (vE (nm W) (dz W t.1))),ab (.int (vE (nm W) (B1.flatMap (kW t.1)))),v,m,u]/\eG H6 H/\H J=ab (.lst cur)) ⟨k,l,d,by rw[show vE (nm W) (([]:List (ap × ap × ap)).flatMap (kW t.1))=0 by rw[bM];exact YB pV (gm _)],sb9,gp9⟩ ?_ ?_
 .rintro Z S ⟨v,m,u,rfl,L,M⟩;walk_at "t";walk_at "n";walk_at "";rw[HA,<- hbit];refine⟨⟨wo,wo⟩,⟨uS,uS,vS⟩,vS,uS,F.out _ _ _ _ _ _ _ _ _ (iW L hpp) aq⟩
 rintro B1 p C1 Z S N2 e2 ⟨v,m,u,rfl,L,M⟩ QU;walk_at "t";have Y:=L _ _ (X _ _ (s5 _ _ O));have hB:t6 (∀z v m u H'',z=cr (vE (nm W) (B1.flatMap (kW t.1))) (vE (nm W) (kW t.1 p))->eG S H''->N2 [ab W.enc,ab (.ref C),ab (.ref pf),ab (.ref pg),ab (.ref J),ab (.int ((A.length:Nat):Int)),ab (sT (bf W t.1)),ab (.int (vE (nm W) (bf W t.1))),ab (.int (vE (nm W) (dz W t.1))),ab (.int z),v,m,u] H''):=⟨λz v m u H'' hz s'=>by
  subst hz
  exact QU _ _ ⟨v,m,u,by rw[Ks],L.trans s',s' _ _ M⟩⟩
 have h0:vE (nm W) []=0:=by rw[bM];exact YB pV (gm _)
 clear QU e2 F k';generalize hfo:vE (nm W) (B1.flatMap (kW t.1))=fo at *;simp only[ya];walk_at "";walk_at "t";have hf:kW t.1 p=if p.1="apart"/\(t.1=p.2.1\/t.1=p.2.2) then [if p.2.1=t.1 then p.2.2 else p.2.1] else []:=rfl
 have hno:¬(p.1="apart"/\(t.1=p.2.1\/t.1=p.2.2))->fo=cr fo (vE (nm W) (kW t.1 p)):=λz=>by rw[hf,wc z,h0];have e3:=m5 (nm W) (B1.flatMap (kW t.1)) [];rw[h0,YH,hfo] at e3;exact e3.symm
 by_cases c1:p.1="apart"
 .rw[we (k_ c1)];refine⟨vS,rfl,rfl,?_⟩;rw[show du am (t4 t.1) [t4 p.2.1,t4 p.2.2]=decide (t.1∈[p.2.1,p.2.2]) from Gq t.1 [p.2.1,p.2.2]];by_cases c2:t.1=p.2.1\/t.1=p.2.2
  .rw[we (k_ (by simpa using c2))];rw[hf,we ⟨c1,c2⟩] at hB;refine⟨vS,λp3 hp3=>?_⟩;have g1:=(eG.new (o:=.lst [t4 p.2.1,t4 p.2.2]) hp3) _ _ Y;have g3:eH S p3 (.lst [t4 p.2.1,t4 p.2.2]) p3=ab (.lst [t4 p.2.1,t4 p.2.2]):=aq;have sb3:eG S (eH S p3 (.lst [t4 p.2.1,t4 p.2.2])):=eG.new hp3;generalize eH S p3 (.lst [t4 p.2.1,t4 p.2.2])=H10 at g1 g3 sb3 |-;have x0:xh [t4 p.2.1,t4 p.2.2] 0=ab (t4 p.2.1):=bQ (j:=0) rfl;have x1:xh [t4 p.2.1,t4 p.2.2] 1=ab (t4 p.2.2):=bQ (j:=1) rfl;clear hno hf;walk_at "";by_cases c3:p.2.1=t.1
   .rw[we c3] at hB;rw[k_ c3];simp only[if_true,v_,V_];rw[x1,dZ];refine⟨vS,λp4 R=>⟨C,_,nm W,[p.2.2],rfl,(eG.new R) _ _ g1,uS,.inr ⟨p4,rfl,aq⟩,?_⟩⟩;exact hB.out _ _ _ _ _ rfl (sb3.trans (eG.new R))
   rw[wc c3] at hB;rw[m_ c3];simp only[if_true,v_,V_];rw[x0,dZ];refine⟨vS,λp4 R=>⟨C,_,nm W,[p.2.1],rfl,(eG.new R) _ _ g1,uS,.inr ⟨p4,rfl,aq⟩,?_⟩⟩;exact hB.out _ _ _ _ _ rfl (sb3.trans (eG.new R))
  rw[wc (by rw[m_ (by simpa using c2)];decide)];exact hB.out _ _ _ _ _ (hno λz=>c2 z.2) eG.refl
 rw[wc (by rw[m_ c1];decide)];exact hB.out _ _ _ _ _ (hno λz=>c1 z.1) eG.refl
abbrev jG:List ap:=[z5,xS,CL,zD,"_law_whole",Au,"_law_less",AG]
theorem IP:fY jG [z5,xS,CL,zD] (aC (vT 56)):=aX
theorem uT {f:af} (g:G3 K mg "_law_greatest" (vT 56) [z5,xS,CL,zD] f fd) (B:Bl mg) (y:Z1 P w K mg base 1 "_law_fits" (vT 55) [z5,xS,CL,zD,AG] WQ):Z1 P w K mg base 2 "_law_greatest" (vT 56) [z5,xS,CL,zD] WR:=by
 refine c6 g IP ?_;rintro _ A _ s H _ _ H3 _ hr ⟨W,p,d8,k,d,rfl,V,h32,hp,hd,kk⟩;have r:=zc.u30 hr;have S:=zc.u1 hr;refine⟨_,(aj (aD 4 IP.nd (aF fG (aF kj ao (aM bZ rfl B.len_ cg (aa wh ak))) ao))
   (aj (aD 5 IP.nd (aY ak))
   (aj (bh G_ rfl (bN rfl B.range_ (aa (aF aZ xk ao) ak)) (aB 6 IP.nd) (aj (aD 7 IP.nd (aF fG xk y6))
    (au (bc (yk.pt (cW (aO (bR r) (aF gK y7 xa) ao) (cL (aO (bR r) (bD rfl (b6 56 jG [A6,AG] 1 [7]) (bA xA) (λcl P8 s H C0 fp=>⟨(aB 0 (n5 [A6,AG])),(dJ (aO (bR r) (aF gK wh wm) wm)),wh⟩)) (aY ak))))) (au (bc (cH (aN y hr rfl (aa wh (aa wm (aa w4 (aa xa (aa y7 ak))))))) (au (bK (dj I_ M_ N_ bx xA (aa y7 ak)))) aL)) aL))))
   (au (aK (aM (yD hr) rfl B.sorted_ kI (aa xA ak))))))),?_⟩
 walk_at "q";walk_at "h";have k':=t6.mk kk;clear kk;have t8:=V.t8;have tp:=eF W;have tl:=ir V;have pll:(BD W).length=W.tasks.length:=g_ _;walk_at "s";have R:(1:Int)*2^W.tasks.length - 1=((vF W - 1:Nat):Int):=by
  rw[HA];have:((vF W:Nat):Int)=2^W.tasks.length:=by unfold vF;push_cast;rfl
  rw[<- this];omega
 rw[R];refine⟨⟨uS,uS,vS⟩,?_⟩;clear R;walk_at "n";walk_at "s";refine⟨vS,λq O=>?_⟩;have D:eH H3 q (.lst []) q=ab (.lst ((BA W d8 k d 0).map aV)):=aq;have G:eH H3 q (.lst []) p=_ := EE hp O;have I:eG H3 (eH H3 q (.lst [])):=eG.new O;generalize eH H3 q (.lst [])=H4 at D G I |-;walk_at "n";refine aA λR2 hR2=>?_;have e1:((vF W - 1:Nat):Int)+1=((vF W:Nat):Int):=uS
 walk_at "";refine⟨wo,uS,uS,?_⟩;rw[iT];refine aU (λ(i:Nat)=>t3 (i:Int)) (ax (vF W)) (λA Z H=>∃l m:Option T,Z=[ab (.ref p),ab (.int d8),ab (.str (W.row.getD k "")),ab (.int (d:Int)),ab (.int (((vF W - 1:Nat)):Int)),ab (.ref q),l,m]/\eG H3 H/\H p=ab (.lst (BD W))/\H q=ab (.lst ((BA W d8 k d A.length).map aV))) ⟨_,_,rfl,I,G,D⟩ ?_ ?_
 .rintro Z H ⟨l,m,rfl,I,G,D⟩;rw[D_] at D;walk_at "t";walk_at "n";walk_at "";have gl:=za (W:=W) (d8:=d8) (k:=k) (d:=d) (j:=vF W);refine⟨(BA W d8 k d (vF W)).map λ(i:Nat)=>(i:Int),by rw[W_];rfl,by rw[g_];omega,λus S hu2 p1 J=>?_⟩;rw[Kq S hu2,W_];have s1:=I.trans (eG.new (o:=.lst ((zw W d8 k d).map aV)) J);exact n7.of eG.refl (k'.out _ p1 s1 aq)
 rintro A j B Z H N e ⟨l,m,rfl,I,G,D⟩ hN;walk_at "t";have hA:A.length<vF W:=by have:=YB a5 e;simp only[b_,n_,D_] at this;omega
 have hj:j=A.length:=by
  have C:(ax (vF W))[A.length]?=ab j:=by rw[e,O_ (u_ _)];simp
  rw[YL hA] at C;exact (P_ C).symm
 subst hj;have hi:vF W - 1 - A.length<vF W:=uS
 have ei:((vF W - 1:Nat):Int) - ((A.length:Nat):Int)=((vF W - 1 - A.length:Nat):Int):=uS
 have es:=Gp (W:=W) (d8:=d8) (k:=k) (d:=d) hA;have gl:=za (W:=W) (d8:=d8) (k:=k) (d:=d) (j:=A.length);have c:t6 (∀l m v,eG H3 v->v p=ab (.lst (BD W))->v q=ab (.lst ((if Bn W d8 k d (vF W - 1 - A.length)=ai/\(BA W d8 k d A.length).any (λg=>bj g (vF W - 1 - A.length))=am then BA W d8 k d A.length++[vF W - 1 - A.length] else BA W d8 k d A.length).map aV))->N [ab (.ref p),ab (.int d8),ab (.str (W.row.getD k "")),ab (.int (d:Int)),ab (.int (((vF W - 1:Nat)):Int)),ab (.ref q),l,m] v):=⟨λl m v C X h3=>hN _ _ ⟨l,m,rfl,C,X,by rw[b_,t_,es];exact h3⟩⟩;have hdj:=Sh V hi hd;have Y:Bn W d8 k d (vF W - 1 - A.length)=oM W d8 (W.row.getD k "") (pk W d) (pk W (vF W - 1 - A.length)):=rfl;clear hN e k' hR2 es;generalize vF W - 1 - A.length=i at *;generalize BA W d8 k d A.length=a at *;walk_at "";have L:t6 (¬(Bn W d8 k d i=ai/\a.any (λg=>bj g i)=am)->∀l m v,eG H v->N [ab (.ref p),ab (.int d8),ab (.str (W.row.getD k "")),ab (.int (d:Int)),ab (.int (((vF W - 1:Nat)):Int)),ab (.ref q),l,m] v):=⟨λz l m v C=>c.out l m v (I.trans C) (C _ _ G) (by rw[wc z];exact C _ _ D)⟩;by_cases c0:∀x∈pk W i,x∉pk W d
 .rw[we (k_ c0)];walk_at "c";have hff:=Ko (d8:=d8) (kind:=W.row.getD k "") V c0;refine cN aV aV (λg=>bj g i) a [ab (.int (i:Int))] (.inl D) uS (λg hg Q' n=>?_) (λg hg hpg Q' n=>?_) (λp1 J=>⟨vS,λp2 M=>?_⟩)
  .have X:=t6.mk n;clear n L c;simp only[aV];walk_at "";exact X.out
  .have X:=t6.mk n;clear n L c;simp only[aV];walk_at "";exact X.out
  have U:p1≠p2:=bF aq M;rw[aH U,aq,Dp];have sp:eG H (eH (eH H p1 (.lst ((a.filter λg=>bj g i).map aV))) p2 (.lst [])):=(eG.new J).trans (eG.new M);have eA:decide ((a.filter λg=>bj g i).map aV=[])=!(a.any λg=>bj g i):=by rw[Yx,h_,GU,JU,ZW,oa]
  refine⟨U,by rw[YG];intro t ht;obtain⟨x,_,rfl⟩:=o_.mp ht;rfl,rfl,?_⟩;generalize eH (eH H p1 (.lst ((a.filter λg=>bj g i).map aV))) p2 (.lst [])=H5 at sp |-;simp only[v_,V_,dw];rw[eA];cases c1:a.any λg=>bj g i with
  |true=>rw[wc vS];exact L.out (λz=>by rw[c1] at z;cases z.2) _ _ _ sp
  |false =>
  rw[we vS];refine⟨W,p,d8,W.row.getD k "",d,i,rfl,V,sp _ _ G,hd,hi,?_⟩;rw[hff,<- Y];try dsimp only
  rw[dw];cases c2:Bn W d8 k d i with
  |true =>
   rw[we rfl];have gq':=sp _ _ D;rw[c1,c2,we ⟨rfl,rfl⟩] at c;rw[gq'];refine⟨⟨wo,wo⟩,?_⟩;have e3:(a++[i]).map aV=a.map aV++[t3 (i:Int)]:=by rw[B_];rfl
   rw[e3] at c;refine⟨by rw[g_];omega,c.out _ _ _ ?_ ?_ aq⟩
   .exact λb u hb=>by
     by_cases z:b=q
     .subst z;rw[hb] at O;cases O
     rw[aH z];exact sp _ _ (I _ _ hb)
   rw[aH (bF hp O)];exact sp _ _ G
  |false =>
  rw[wc vS];exact L.out (λz=>by rw[c2] at z;cases z.1) _ _ _ sp
 rw[wc (by rw[m_ c0];decide)];refine L.out (λz=>c0 ?_) _ _ _ eG.refl;have F:=LS.mp (Y▸z.1);exact λx hx=>F.apart (dq hx) hx
abbrev kY:List ap:=[z5,AG]
theorem KZ:fY kY kY (aC (vT 57)):=aX
theorem K1 {f:af} (g:G3 K mg "_law_load" (vT 57) kY f j) (B:Bl mg):Z1 P w K mg base 1 "_law_load" (vT 57) kY Nb:=by
 refine c6 g KZ ?_;rintro _ _ _ s H _ _ _ _ _ ⟨W,p,i,rfl,m,r,u,l⟩;refine⟨_,(au (aK (aM (vN rfl) rfl B.sum_ vO (aa (bD rfl (b6 57 kY [A6,AG] 1 [1]) (bA wh) (λz n s H y D=>⟨(aB 0 (n5 [A6,AG])),(dJ (aO mQ (aF gK wm (aJ wt wh ao)) ao)),(aJ wt wh ao)⟩)) ak)))),?_⟩;walk_at "q";walk_at "h";have c:=t6.mk l;clear l;have C:=m.t8;walk_at "";walk_at "c";refine cN (CO W) (λt=>t3 t.2.1) (λt=>decide (t.1∈pk W i)) W.tasks [ab (.int (i:Int))] (.inl r) uS (λt k q b=>?_) (λt k v q b=>?_) (λp1 e=>?_)
 .have x:=Gm m u k;have a:=t6.mk b;clear b c;simp only[CO];walk_at "";exact a.out
 .have a:=t6.mk b;clear b c;simp only[CO];walk_at "";exact a.out
 rw[show ((W.tasks.filter λt=>decide (t.1∈pk W i)).map λt=>t3 t.2.1)=((W.tasks.filter λt=>decide (t.1∈pk W i)).map (·.2.1)).map t3 by rw[W_];rfl,fU,dZ];exact n7.of (eG.new e) c.out
abbrev G6:List ap:=[z5,xS,CL,zD,AG,"_law_load_here","_law_bit","_law_own","_law_ahead","_law_foes","_law_length","_law_kinds"]
theorem EG:fY G6 [z5,xS,CL,zD,AG] (aC (vT 55)):=aX
theorem K3 {f:af} (g:G3 K mg "_law_fits" (vT 55) [z5,xS,CL,zD,AG] f fd) (B:Bl mg):Z1 P w K mg base 1 "_law_fits" (vT 55) [z5,xS,CL,zD,AG] WQ:=by
 refine c6 g EG ?_;rintro _ A _ s H _ _ H3 Q hr ⟨W,p,d8,kind,d,i,rfl,V,hp,hd,U,kk⟩;have k:=zc.u30 hr;have L:=zc.u31 hr;refine⟨_,(aj (aD 5 EG.nd ao)
   (aj (bh G_ rfl (bA wh) (bU (n:=6) rfl (aG (aB 6 EG.nd) (aG (aB 7 EG.nd) (aG (aB 8 EG.nd) (aG (aB 9 EG.nd) (aG (aB 10 EG.nd) (aG (aB 11 EG.nd) bC))))))) (au (bc (aO mQ (aF gK xk y6) ao) (aj (aD 5 EG.nd (aF aZ xA (v3 10)))
     (aj (bc (yk.pt (jq (aO (gF k) (aF gK y7 xk) y7) (jq (aO (gF k) (aF gK AC (aF yg xa xk)) AC) (ik (aO mQ (aF gK AN xk) ao))))) (au (aK cG)) aL)
     (au (bc (yk.pt (cW (aO (gF k) (v3 11) (bB ak)) (cL (aO (iI L) w4 (v3 11) rfl)))) (au (aK cG)) aL)))) aL)))
   (au (aK (di sH xA wm))))),?_⟩
 walk_at "q";walk_at "h";have D:=t6.mk kk;clear kk;walk_at "s";walk_at "n";refine aA λR1 Y=>?_;walk_at "";have j:Gn W d8 kind d i=(@decide (∀t∈W.tasks,HL W kind d i t) (ae _)&&decide (bT W.tasks (pk W i)<=d8)):=rfl;refine aU (CO W) W.tasks (λA Z H=>∃l r v m c a:Option T,Z=[ab (.ref p),ab (.int d8),ab (.str kind),ab (.int (d:Int)),ab (.int (i:Int)),ab (.int (bT A (pk W i))),l,r,v,m,c,a]/\H=H3/\∀t∈A,HL W kind d i t) ⟨_,_,_,_,_,_,rfl,rfl,λ_ h=>nomatch h⟩ ?_ ?_
 .rintro Z H ⟨l,r,v,m,c,a,rfl,rfl,S⟩;refine⟨.inl hp,?_⟩;walk_at "n";walk_at "";rw[@k_ _ (ae _) S,Y7] at j;rw[j] at D;exact n7.of eG.refl D.out
 rintro A t B Z H N e ⟨l,r,v,m,c,a,rfl,rfl,S⟩ hN;refine⟨.inl hp,?_⟩;have ht:t∈W.tasks:=by rw[e];simp
 have o:t6 (¬HL W kind d i t->n7 Q (.bl am) H):=⟨λz=>by
  rw[@m_ _ (ae _) λq=>z (q t ht),Zu] at j
  rw[j] at D
  exact n7.of eG.refl D.out⟩
 have b:t6 (HL W kind d i t->∀z l r v m c a,z=bT A (pk W i)+(if t.1∈pk W i then t.2.1 else 0)->N [ab (.ref p),ab (.int d8),ab (.str kind),ab (.int (d:Int)),ab (.int (i:Int)),ab (.int z),l,r,v,m,c,a] H):=⟨λz y l r v m c a hy=>by
  subst hy
  exact hN _ H ⟨l,r,v,m,c,a,by rw[m9],rfl,λu G=>by
   rcases q_.mp G with G | G
   ·
    exact S u G
   ·
    rw[j_.mp G];exact z⟩⟩
 clear hN e S Y D j;have b1:=Gm V U ht;have b2:=Sd (A:=bf W t.1) V U λx hx=>(p_.mp hx).1;have b3:=Km (A:=dz W t.1) V U hd λx hx=>(p_.mp hx).1;have b4:=Sg (A:=uH W t.1) V U;generalize bT A (pk W i)=ld at *;have M:HL W kind d i t=(t.1∈pk W i->iR t.2.2 kind=ai/\(∀x∈bf W t.1,x∈pk W i)/\(∀x∈dz W t.1,x∈pk W i\/x∈pk W d)/\∀x∈uH W t.1,x∉pk W i):=rfl;rw[M] at b o;clear M;simp only[CO,sT];walk_at "";walk_at "t";by_cases c0:t.1∈pk W i
 .simp only[c0,ZV,if_true,true_implies] at b o |-;by_cases C:∀x∈bf W t.1,x∈pk W i
  .rw[wc (by rw[k_ C];decide)];by_cases F:∀x∈dz W t.1,x∈pk W i\/x∈pk W d
   .rw[wc (by rw[k_ F];decide)];by_cases X:∃x,x∈uH W t.1/\x∈pk W i
    .rw[we (k_ X)];obtain⟨x,h1,h2⟩:=X;exact o.out λz=>z.2.2.2 x h1 h2
    rw[wc (by rw[m_ X];decide)];have I:∀x∈uH W t.1,x∉pk W i:=λx h1 h2=>X ⟨x,h1,h2⟩;have J:=cz t.2.2;refine⟨vS,J,rfl,?_⟩;rw[show du ai (t4 kind) (t.2.2.map t4)=!decide (kind∈t.2.2) by unfold du;simp only[Rh];rfl];have em:iR t.2.2 kind=(decide (t.2.2=[])||decide (kind∈t.2.2)):=rfl;rw[em] at b o;by_cases R:t.2.2=[]
    .rw[wc (by simp [R])];exact b.out ⟨by simp [R],C,F,I⟩ _ _ _ _ _ _ _ rfl
    rw[we (by simp [R])];refine⟨rfl,J,?_⟩;by_cases O:kind∈t.2.2
    .rw[wc (by simp [O])];exact b.out ⟨by simp [O],C,F,I⟩ _ _ _ _ _ _ _ rfl
    rw[we (by simp [O])];exact o.out λz=>by have:=z.1;simp [R,O] at this
   rw[we (by rw[m_ F];rfl)];exact o.out λz=>F z.2.2.1
  rw[we (by rw[m_ C];rfl)];exact o.out λz=>C z.2.1
 simp only[c0,Zd,v_,V_,false_implies,true_implies] at b |-;exact b.out _ _ _ _ _ _ _ (by rw[F4])
abbrev jk:List ap:=[w_,AG]
theorem G7:fY jk jk (aC (vT 54)):=aX
theorem G8 {f:af} (g:G3 K mg "_law_tasks" (vT 54) jk f C) (B:Bl mg):Z1 P w K mg base 1 "_law_tasks" (vT 54) jk M9:=by
 refine c6 g G7 ?_;rintro _ A _ s H _ _ H3 _ hr ⟨W,m,rfl,u,U,I⟩;have j:=zc.u30 hr;refine⟨_,(au (aK (bG cR rfl B.tuple_ cT (aa (bD rfl (b6 54 jk [AB,w_,AG] 1 [0,1]) (bN rfl B.range_ (aa (aM bZ rfl B.len_ cg (aa (aJ wt wh ao) ak)) ak)) (λcl J s H C0 fp=>⟨(aB 0 (n5 [AB,w_,AG])),(dJ (aO (bR j) (aF aW (aF bu w4 (aF kj ao wh)) ao) ao)),(aJ wt (aJ wt (aJ wt wm ao) wh) ao)⟩)) ak)))),?_⟩;walk_at "q";walk_at "h";have F:=t6.mk I;clear I;have Y:=u.t8;have d:=t6.mk u;clear u;walk_at "";refine⟨wo,uS,uS,?_⟩;rw[iT];walk_at "c";refine gP (λ(i:Nat)=>t3 (i:Int)) (ax W.tasks.length) (λA y Z H=>∃v:Option T,Z=[v,ab W.enc,ab (.int (m:Int))]/\y=(((nm W).take A.length).filter λx=>decide (x∈pk W m)).map t4/\H=H3) ⟨_,rfl,rfl,rfl⟩ ?_ ?_
 .rintro y Z H ⟨v,rfl,rfl,rfl⟩;rw[D_];have D:(nm W).take W.tasks.length=nm W:=GH (FX (cX W));rw[D];have V:((nm W).filter λx=>decide (x∈pk W m))=pk W m:=by have:=FQ d.out (pk W m);rw[cV d.out U] at this;exact this.symm
  rw[V];have h8:(pk W m).length<=8:=R_ (lV _ _) (by rw[cX];exact Y);refine⟨wo,by rw[g_];omega,λp S=>?_⟩;walk_at "";exact n7.of (eG.new S) F.out
 rintro A i B y Z H N e ⟨v,rfl,rfl,rfl⟩ n;walk_at "t";have o:A.length<W.tasks.length:=by have:=YB a5 e;simp only[b_,n_,D_] at this;omega
 have X:i=A.length:=by
  have G:(ax W.tasks.length)[A.length]?=ab i:=by rw[e,O_ (u_ _)];simp
  rw[YL o] at G;exact (P_ G).symm
 subst X;have k:=d_ o;have a1:=Gr k;have M:=WM (b:=m) d.out k;have D:(((nm W).take A.length).filter λx=>decide (x∈pk W m)).length<=8:=R_ (YD _ _) (by rw[Y0];omega);have r:A.length<(nm W).length:=by rw[cX];exact o
 have en:(nm W)[A.length]=W.tasks[A.length].1:=ZG _;have a:(nm W).take (A.length+1)=(nm W).take A.length++[W.tasks[A.length].1]:=by rw[YF r,en]
 generalize W.tasks[A.length]=t at *;have q:t6 (t.1∈pk W m->N ((((nm W).take A.length).filter λx=>decide (x∈pk W m)).map t4++[t4 t.1]) [ab (.int ((A.length:Nat):Int)),ab W.enc,ab (.int (m:Int))] H):=⟨λz=>n _ _ _ ⟨_,rfl,by rw[b_,t_,a,Y_,B_,Zn,we (k_ z)];rfl,rfl⟩⟩;have O:t6 (t.1∉pk W m->N ((((nm W).take A.length).filter λx=>decide (x∈pk W m)).map t4) [ab (.int ((A.length:Nat):Int)),ab W.enc,ab (.int (m:Int))] H):=⟨λz=>n _ _ _ ⟨_,rfl,by rw[b_,t_,a,Y_,Zn,wc (lK z),qS,YH],rfl⟩⟩;clear n e F k a en;simp only[xp] at a1;generalize ((nm W).take A.length).filter (λx=>decide (x∈pk W m))=L at *;walk_at "";have p0:(0:Int)<2^A.length:=Int.pow_pos vS;have p1:(2:Int)^A.length<=128:=by
  have:(2:Nat)^A.length<=2^7:=IQ vS uS
  exact_mod_cast this
 refine⟨⟨uS,uS,vS⟩,?_⟩;rw[HA];refine⟨⟨uS,Z0 (FD _) uS⟩,vS,?_⟩;rw[M];by_cases c:t.1∈pk W m
 .rw[we (k_ c)];exact⟨uS,q.out c⟩
 rw[wc (lK c)];exact O.out c
abbrev uU:List ap:=[AH,Au,"_law_total",AB]
theorem L1:fY uU [AH,Au] (aC (vT 53)):=aX
theorem Be {f:af} (g:G3 K mg "_law_number" (vT 53) [AH,Au] f m) (B:Bl mg):Z1 P w K mg base 1 "_law_number" (vT 53) [AH,Au] WN:=by
 refine c6 g L1 ?_;rintro _ A _ s H _ _ H3 _ G ⟨a,x,ns,d,rfl,I,L,F,r⟩;have j:=zc.u31 G;refine⟨_,(aj (aD 2 L1.nd ao)
   (aj (bh G_ rfl (bN rfl B.range_ (aa (aM bZ rfl B.len_ cg (aa wh ak)) ak)) (aB 3 L1.nd) (au (bc (aO (iy j) (aJ wt wh xa) wm rfl) (au (aD 2 L1.nd (aF aZ w4 (aF kj ao xa)))) aL)))
   (au (aK w4)))),?_⟩
 walk_at "q";walk_at "h";have o:=t6.mk r;clear r;walk_at "s";walk_at "n";walk_at "s";refine⟨wo,uS,uS,?_⟩;rw[iT];refine aU (λ(i:Nat)=>t3 (i:Int)) (ax ns.length) (λA Z H=>∃v3:Option T,Z=[ab (.ref a),ab x,ab (.int (vE (ns.take A.length) d)),v3]/\H=H3) ⟨_,rfl,rfl⟩ ?_ ?_
 .rintro Z H ⟨v3,rfl,rfl⟩;rw[D_,F1];walk_at "t";walk_at "n";walk_at "";exact n7.of eG.refl o.out
 rintro A i B Z H N e ⟨v3,rfl,rfl⟩ p;walk_at "t";have l:A.length<ns.length:=by have:=YB a5 e;simp only[b_,n_,D_] at this;omega
 have D:i=A.length:=by
  have q:(ax ns.length)[A.length]?=ab i:=by rw[e,O_ (u_ _)];simp
  rw[YL l] at q;exact (P_ q).symm
 subst D;have M:xh (ns.map t4) ((A.length:Nat):Int)=ab (t4 ns[A.length]):=bQ (by rw[C_,d_ l];rfl);have n:vE (ns.take (A.length+1)) d=vE (ns.take A.length) d+2^A.length*(if ns[A.length]∈d then 1 else 0):=by rw[YF l,jE,Y0,kw uS]
 have b:t6 (∀z,z=vE (ns.take A.length) d+2^A.length*(if ns[A.length]∈d then 1 else 0)->N [ab (.ref a),ab x,ab (.int z),ab (.int ((A.length:Nat):Int))] H):=⟨λz t=>by subst t;exact p _ _ ⟨_,by rw[b_,t_,n],rfl⟩⟩;clear p e o n;generalize ns[A.length]=y at *;walk_at "";refine yH F ?_;simp only[dw,v_,V_];by_cases c:y∈d
 .simp only[c,ZV,if_true] at b |-;refine⟨⟨uS,uS,vS⟩,b.out _ ?_⟩;rw[HA,lb]
 simp only[c,Zd,v_,V_] at b |-;exact b.out _ (by rw[og,F4])
abbrev jH:List ap:=["works","beat","many","paper","walk","cases","stands","done","reason"]
theorem GN:fY jH ["works","beat","many","paper"] (aC (vT 35)):=aX
theorem uV {f:af} (g:G3 K mg "is_paper" (vT 35) ["works","beat","many","paper"] f fd) (B:Bl mg) (I_Walk:BY K j ["works","beat","rules","whole"]) (v:Md P w K mg base j 5 "Walk" ["self","works","beat"] (Wh j)) (l:Z1 P w K mg base 2 "are_sorted" (vT 34) ["works","paper"] M7) (r:Z1 P w K mg base 2 "is_done" (vT 29) ["walk","done"] (M6 j)) (m:Z1 P w K mg base 7 "is_reason" (vT 33) ["walk","many","cases","stands","done","reason"] (Wu w j)):Z1 P w K mg base 8 "is_paper" (vT 35) ["works","beat","many","paper"] Wv:=by
 refine c6 g GN ?_;rintro _ A _ s H _ _ H3 Q O ⟨W,d8,many,k,rfl,hW,hm,J,cl,kk⟩;have hu30:=zc.u30 O;refine⟨_,(aj (aD 4 GN.nd (JH v (O.mono vS) rfl (aa wh (aa wm ak))))
   (aj (aD 5 GN.nd (bG (Ex (w:=w) rfl (O0 O) rfl) rfl B.dict_ J1 (aa (bD rfl (b6 35 jH ["stands","done","reason"] 3 []) (cD xa) (λcl P8 s H C0 fp=>⟨(bU (n:=3) rfl (aG (aB 0 (n5 ["stands","done","reason"])) (aG (aB 1 (n5 ["stands","done","reason"])) (aG (aB 2 (n5 ["stands","done","reason"])) bC)))),bY,(bB (aa (bB (aa wh (aa wm ak))) (aa cG ak)))⟩)) ak)))
   (aj (bc (yk.pt (jq (wC (w:=w) rfl hu30 (bB (aa ao (aa (bB ak) ak))) xA) (ik (fC (cH (aN l O rfl (aa wh (aa xa ak)))))))) (au (aK cG)) aL)
   (aj (bh G_ rfl (cD xa) (bU (n:=3) rfl (aG (aB 6 GN.nd) (aG (aB 7 GN.nd) (aG (aB 8 GN.nd) bC)))) (aj (bc (yk.pt (jq (fC (Cq sH sH ao y6 w4)) (ik (fC (cH (aN r O rfl (aa xk (aa y7 ak)))))))) (au (aK cG)) aL)
    (au (bc (fC (cH (aN m O rfl (aa xk (aa w4 (aa xA (aa y6 (aa y7 (aa AC ak))))))))) (au (aK cG)) aL))))
   (au (aK cG)))))),?_⟩
 walk_at "q";walk_at "h";have x:=t6.mk kk;clear kk;walk_at "s";intro a ha;refine⟨a,W,d8,rfl,hW,aq,λH4 kp hw=>⟨rfl,?_⟩⟩;have sb:eG H3 H4:=λb o e=>kp b o (bF e ha) (by rw[aH (bF e ha)];exact e);clear kp ha;walk_at "n";walk_at "s";walk_at "c";refine gP (AA W) k (λA ys Z H=>∃G D I:Option T,Z=[G,D,I]/\H=H4/\ys=A.map λc=>t5 [.tup [.int (c.1:Int),.tup ((pk W c.2.1).map t4)],.bl ai]) ⟨_,_,_,rfl,rfl,rfl⟩ ?_ ?_;rotate_left
 .rintro A c B ys Z H N e ⟨G,D,I,rfl,rfl,rfl⟩ V;walk_at "t";have X:A.length<4096:=by have:=YB a5 e;simp only[b_,n_] at this;omega
  have t:t6 (∀G D I,N ((A.map λc=>t5 [.tup [.int (c.1:Int),.tup ((pk W c.2.1).map t4)],.bl ai])++[.tup [.tup [.int (c.1:Int),.tup ((pk W c.2.1).map t4)],.bl ai]]) [G,D,I] H):=⟨λG D I=>V _ _ _ ⟨G,D,I,rfl,rfl,by rw[B_];rfl⟩⟩;clear V e x;simp only[AA,ze,sT];walk_at "";exact⟨wo,vS,vS,uS,t.out _ _ _⟩
 rintro ys Z H ⟨G,D,I,rfl,rfl,rfl⟩;refine⟨wo,by rw[g_];omega,λp hp=>?_⟩;rw[uf (λc:AW=>((c.1:Int),pk W c.2.1)) (λ_=>T.bl ai) k,dZ];intro p1 L;have s1:eG H (eH H p (.lst (k.map λc=>t5 [.tup [.int (c.1:Int),.tup ((pk W c.2.1).map t4)],.bl ai]))):=eG.new hp;generalize eH H p (.lst (k.map λc=>t5 [.tup [.int (c.1:Int),.tup ((pk W c.2.1).map t4)],.bl ai]))=H5 at s1 L |-;have U:=F0.of hW J;generalize EU [] (k.map λc:AW=>(((c.1:Int),pk W c.2.1),T.bl ai))=kvs at *;have g1:eH H5 p1 (.dcn w kvs) p1=ab (.dcn w kvs):=aq;have s2:eG H5 (eH H5 p1 (.dcn w kvs)):=eG.new L;have M:=hw.sub (s1.trans s2);have s3:=sb.trans (s1.trans s2);generalize eH H5 p1 (.dcn w kvs)=H6 at g1 s2 M s3 |-;clear s1 s2 hp L sb hw;walk_at "n";refine aA λR2 hR2=>?_;have e00:t5 [t3 0,t5 []]=t5 [t3 0,t5 (([]:List ap).map t4)]:=rfl;have C:=U 0 0 (eF W);rw[qU] at C;have e02:(bL (0,[]) kvs).isSome=decide ((0,0)∈k.map yy):=C;clear C;have u:(DE W d8 many k=am->n7 Q (.bl am) H6):=λz=>by have k2:=x.out;rw[z] at k2;exact n7.of s3 k2
 have hi:DE W d8 many k=(decide ((0,0)∈k.map yy)&&(ES (k.map yy)&&k.all (EL W d8 many (k.map yy)))):=rfl;rw[hi] at u x;clear hi;walk_at "";refine⟨vS,vS,?_⟩;by_cases c0:(0,0)∈k.map yy
 .rw[k_ c0] at u x |-;rw[wc vS];refine⟨W,k,rfl,hW,J,cl,?_⟩;try dsimp only
  rw[dw];cases F:ES (k.map yy) with
  |true =>
   rw[F] at u x;rw[wc vS];rw[Y7,Y7] at u x;have S:=t6.mk u;clear u e00 e02 c0 F;walk_at "n";refine aA λR3 hR3=>?_;walk_at "";refine aU (AA W) k (λA Z H=>∃R Y v8:Option T,Z=[ab W.enc,ab (.int d8),ab (.int (many:Int)),ab (.tup (k.map (AA W))),ab (.ref a),ab (.ref p1),R,Y,v8]/\H=H6/\∀c∈A,EL W d8 many (k.map yy) c=ai) ⟨_,_,_,rfl,rfl,λ_ h=>nomatch h⟩ ?_ ?_
   .rintro Z H ⟨R,Y,v8,rfl,rfl,X⟩;walk_at "t";walk_at "n";walk_at "";have k4:=x.out;rw[YG.mpr X] at k4;exact n7.of s3 k4
   rintro A c B Z H N e ⟨R,Y,v8,rfl,rfl,X⟩ V;walk_at "t";have y:c∈k:=by rw[e];simp
   have hc:=J c y;have t:=t6.mk λR Y v8 (z:EL W d8 many (k.map yy) c=ai)=>V _ H ⟨R,Y,v8,rfl,rfl,λd hd=>by
    rcases q_.mp hd with hd | hd
    ·
     exact X d hd
    ·
     rw[j_.mp hd];exact z⟩
   have q:t6 (EL W d8 many (k.map yy) c=am->n7 Q (.bl am) H):=⟨λz=>S.out (by
    rw[oe]
    exact⟨c,y,by rw[z];decide⟩)⟩
   have hcb:EL W d8 many (k.map yy) c=(decide (c.1<=many)&&(EN W c.2.1&&DJ W d8 many (k.map yy) c.1 c.2.1 c.2.2)):=rfl;rw[hcb] at t q;clear V e X hR3 S x hcb y;simp only[AA];walk_at "";walk_at "t";rw[we (k_ (F2 _))];by_cases F:c.1<=many
   .rw[k_ F] at t q;rw[Y7] at t q;rw[wc (by rw[k_ (show (c.1:Int)<=(many:Int) by omega)];decide)];refine⟨a,W,d8,c.2.1,rfl,hW,M,hc.1,?_⟩;try dsimp only
    rw[dw];cases c2:EN W c.2.1 with
    |true =>
     rw[c2,Y7] at t q;simp only[Zy,v_,V_];refine⟨a,p1,W,d8,many,kvs,k.map yy,c.1,c.2.1,c.2.2,rfl,hW,M,hm,F,g1,U,hc.1,hc.2,?_⟩;try dsimp only
     rw[dw];cases er:DJ W d8 many (k.map yy) c.1 c.2.1 c.2.2 with
     |true=>rw[wc vS];exact t.out _ _ _ er
     |false =>
     rw[we vS];exact q.out er
    |false =>
    rw[c2] at q;simp only[DS,if_true];exact q.out rfl
   rw[m_ F] at q;rw[we (by rw[m_ (show ¬(c.1:Int)<=(many:Int) by omega)];decide)];exact q.out rfl
  |false =>
  rw[F] at u;rw[we vS];exact u rfl
 rw[m_ c0] at u |-;rw[we vS];exact u rfl
abbrev fL:List ap:=["works","paper","places"]
theorem NH:fY fL ["works","paper"] (aC (vT 34)):=aX
theorem oR {f:af} (g:G3 K mg "are_sorted" (vT 34) ["works","paper"] f I) (B:Bl mg) (b:Z1 P w K mg base 1 "number_of" (vT 15) ["works","tasks"] nO):Z1 P w K mg base 2 "are_sorted" (vT 34) ["works","paper"] M7:=by
 refine c6 g NH ?_;rintro _ A _ s H _ _ H3 _ hr ⟨W,a,rfl,X,D,O,U⟩;have m:=zc.u30 hr;refine⟨_,(aj (jd (i:=2) rfl NH.nd (b6 34 fL ["stands","done","reason","works"] 3 [0]) (cD wm) (λO t s H C0 fp=>⟨(bU (n:=3) rfl (aG (aB 0 (n5 ["stands","done","reason","works"])) (aG (aB 1 (n5 ["stands","done","reason","works"])) (aG (aB 2 (n5 ["stands","done","reason","works"])) bC)))),bY,(bB (aa wh (aa (aN b hr rfl (aa xa (aa wm ak))) ak)))⟩))
   (au (aK (aM (vQ rfl) rfl B.all_ vP (aa (bD rfl (b6 34 fL ["one","other"] 2 []) (yx rfl B.zip_ (aa w4 (aa (iJ w4 (d9 ao) eV) ak))) (λO t s H C0 fp=>⟨(bU (n:=2) rfl (aG (aB 0 (n5 ["one","other"])) (aG (aB 1 (n5 ["one","other"])) bC))),bY,(di (Q0 m) wh wm)⟩)) ak))))),?_⟩
 walk_at "q";walk_at "h";have x:=t6.mk U;clear U;walk_at "s";walk_at "c";refine gP (AA W) a (λA C Z H=>∃j d k:Option T,Z=[j,d,k,ab W.enc]/\H=H3/\C=A.map yv) ⟨_,_,_,rfl,rfl,rfl⟩ ?_ ?_;rotate_left
 .rintro A c B C Z H N e ⟨j,d,k,rfl,rfl,rfl⟩ S;walk_at "t";have hA:A.length<4096:=by have:=YB a5 e;simp only[b_,n_] at this;omega
  have hc:=D c (by rw[e];simp);have F:t6 (∀j d k,N (A.map yv++[yv c]) [j,d,k,ab W.enc] H):=⟨λj d k=>S _ _ _ ⟨j,d,k,rfl,rfl,by rw[B_];rfl⟩⟩;clear S e x;simp only[AA];walk_at "";refine⟨wo,W,_,pk W c.2.1,rfl,X,.inl rfl,?_⟩;rw[jW X hc.1];exact⟨vS,uS,F.out _ _ _⟩
 rintro C Z H ⟨j,d,k,rfl,rfl,rfl⟩;refine⟨wo,by rw[g_];omega,λp hp=>?_⟩;have v:eH H p (.lst (a.map yv)) p=ab (.lst (a.map yv)):=aq;have R:eG H (eH H p (.lst (a.map yv))):=eG.new hp;generalize eH H p (.lst (a.map yv))=G at v R |-;walk_at "n";walk_at "";intro p1 r;have M:p≠p1:=bF v r;have V:gh (a.map yv) (dY (a.map yv) (ab 1) ag)=(a.zip (a.drop 1)).map (λq=>.tup [yv q.1,yv q.2]):=Ka a;rw[aH M,v,MP,V];have Y:eH G p1 (.lst (dY (a.map yv) (ab 1) ag)) p=ab (.lst (a.map yv)):=by rw[aH M];exact v
 have J:eH G p1 (.lst (dY (a.map yv) (ab 1) ag)) p1=ab (.lst (dY (a.map yv) (ab 1) ag)):=aq;have u:=R.trans (eG.new (o:=.lst (dY (a.map yv) (ab 1) ag)) r);generalize eH G p1 (.lst (dY (a.map yv) (ab 1) ag))=H5 at Y J u |-;walk_at "c";have ll:(a.zip (a.drop 1)).length<=av:=by rw[qE];omega
 rw[RG] at x;generalize a.zip (a.drop 1)=L at *;refine lA (λq:AW × AW=>yv q.1) (λq=>yv q.2) (λq=>T.bl (B7 (yy q.1) (yy q.2))) L [] ⟨.inl Y,.inl J⟩ ll (λq hq Q' l=>?_) (λp2 y=>?_)
 .simp only[yv];have h2:=t6.mk l;clear l x V;walk_at "";have e:(if (q.1.1:Int)=(q.2.1:Int) then decide ((q.1.2.1:Int)<(q.2.2.1:Int)) else decide ((q.1.1:Int)<(q.2.1:Int)))=B7 (yy q.1) (yy q.2):=by unfold B7 yy;simp only[mo,Int.ofNat_lt]
  rw[e];exact h2.out
 have eb:bV (L.map λq=>T.bl (B7 (yy q.1) (yy q.2)))=ab (L.map λq=>B7 (yy q.1) (yy q.2)):=by rw[<- f9,W_];rfl
 rw[eb,dZ,ke];exact n7.of (u.trans (eG.new y)) x.out
abbrev fc:List ap:=["walk","many","cases","stands","done","reason"]
theorem rB:fY fc fc (aC (vT 33)):=aX
theorem rC {f:af} (g:G3 K mg "is_reason" (vT 33) fc f z) (B:Bl mg) (t:BY K b ["works","beat","rules","whole"]) (e:Z1 P w K mg base 4 "is_left" (vT 30) ["walk","left","done","length"] (Wq b)) (d:Z1 P w K mg base 1 "is_less" (vT 31) ["cases","stands","done","other"] (Wr w)) (i:Z1 P w K mg base 6 "is_ways" (vT 32) ["walk","cases","stands","done","others"] (Ws w b)):Z1 P w K mg base 7 "is_reason" (vT 33) fc (Wu w b):=by
 refine c6 g rB ?_;rintro _ _ _ s _ _ _ H3 Q v ⟨a,c,W,d8,many,kvs,ks,s,m,r,rfl,u,C,J,L,G,l,y,k,F⟩;have j:=zc.u30 v;refine⟨_,(aj (bc (aO (bR j) (aJ wt xA ao) cZ) (au (aK (aN e v rfl (aa wh (aa (aF fG wm xa) (aa xk (aa (aJ wt xA ao) ak))))))) aL)
   (aj (bc (aO (bR j) (aJ wt xA ao) cZ) (au (aK (aN d v rfl (aa w4 (aa xa (aa xk (aa (aJ wt xA ao) ak))))))) aL)
   (au (aK (mJ (di Uw xa wm) (mH (aN i v rfl (aa wh (aa w4 (aa xa (aa xk (aa (aJ wt xA ao) ak)))))))))))),?_⟩
 walk_at "q";walk_at "h";have q:=t6.mk F;clear F;have M:=u.r8;cases r with
 |left n=>simp only[IY];walk_at "";refine⟨a,W,d8,(many:Int) - s,n,m,rfl,u,C,y,uS,uS,?_⟩;exact n7.of eG.refl q.out
 |less o=>simp only[IY];walk_at "";rw[wc xo];refine⟨c,kvs,W,ks,s,m,o,rfl,u,G,l,y,k,?_⟩;exact n7.of eG.refl q.out
 |ways os =>
 simp only[IY];walk_at "";rw[wc xo,wc xo];by_cases D:s<many
 .have p:Q (.bl (decide (s<many)&&(decide (os=Ct W d8 s m)&&os.all λo=>decide ((s+1,o)∈ks)))) H3:=q.out;rw[k_ D,Y7] at p;rw[we (k_ uS)];exact⟨a,c,W,d8,kvs,ks,s,m,os,rfl,u,C,G,l,y,uS,k,n7.of eG.refl p⟩
 have p:Q (.bl (decide (s<many)&&(decide (os=Ct W d8 s m)&&os.all λo=>decide ((s+1,o)∈ks)))) H3:=q.out;rw[m_ D,Zu] at p;rw[wc (by rw[m_ uS];decide)];exact n7.of eG.refl p
abbrev fW:List ap:=["walk","cases","stands","done","others"]
theorem wY:fY fW fW (aC (vT 32)):=aX
theorem wZ {f:af} (g:G3 K mg "is_ways" (vT 32) fW f I) (B:Bl mg) (u:BY K d ["works","beat","rules","whole"]) (b:Z1 P w K mg base 5 "dones_behind" (vT 28) ["walk","stand","done"] (Wo d)):Z1 P w K mg base 6 "is_ways" (vT 32) fW (Ws w d):=by
 refine c6 g wY ?_;rintro _ _ _ s H _ _ _ _ O ⟨a,c,W,d8,kvs,ks,s,m,os,rfl,F,X,gc,x,L,hs,r,J⟩;have j:=zc.u30 O;refine⟨_,(aj (bc (aO (gF j) xk (aN b O rfl (aa wh (aa w4 (aa xa ak))))) (au (aK cG)) aL)
   (au (aK (aM (vQ rfl) rfl B.all_ vP (aa (bD rfl (b6 32 fW ["other","cases","stands"] 1 [1,2]) (cD xk) (λcl M s H C0 fp=>⟨(aB 0 (n5 ["other","cases","stands"])),bY,(yr (w:=w) rfl j (bB (aa (aF aZ w4 ao) (aa wh ak))) wm)⟩)) ak))))),?_⟩
 walk_at "q";walk_at "h";have t:=t6.mk J;clear J;have q:=wL (d8:=d8) (s:=s) F L;have k:=J9 F r.1 q;obtain⟨G,S⟩:=r;walk_at "s";refine⟨a,W,d8,s,m,rfl,F,X,L,hs,?_⟩;try dsimp only
 rw[Do];have n:∀l:List Nat,(l.map (ze W)).all (pl 20)=ai:=λl=>by have:=Rt (l.map (pk W));rw[W_] at this;exact this
 refine⟨n _,n _,?_⟩;by_cases e:os=Ct W d8 s m
 .rw[k_ (k.mpr e),dw,wc vS];rw[k_ e,Y7] at t;walk_at "n";clear q k e;walk_at "";walk_at "c";refine bJ (ze W) (λo=>T.bl (decide ((s+1,o)∈ks))) os [ab (.ref c),ab (.int (s:Int))] trivial uS (λo Y Q' v=>?_) (λp hp=>?_)
  .have y:=x (s+1) o (G o Y);have V:((s+1:Nat):Int)=(s:Int)+1:=rfl;rw[V] at y;rw[<- y] at v;have D:=t6.mk v;clear v t y;simp only[ze,sT];walk_at "";exact⟨vS,D.out⟩
  have R:bV (os.map λo=>T.bl (decide ((s+1,o)∈ks)))=ab (os.map λo=>decide ((s+1,o)∈ks)):=by rw[<- f9,W_];rfl
  rw[R,dZ,ke];exact n7.of (eG.new hp) t.out
 rw[m_ (λz=>e (k.mp z)),dw,we vS];rw[m_ e,Zu] at t;exact n7.of eG.refl t.out
abbrev fX:List ap:=["cases","stands","done","other"]
theorem w5:fY fX fX (aC (vT 31)):=aX
theorem w6 {f:af} (g:G3 K mg "is_less" (vT 31) fX f C) (B:Bl mg):Z1 P w K mg base 1 "is_less" (vT 31) fX (Wr w):=by
 refine c6 g w5 ?_;rintro _ _ _ s H _ _ H3 Q M ⟨c,kvs,W,ks,s,m,o,rfl,v,gc,r,I,q,G⟩;have b:=zc.u30 M;have j:=zc.u31 M;refine⟨_,(au (aK (mJ (yr (w:=w) rfl b (bB (aa wm (aa xa ak))) wh) (mJ (di (gF b) xa w4) (mH (aM (vQ rfl) rfl B.all_ vP (aa (bD rfl (b6 31 fX ["task","other"] 1 [3]) (cD w4) (λcl L s H Y fp=>⟨(aB 0 (n5 ["task","other"])),bY,(di (iy j) wh wm rfl)⟩)) ak))))))),?_⟩;walk_at "q";walk_at "h";have F:=t6.mk G;clear G;have S:=r s o q;have y:=yR v q I;have X:(pk W m).length<=8:=R_ (lV _ _) (by show (nm W).length<=8;rw[cX];exact v.t8);have d:pk W o=pk W m↔o=m:=⟨qY v q I,λz=>by rw[z]⟩;simp only[ze,sT];walk_at "";refine⟨vS,?_⟩;have a:=F.out;clear F S;by_cases l:(s,o)∈ks
 .rw[k_ l,Y7] at a;rw[k_ l,we rfl];refine⟨cz _,cz _,?_⟩;have e:((pk W o).map t4=(pk W m).map t4)↔o=m:=Iff.trans ⟨λz=>nr (λ_ _ z=>gG z) |>.mp z,λz=>by rw[z]⟩ d;by_cases k:o=m
  .rw[wc (by rw[k_ (e.mpr k)];decide)];rw[k_ k] at a;exact n7.of eG.refl a
  rw[we (by rw[m_ (λz=>k (e.mp z))];rfl)];rw[m_ k,DS,Y7] at a;walk_at "c";have V:bj o m=(pk W m).all λx=>decide (x∈pk W o):=by rw[Yx,y,YG];exact⟨λh x n=>k_ (h x n),λh x n=>Zq (h x n)⟩
  rw[V] at a;have J:t6 (Q (.bl ((pk W m).all λx=>decide (x∈pk W o))) H3):=⟨a⟩;clear a;refine bJ t4 (λx=>T.bl (decide (x∈pk W o))) (pk W m) [ab (.tup ((pk W o).map t4))] trivial uS (λx n Z D=>?_) (λp U=>?_)
  .have u:=t6.mk D;clear D J;have po:=cz (pk W o);have pd:pl 20 (t4 x)=ai:=rfl;walk_at "";rw[We];exact⟨wo,wo,u.out⟩
  have O:bV ((pk W m).map λx=>T.bl (decide (x∈pk W o)))=ab ((pk W m).map λx=>decide (x∈pk W o)):=by rw[<- f9,W_];rfl
  rw[O,dZ,ke];exact n7.of (eG.new U) J.out
 rw[m_ l,Zu] at a;rw[m_ l,wc vS];exact n7.of eG.refl a
abbrev gW:List ap:=["walk","left","done","length"]
theorem xf:fY gW gW (aC (vT 30)):=aX
theorem xg {f:af} (g:G3 K mg "is_left" (vT 30) gW f l) (B:Bl mg) (d:BY K c ["works","beat","rules","whole"]) (b:Z1 P w K mg base 3 "length_left" (vT 27) ["walk","done"] (Wn c)):Z1 P w K mg base 4 "is_left" (vT 30) gW (Wq c):=by
 refine c6 g xf ?_;rintro _ _ _ _ _ _ _ _ _ r ⟨a,W,d8,left,n,m,rfl,y,o,v,G,C,q⟩;have i:=zc.u30 r;refine⟨_,(au (aK (mJ (di (bR i) xa (aN b r rfl (aa wh (aa w4 ak)))) (mH (di mQ xa (aF c7 (eE d wh) wm)))))),?_⟩;walk_at "q";walk_at "h";have u:=t6.mk q;clear q;obtain⟨p,z,D⟩:=o.ex;have F:=yM (W:=W) (d8:=d8) (p:=p);walk_at "";refine⟨a,W,d8,m,rfl,y,o,v,?_⟩;have x:EV d8 left:=.inr ⟨uS,uS⟩;walk_at "";have j:=u.out;by_cases e:n=AY W m
 .rw[we (k_ e)];rw[k_ e,Y7] at j;exact⟨by first | trivial | exact x,n7.of eG.refl j⟩
 rw[wc (by simpa using e)];rw[m_ e,Zu] at j;exact n7.of eG.refl j
abbrev pY:List ap:=["walk","done","number","own","length","kinds","group","ahead","apart"]
theorem E4:fY pY ["walk","done"] (aC (vT 29)):=aX
theorem xj {f:af} (g:G3 K mg "is_done" (vT 29) ["walk","done"] f fd) (B:Bl mg) (j:BY K l ["works","beat","rules","whole"]) (d:Z1 P w K mg base 1 "number_of" (vT 15) ["works","tasks"] nO) (k:Z1 P w K mg base 1 "tasks_of" (vT 16) ["works","number"] GZ) (b:Z1 P w K mg base 1 "has_all" (vT 20) ["number","part"] pX):Z1 P w K mg base 2 "is_done" (vT 29) ["walk","done"] (M6 l):=by
 refine c6 g E4 ?_;rintro _ A _ s H _ _ H3 _ L ⟨a,W,d8,m,rfl,X,hw,hm,kk⟩;have G:=zc.u30 L;refine⟨_,(aj (aD 2 E4.nd (aN d L rfl (aa (eE j wh) (aa wm ak))))
   (aj (bc (aO (gF G) (aN k L rfl (aa (eE j wh) (aa w4 ak))) wm) (au (aK cG)) aL)
   (aj (bh G_ rfl (bA (eE j wh)) (bU (n:=6) rfl (aG (aB 3 E4.nd) (aG (aB 4 E4.nd) (aG (aB 5 E4.nd) (aG (aB 6 E4.nd) (aG (aB 7 E4.nd) (aG (aB 8 E4.nd) bC))))))) (au (bc (yk.pt (cW (cH (aN b L rfl (aa w4 (aa xa ak)))) (cL (fC (cH (aN b L rfl (aa w4 (aa (aF yg y6 y7) ak)))))))) (au (aK cG)) aL)))
   (au (aK cG))))),?_⟩
 walk_at "q";walk_at "h";have k':=t6.mk kk;clear kk;obtain⟨p,g1,g2⟩:=hw.ex;have f1:=jV (W:=W) (d8:=d8) (p:=p);have f3:=nj (W:=W) (d8:=d8) (p:=p);walk_at "s";refine⟨W,_,pk W m,rfl,X,.inl rfl,?_⟩;walk_at "n";walk_at "s";refine⟨W,(m:Int),by rw[<- jW X hm],X,uS,by have:=hm;unfold vF at this;exact_mod_cast this,?_⟩;have e0:sT (xc (W.tasks.map (·.1)) (m:Int))=ze W m:=rfl;try dsimp only
 rw[e0];simp only[ze,sT];rw[Do];refine⟨cz _,cz _,?_⟩;rw[k_ rfl,dw];rw[wc vS];walk_at "n";refine aA λR2 R=>?_;walk_at "";refine aU (zv W (W.tasks.map (·.1))) W.tasks (λA Z H=>∃v3 r D v C F:Option T,Z=[ab (.ref a),ab (ze W m),ab (.int (vE (W.tasks.map (·.1)) (pk W m))),v3,r,D,v,C,F]/\H=H3/\∀t∈A,t.1∈pk W m->∀x,x∈bf W t.1\/x∈dz W t.1->x∈pk W m) ⟨_,_,_,_,_,_,rfl,rfl,λ_ h=>nomatch h⟩ ?_ ?_
 .rintro Z H ⟨v3,r,D,v,C,F,rfl,rfl,M⟩;refine⟨.inl g2,?_⟩;walk_at "n";walk_at "";have Y:EN W m=ai:=KS.mpr λt S x q=>by obtain⟨u,o,eu⟩:=o_.mp (dq S);rw[<- eu] at S q;exact M u o S x q
  have I:=k'.out;rw[Y] at I;exact n7.of eG.refl I
 rintro A t B Z H N e ⟨v3,r,D,v,C,F,rfl,rfl,M⟩ hN;refine⟨.inl g2,?_⟩;have V:t.1∈W.tasks.map (·.1):=o_.mpr ⟨t,by rw[e];simp,rfl⟩;have b1:=lU (A:=pk W m) V;have b2:=dm (W.tasks.map (·.1)) (pk W m) (bf W t.1++dz W t.1);have b3:=m5 (W.tasks.map (·.1)) (bf W t.1) (dz W t.1);have J:=t6.mk λv3 r D v C F z=>hN _ H ⟨v3,r,D,v,C,F,rfl,rfl,z⟩;have y:=t6.mk M;clear hN e R M;simp only[zv];walk_at "";refine⟨wo,_,_,rfl,?_⟩;by_cases c:t.1∈pk W m
 .rw[k_ (b1.mpr c)];try dsimp only
  rw[dw,we rfl];refine⟨_,_,rfl,?_⟩;by_cases O:∀x∈W.tasks.map (·.1),x∈bf W t.1++dz W t.1->x∈pk W m
  .rw[k_ (b2.mpr O)];try dsimp only
   rw[dw,wc vS];refine J.out _ _ _ _ _ _ λu o=>?_;rcases q_.mp o with o | o
   .exact y.out u o
   rw[j_.mp o];intro _ x q;refine O x ?_ (q_.mpr q);rcases q with q | q
   .exact (p_.mp q).1
   exact (p_.mp q).1
  rw[m_ (λz=>O (b2.mp z))];try dsimp only
  rw[dw,we vS];have Y:EN W m=am:=by
   cases e:EN W m with
   |false=>rfl
   |true=>exact wT (λx _ q=>KS.mp e t.1 c x (q_.mp q)) O
  have I:=k'.out;rw[Y] at I;exact n7.of eG.refl I
 rw[m_ (λz=>c (b1.mp z))];try dsimp only
 rw[dw,wc vS];refine J.out _ _ _ _ _ _ λu o=>?_;rcases q_.mp o with o | o
 .exact y.out u o
 rw[j_.mp o];exact λz=>wT z c
abbrev gC:List ap:=["walk","stand","done","number"]
theorem NF:fY gC ["walk","stand","done"] (aC (vT 28)):=aX
theorem lL {f:af} (g:G3 K mg "dones_behind" (vT 28) ["walk","stand","done"] f G) (B:Bl mg) (j:BY K b ["works","beat","rules","whole"]) (d:Z1 P w K mg base 1 "number_of" (vT 15) ["works","tasks"] nO) (e:Z1 P w K mg base 1 "tasks_of" (vT 16) ["works","number"] GZ) (c:FU P w K mg base b 4 "greatest_at" ["self","stand","done"] (Wl b)):Z1 P w K mg base 5 "dones_behind" (vT 28) ["walk","stand","done"] (Wo b):=by
 refine c6 g NF ?_;rintro _ _ _ s H _ _ H3 _ F ⟨a,W,d8,s,m,rfl,k,J,z,hs,M⟩;refine⟨_,(aj (aD 3 NF.nd (aN d F rfl (aa (eE j wh) (aa w4 ak))))
   (au (aK (bG cR rfl B.tuple_ cT (aa (bD rfl (b6 28 gC ["filling","walk","number"] 1 [0,3]) (bA (qO c (F.mono vS) wh (aa wm (aa xa ak)))) (λcl R s H C0 fp=>⟨(aB 0 (n5 ["filling","walk","number"])),bY,(aN e F rfl (aa (eE j wm) (aa (aF aZ w4 wh) ak)))⟩)) ak))))),?_⟩
 walk_at "q";walk_at "h";have v:=t6.mk M;clear M;obtain⟨p,I,g2⟩:=J.ex;have f1:=jV (W:=W) (d8:=d8) (p:=p);have U:=FW (W:=W) (d8:=d8) (p:=p) (m:="greatest_at") xo;walk_at "s";refine⟨W,_,pk W m,rfl,k,.inl rfl,?_⟩;rw[jW k z];walk_at "n";have gl:=qZ (d8:=d8) (s:=s) (m:=m) k;walk_at "";refine⟨by first | trivial | exact U,a,W,d8,s,m,rfl,k,J,hs,z,λl n=>?_⟩;have u:a≠l:=bF I n;have Y:eH H3 l (.lst ((zw W d8 s m).map aV)) a=ab (.ins b (BQ W d8 p)):=by rw[aH u];exact I
 have D:eH H3 l (.lst ((zw W d8 s m).map aV)) l=ab (.lst ((zw W d8 s m).map aV)):=aq;have L:eG H3 (eH H3 l (.lst ((zw W d8 s m).map aV))):=eG.new n;generalize eH H3 l (.lst ((zw W d8 s m).map aV))=H4 at Y D L |-;try dsimp only
 rw[yc,D,pC];walk_at "c";have o:∀f∈zw W d8 s m,m+f<vF W:=λf C=>qW k z (iu C);have O:(Ct W d8 s m).map (ze W)=(zw W d8 s m).map λf=>ze W (m+f):=W_;rw[O] at v;generalize zw W d8 s m=Z at *;refine bJ aV (λf=>ze W (m+f)) Z [ab (.ref a),ab (.int (m:Int))] (.inl D) uS (λf C Q' t=>?_) (λq t=>?_)
 .have r:=o f C;have y:=t6.mk t;clear t o v O;simp only[aV];walk_at "";have V:(m:Int)+(f:Int)=((m+f:Nat):Int):=uS
  rw[V];refine⟨W,((m+f:Nat):Int),wn,k,uS,by unfold vF at r;exact_mod_cast r,y.out⟩
 exact n7.of (L.trans (eG.new t)) v.out
abbrev dH:List ap:=["walk","done"]
theorem nT:fY dH dH (aC (vT 27)):=aX
theorem nU {f:af} (g:G3 K mg "length_left" (vT 27) dH f k) (B:Bl mg) (e:BY K b ["works","beat","rules","whole"]) (c:Z1 P w K mg base 1 "number_of" (vT 15) ["works","tasks"] nO) (d:FU P w K mg base b 2 "load_at" ["self","number"] (M5 b)):Z1 P w K mg base 3 "length_left" (vT 27) dH (Wn b):=by
 refine c6 g nT ?_;rintro q _ _ _ _ _ _ _ _ o ⟨a,W,d8,m,rfl,j,l,t,n⟩;refine⟨_,(au (aK (qO d (o.mono vS) wh (aa (aF fG (eE e wh) (aN c o rfl (aa (eE e wh) (aa wm ak)))) ak)))),?_⟩;walk_at "q";walk_at "h";have r:=t6.mk n;clear n;obtain⟨p,u,z⟩:=l.ex;have x:=jV (W:=W) (d8:=d8) (p:=p);have C:=uG (W:=W) (d8:=d8) (p:=p);have v:=FW (W:=W) (d8:=d8) (p:=p) (m:="load_at") xo;walk_at "";refine⟨wo,W,_,pk W m,rfl,j,.inl rfl,?_⟩;rw[jW j t];have y:=eF W;refine⟨a,W,d8,vF W - 1 - m,by show [t9 a,t3 ((vF W:Int) - 1 - (m:Int))]=_;rw[show (vF W:Int) - 1 - (m:Int)=((vF W - 1 - m:Nat):Int) by omega],j,l,uS,?_⟩;exact n7.of eG.refl r.out
abbrev kZ:List ap:=[w_,AH,"_law_led",DU,A6,EB,FO,"_law_found","_law_waiting","_law_known","_law_here"]
theorem Z7:fY kZ [w_] (aC (vT 50)):=aX
theorem xm {f:af} (g:G3 K mg "_law_chained" (vT 50) [w_] f fd) (B:Bl mg):Z1 P w K mg base 1 "_law_chained" (vT 50) [w_] RZ:=by
 refine c6 g Z7 ?_;rintro _ A _ s H _ _ H3 _ hr ⟨W,rfl,hW,kk⟩;have hu30:=zc.u30 hr;have hu31:=zc.u31 hr;have S:=zc.u1 hr;refine⟨_,(aj (jd (i:=1) rfl Z7.nd (b6 50 kZ [EI] 1 []) (cD (aJ wt wh ao)) (λcl P8 s H C0 fp=>⟨(aB 0 (n5 [EI])),bY,(aJ wt wh ao)⟩))
   (aj (aD 2 Z7.nd qH)
   (aj (bh G_ rfl (bA wm) (aB 3 Z7.nd) (au (jM S w4 xa (aY ak))))
   (aj (bh G_ rfl (cD (aJ wt wh ao)) (bU (n:=2) rfl (aG (aB 4 Z7.nd) (aG (aB 5 Z7.nd) bC))) (au (bK (dj I_ M_ N_ bx (dM S w4 xk) (aa xA ak)))))
   (aj (bh G_ rfl (cD (aJ wt wh ao)) (bU (n:=3) rfl (aG (aB 6 Z7.nd) (aG (aB 4 Z7.nd) (aG (aB 5 Z7.nd) bC)))) (au (bc (aO (bR hu30) y6 cZ) (aj (bK (dj I_ M_ N_ bx (dM S w4 xk) (aa xA ak)))
     (au (bK (dj I_ M_ N_ bx (dM S w4 xA) (aa xk ak))))) aL)))
   (aj (aD 7 Z7.nd qH)
   (aj (bh G_ rfl (bA wm) (aB 3 Z7.nd) (aj (aD 8 Z7.nd (bG xX rfl B.list_ qF (aa (dM S w4 xa) ak)))
    (aj (aD 9 Z7.nd (aY ak))
    (aj (jL G_ (aO (gF hu30) AC (aY ak)) (aj (aD 10 Z7.nd (ww I_ PySem.F.slot_list_pop PySem.F.type_list_pop Rv AC))
     (au (bc (aO (iI hu31) (v3 10) AN rfl) (aj (bK (dj I_ M_ N_ bx AN (aa (v3 10) ak)))
      (au (bK (dj I_ PySem.F.slot_list_extend PySem.F.type_list_extend Ad AC (aa (dM S w4 (v3 10)) ak))))) aL))))
    (au (jM S y7 xa AN))))))
   (au (aK y7))))))))),?_⟩
 walk_at "q";walk_at "h";have k':=t6.mk kk;clear kk;have t8:=hW.t8;have o28:=hW.os;have p12:=hW.ps;have nl:(nm W).length=W.tasks.length:=cX W;have M:=t6.mk hW;clear hW;walk_at "s";walk_at "c";refine bJ xp (λt=>t4 t.1) W.tasks [] trivial uS ?c1 ?c2
 case c1 =>
  intro t ht Q' hq
  clear k'
  simp only[xp]
  walk_at ""
  try exact hq
 intro Y hpn;have e1:W.tasks.map (λt=>t4 t.1)=(nm W).map t4:=by unfold nm;rw[W_];rfl
 rw[e1];have sb0:eG H3 (eH H3 Y (.lst ((nm W).map t4))):=eG.new hpn;have X:eH H3 Y (.lst ((nm W).map t4)) Y=ab (.lst ((nm W).map t4)):=aq;generalize eH H3 Y (.lst ((nm W).map t4))=H4 at sb0 X |-;clear e1 hpn;walk_at "n";walk_at "s";intro I hpd;have l0:BH H4 (eH H4 I (.dct [])) I [] (λ_=>0) (λ_=>[]):=⟨eG.new hpd,aq,(λ_ h=>nomatch h),(λ_ h=>nomatch h),(λ_ h=>nomatch h),hpd⟩;generalize eH H4 I (.dct [])=H5 at l0 |-;clear hpd;walk_at "n";refine aA λR2 hR2=>?_;have gn5:=l0.sb _ _ X;walk_at "";refine aU t4 (nm W) (λA Z H=>∃(R:ap->af) (v3 O J D U v G c:Option T),Z=[ab W.enc,ab (.ref Y),ab (.ref I),v3,O,J,D,U,v,G,c]/\BH H4 H I A R (λ_=>[])) ⟨_,_,_,_,_,_,_,_,_,rfl,l0⟩ ?_ ?_;rotate_left
 .rintro A n B Z H N e ⟨R,v3,O,J,D,U,v,G,c,rfl,d⟩ hN;refine⟨.inl (d.sb _ _ X),?_⟩;have hnA:n∉A:=λz=>by have:=M.out.nd;unfold nm at e;rw[e,IB] at this;exact this.2.2 n z n A_ rfl
  have hAl:A.length<9:=by have:=YB a5 e;rw[nl,b_,n_] at this;omega
  have dcg:=d.dc;have lgl:(dG R A).length=A.length:=g_ _;have j:=t6.mk hN;clear hN e k' hR2;walk_at "";refine⟨vS,λp hp=>?_⟩;have np:I≠p:=bF dcg hp;have l2:=(d.more (eG.new (o:=.lst []) hp)).put (K:=[]) hnA aq (λm r=>bF (d.at_ m r) hp) (cF d.sb hp);have g2:eH H p (.lst []) I=ab (.dct (dG R A)):=by rw[aH np];exact dcg
  walk_at "";refine⟨uS,j.out _ _ ⟨AZ n p R,_,_,_,_,_,_,_,_,rfl,?_⟩⟩;rw[show (λ_=>[]:ap->List ap)=AZ n [] λ_=>[] from by funext m;unfold AZ;split <;> rfl];exact l2
 rintro Z H ⟨R,v3,O,J,D,U,v,G,c,rfl,d⟩;refine⟨.inl (d.sb _ _ X),?_⟩;clear l0 gn5;walk_at "n";refine aA λR3 hR3=>?_;walk_at "";refine aU xw W.orders (λA Z H=>∃(L:ap->List ap) (v3 O J D U v G c:Option T),Z=[ab W.enc,ab (.ref Y),ab (.ref I),v3,O,J,D,U,v,G,c]/\BH H4 H I (nm W) R L/\(∀n x,x∈L n↔(n,x)∈A)/\∀n,(L n).length<=A.length) ⟨_,_,_,_,_,_,_,_,_,rfl,d,(λn x=>by simp),λn=>Y5 _⟩ ?_ ?_;rotate_left
 .rintro A ⟨a,b⟩ B Z H N e ⟨L,v3,O,J,D,U,v,G,c,rfl,d,hL,hl⟩ hN;walk_at "t";have hA:A.length<29:=by have:=YB a5 e;rw[b_,n_] at this;omega
  have r:a≠b/\a∈nm W/\b∈nm W:=M.out.oo (a,b) (by rw[e];simp);have dcg:=d.dc;have lk:=gJ (g:=R) r.2.1;have ga:=d.at_ a r.2.1;have hla:=hl a;have l2:=d.app r.2.1 b;have j:t6 (N [ab W.enc,ab (.ref Y),ab (.ref I),v3,ab (.str a),ab (.str b),D,U,v,G,c] (eH H (R a) (.lst ((L a).map t4++[t4 b])))):=⟨hN _ _ ⟨_,_,_,_,_,_,_,_,_,rfl,l2,λn x=>by
   rw[q_,j_,Z_,<- hL]
   unfold AZ
   split
   ·
    rename_i z;subst z;rw[q_,j_];exact or_congr_right ⟨λq=>⟨rfl,q⟩,λq=>q.2⟩
   ·
    rename_i z;exact⟨.inl,λq=>q.resolve_right λq=>z q.1⟩,λn=>by
   rw[b_,t_]
   have:=hl n
   unfold AZ
   split
   ·
    rw[b_,t_];omega
   ·
    omega⟩⟩
  clear hN e k' hR3 hL hl l2 r;simp only[xw];walk_at "";exact⟨wo,⟨wo,wo⟩,uS,j.out⟩
 rintro Z H ⟨L,v3,O,J,D,U,v,G,c,rfl,lg1,hL,hl⟩;walk_at "t";clear d;walk_at "n";refine aA λR4 hR4=>?_;walk_at "";refine aU ya W.pairs (λA Z H=>∃(L:ap->List ap) (v3 O J D U v G c:Option T),Z=[ab W.enc,ab (.ref Y),ab (.ref I),v3,O,J,D,U,v,G,c]/\BH H4 H I (nm W) R L/\(∀n x,x∈L n↔(n,x)∈W.orders++A.flatMap (AF ["with"]))/\∀n,(L n).length<=W.orders.length+2*A.length) ⟨_,_,_,_,_,_,_,_,_,rfl,lg1,(λn x=>by rw[hL];simp),λn=>by have:=hl n;simp;omega⟩ ?_ ?_;rotate_left
 .rintro A ⟨wd,a,b⟩ B Z H N e ⟨L,v3,O,J,D,U,v,G,c,rfl,d,hL,hl⟩ hN;walk_at "t";have hA:A.length<13:=by have:=YB a5 e;rw[b_,n_] at this;omega
  have r:a≠b/\a∈nm W/\b∈nm W:=(M.out.pp (wd,a,b) (by rw[e];simp)).2;have dcg:=d.dc;have lk:=gJ (g:=R) r.2.1;have lk2:=gJ (g:=R) r.2.2;have ga:=d.at_ a r.2.1;have hla:=hl a;have hlb:=hl b;by_cases c1:wd="with"
  .subst c1;have l2:=d.app r.2.1 b;have gb:=l2.at_ b r.2.2;rw[fH (a7 r.1)] at gb;have dcg2:=l2.dc;have l3:=l2.app r.2.2 a;rw[fH (a7 r.1)] at l3;have j:t6 (N [ab W.enc,ab (.ref Y),ab (.ref I),v3,ab (.str a),ab (.str b),ab (.str "with"),U,v,G,c] (eH (eH H (R a) (.lst ((L a).map t4++[t4 b]))) (R b) (.lst ((L b).map t4++[t4 a])))):=⟨hN _ _ ⟨_,_,_,_,_,_,_,_,_,rfl,l3,λn x=>by
    rw[Fn,<- ZR,q_,<- hL,ID,WF,Z_,Z_]
    unfold AZ
    by_cases z:n=b
    ·
     subst z
     rw[we rfl,q_,j_]
     exact or_congr_right ⟨λq=>.inr ⟨rfl,q⟩,λq=>q.elim (λq=>wT q.1.symm r.1) λq=>q.2⟩
    ·
     rw[wc z]
     by_cases z2:n=a
     ·
      subst z2
      rw[we rfl,q_,j_]
      exact or_congr_right ⟨λq=>.inl ⟨rfl,q⟩,λq=>q.elim (λq=>q.2) λq=>wT q.1 z⟩
     ·
      rw[wc z2]
      exact⟨.inl,λq=>q.resolve_right λq=>q.elim (λq=>z2 q.1) λq=>z q.1⟩,λn=>by
    rw[b_,t_]
    have:=hl n
    unfold AZ
    split
    ·
     rw[b_,t_];omega
    ·
     split
     ·
      rw[b_,t_];omega
     ·
      omega⟩⟩
   clear hN e k' hR4 hL hl l2 l3 r d;simp only[ya];walk_at "";exact⟨wo,⟨wo,wo⟩,uS,⟨wo,wo⟩,uS,j.out⟩
  have j:t6 (N [ab W.enc,ab (.ref Y),ab (.ref I),v3,ab (.str a),ab (.str b),ab (.str wd),U,v,G,c] H):=⟨hN _ _ ⟨_,_,_,_,_,_,_,_,_,rfl,d,λn x=>by
   rw[Fn,<- ZR,q_,<- hL,ID]
   unfold AF
   rw[wc (by simpa using c1)]
   simp,λn=>by
   rw[b_,t_]
   have:=hl n
   omega⟩⟩
  clear hN e k' hR4 hL hl r d;simp only[ya];walk_at "";try simp only[c1,Zd,v_,V_]
  exact⟨wo,j.out⟩
 rintro Z Hx ⟨L,v3,O,J,D,U,v,G,c,rfl,d,hL2,hl2⟩;walk_at "t";clear lg1 hL hl;have hLk:t6 (∀n x,x∈L n↔zl ["with"] W n x):=⟨hL2⟩;have hLl:∀n,(L n).length<=52:=λn=>by have:=hl2 n;omega
 clear hL2 hl2;walk_at "n";walk_at "s";intro pf hpf;have l0:BH Hx (eH Hx pf (.dct [])) pf [] (λ_=>0) (λ_=>[]):=⟨eG.new hpf,aq,(λ_ h=>nomatch h),(λ_ h=>nomatch h),(λ_ h=>nomatch h),hpf⟩;generalize eH Hx pf (.dct [])=H6 at l0 |-;clear hpf;have gnx:=d.sb _ _ X;have dcx:=d.dc;have atx:=t6.mk d.at_;have sbx:=(sb0.trans d.sb);clear d X sb0;walk_at "n";refine aA λR6 hR6=>?_;have gn6:=l0.sb _ _ gnx;walk_at "";refine aU t4 (nm W) (λA Z H=>∃(kd:ap->af) (K:ap->List ap) (v3 O J D v G c:Option T),Z=[ab W.enc,ab (.ref Y),ab (.ref I),v3,O,J,D,ab (.ref pf),v,G,c]/\BH Hx H pf A kd K/\∀n∈A,∀x,x∈K n↔D6 W n x) ⟨_,_,_,_,_,_,_,_,_,rfl,l0,(λ_ h=>nomatch h)⟩ ?_ ?_
 .rintro Z H ⟨kd,K2,v3,O,J,D,v,G,c,rfl,l,hK⟩;refine⟨.inl (l.sb _ _ gnx),?_⟩;have fin:=t6.mk (k'.out H pf kd K2 (sbx.trans l.sb) l.dc l.at_ hK);clear k' l hK;walk_at "n";walk_at "";exact n7.of eG.refl fin.out
 rintro A t B Z Hb N e ⟨kd,K2,v3,O,J,D,v,G,c,rfl,l,hK⟩ hN;refine⟨.inl (l.sb _ _ gnx),?_⟩;have ht:t∈nm W:=by rw[e];simp
 have hnA:t∉A:=λz=>by have:=M.out.nd;unfold nm at e;rw[e,IB] at this;exact this.2.2 t z t A_ rfl
 have hAl:A.length<9:=by have:=YB a5 e;rw[nl,b_,n_] at this;omega
 have gd:=l.sb _ _ dcx;have lk:=gJ (g:=R) ht;have ga:=l.sb _ _ (atx.out t ht);have lt:=hLl t;have j:t6 (∀(H2:gV) (ks:List ap) (C pk:af) (c:Option T),eG Hb H2->Hb pk=ag->H2 pk=ab (.lst (ks.map t4))->(∀x,x∈ks↔D6 W t x)->N [ab W.enc,ab (.ref Y),ab (.ref I),ab (.str t),O,J,D,ab (.ref pf),ab (.ref C),ab (.ref pk),c] (eH H2 pf (.dct (xL t (t9 pk) (dG kd A))))):=⟨λH2 ks C pk c s2 hk gk hks=>hN _ _ ⟨AZ t pk kd,AZ t ks K2,_,_,_,_,_,_,_,rfl,(l.more s2).put hnA gk (λm r=>bF (l.at_ m r) hk) (cF l.sb hk),λn hn x=>by
  rcases q_.mp hn with hn | hn
  ·
   rw[show AZ t ks K2 n=K2 n from fH λz=>hnA (z▸hn)];exact hK n hn x
  ·
   rw[j_.mp hn,eY];exact hks x⟩⟩
 clear hN e k' hR6 hK l0 gn6;walk_at "s";intro C hpw;walk_at "n";walk_at "s";refine⟨vS,λpk hpk=>?_⟩;have hk0:=cU hpk;have sw:eG Hb (eH (eH Hb C (.lst ((L t).map t4))) pk (.lst (([]:List ap).map t4))):=(eG.new hpw).trans (eG.new hpk);have gw:eH (eH Hb C (.lst ((L t).map t4))) pk (.lst (([]:List ap).map t4)) C=ab (.lst ((L t).map t4)):=by rw[aH (a7 hk0.1)];exact aq
 have gk:eH (eH Hb C (.lst ((L t).map t4))) pk (.lst (([]:List ap).map t4)) pk=ab (.lst (([]:List ap).map t4)):=aq;rw[show (.lst []:O3)=.lst (([]:List ap).map t4) from rfl];generalize eH (eH Hb C (.lst ((L t).map t4))) pk (.lst (([]:List ap).map t4))=H7 at sw gw gk |-;clear hpk;walk_at "n";refine aA λR9 hR9=>?_;have gt0:Da W t (L t) []:=⟨λx h=>⟨x,(hLk.out t x).mp (h.resolve_right wn),.refl⟩,λx h=>.inl ((hLk.out t x).mpr h),(λ_ _ h=>nomatch h),EC⟩;have kle:t6 (∀ws ks,Da W t ws ks->ks.length<=8):=⟨λws ks g=>by
  have:=m6 (l:=ks) (m:=nm W) g.nd λx hx=>by
   obtain⟨y,h1,h2⟩:=g.fr x (.inr hx)
   cases h2 with
   |refl=>exact (yV M.out h1).2
   |step _ h=>exact (yV M.out h).2
  omega⟩
 walk_at "";refine⟨λm Z H=>∃(ws ks:List ap) (c:Option T),Z=[ab W.enc,ab (.ref Y),ab (.ref I),ab (.str t),O,J,D,ab (.ref pf),ab (.ref C),ab (.ref pk),c]/\eG Hb H/\H C=ab (.lst (ws.map t4))/\H pk=ab (.lst (ks.map t4))/\Da W t ws ks/\ws.length<=52*(ks.length+1)/\m=(9 - ks.length)*100+ws.length,⟨_,L t,[],_,rfl,sw,gw,gk,gt0,by simp;exact lt,rfl⟩,?_⟩;rintro m Z H ⟨ws,ks,c,rfl,sb,gw,gk,gt,hwl,rfl⟩;have k8:=kle.out ws ks gt;have dr:=sb _ _ gd;clear gt0 sw;walk_at "";refine⟨vS,λp hp=>?_⟩;have np:C≠p:=bF gw hp;have gw1:eH H p (.lst []) C=ab (.lst (ws.map t4)):=by rw[aH np];exact gw
 have gk1:eH H p (.lst []) pk=_ := EE gk hp;have sb1:eG Hb (eH H p (.lst [])):=sb.trans (eG.new hp);have gp1:eH H p (.lst []) p=ab (.lst []):=aq;generalize eH H p (.lst [])=H8 at gw1 gk1 sb1 gp1 |-;clear gw gk sb dr hp;have plw:=cz ws;have plk:=cz ks;have pln:([]:List T).all (pl 20)=ai:=rfl;rcases List.eq_nil_or_concat ws with k | ⟨u,x,k⟩
 .have x3:decide (ws.map t4=[])=ai:=by rw[k];rfl
  rw[k] at gt;have fin:=t6.mk (j.out H8 ks C pk c sb1 hk0.2 gk1 gt.fin);have gf:=sb1 _ _ l.dc;have lgl:(dG kd A).length=A.length:=g_ _;clear gt j kle hLk k atx;walk_at "";walk_at "n";walk_at "";exact⟨wo,wo,wo,uS,fin.out⟩
 have x1:(ws.map t4)[ws.length - 1]?=ab (t4 x):=by rw[k];simp
 have x2:(ws.map t4).dropLast=u.map t4:=by rw[k];simp
 have x3:decide (ws.map t4=[])=am:=by rw[k];simp
 have xl:t6 (ws.length=u.length+1):=⟨by rw[k];simp⟩;have plx:pl 20 (t4 x)=ai:=rfl;rw[k,List.concat_eq_append] at gt;have hxn:x∈nm W:=by
  obtain⟨y,h1,h2⟩:=gt.fr x (.inl wn);cases h2 with
  |refl=>exact (yV M.out h1).2
  |step _ h=>exact (yV M.out h).2
 have npk:C≠pk:=a7 hk0.1;have sb2:eG Hb (eH H8 C (.lst (u.map t4))):=iW sb1 hpw;by_cases hx:x∈ks
 .have x4:du ai (t4 x) (ks.map t4)=am:=by unfold du;rw[we rfl,Bool.not_eq_false',h_];exact o_.mpr ⟨x,hx,rfl⟩
  have g2:=t6.mk (gt.old hx);have V:=t6.mk sb2;clear gt j kle hLk k atx hx sb2 hxn;walk_at "";have xl':=xl.out;refine⟨wo,wo,wo,⟨wo,wo⟩,wo,wo,_,?_,u,ks,_,rfl,V.out,rfl,rfl,g2.out,uS,rfl⟩;omega
 have x4:du ai (t4 x) (ks.map t4)=ai:=by unfold du;rw[we rfl,ZW,YS];intro z;obtain⟨y,hy,e⟩:=o_.mp z;cases e;exact hx hy
 have g2:=t6.mk (gt.new hx (hLk.out x));have V:eG Hb (eH (eH H8 C (.lst (u.map t4))) pk (.lst (ks.map t4++[t4 x]))):=iW sb2 hk0.2;have gdx:=V _ _ gd;have lkx:=gJ (g:=R) hxn;have gax:=V _ _ (l.sb _ _ (atx.out x hxn));have gwx:eH (eH H8 C (.lst (u.map t4))) pk (.lst (ks.map t4++[t4 x])) C=ab (.lst (u.map t4)):=by rw[aH npk];exact aq
 have lx:=hLl x;have sb4:=t6.mk (iW (o:=.lst (u.map t4++(L x).map t4)) V hpw);have k7:=(kle.out _ _ g2.out);rw[b_,t_] at k7;clear gt j kle hLk k atx hx sb2 hxn V;walk_at "";have xl':=xl.out;refine⟨wo,wo,wo,⟨wo,wo⟩,wo,wo,⟨wo,wo⟩,uS,⟨wo,wo⟩,uS,_,?_,u++L x,ks++[x],_,rfl,sb4.out,by rw[B_],by rw[B_];rfl,g2.out,?_,rfl⟩
 .rw[b_,b_,t_];omega
 rw[b_,b_,t_];omega
abbrev j5:List ap:=[w_,AH,"_law_led","_law_groups_here",DU,"_law_group"]
theorem GL:fY j5 [w_] (aC (vT 51)):=aX
theorem Bf {f:af} (g:G3 K mg "_law_groups" (vT 51) [w_] f fd) (B:Bl mg) (a:Z1 P w K mg base 1 "_law_chained" (vT 50) [w_] RZ):Z1 P w K mg base 2 "_law_groups" (vT 51) [w_] WK:=by
 refine c6 g GL ?_;rintro _ A _ s H _ _ H3 _ hr ⟨W,rfl,hW,kk⟩;have n:=zc.u30 hr;have m:=zc.u31 hr;have R:=zc.u1 hr;refine⟨_,(aj (jd (i:=1) rfl GL.nd (b6 51 j5 [EI] 1 []) (cD (aJ wt wh ao)) (λcl U s H C0 fp=>⟨(aB 0 (n5 [EI])),bY,(aJ wt wh ao)⟩))
   (aj (aD 2 GL.nd (aN a hr rfl (aa wh ak)))
   (aj (aD 3 GL.nd (aY ak))
   (aj (bh G_ rfl (bA wm) (aB 4 GL.nd) (aj (jd (i:=5) rfl GL.nd (b6 51 j5 [EB,DU,"_law_led"] 1 [4,2]) (bA wm) (λcl U s H C0 fp=>⟨(aB 0 (n5 [EB,DU,"_law_led"])),(dJ (yk.pt (jq (aO (bR n) wh wm) (ik (yk.pt (cW (aO (iy m) wh (dM R w4 wm) rfl) (cL (aO (iy m) wm (dM R w4 wh) rfl)))))))),wh⟩))
    (au (bc (aO (bR n) (aJ wt xA ao) xk) (au (bK (dj I_ M_ N_ bx xa (aa (bG cR rfl B.tuple_ cT (aa xA ak)) ak)))) aL))))
   (au (aK xa)))))),?_⟩
 walk_at "q";walk_at "h";have k':=t6.mk kk;clear kk;have t8:=hW.t8;have nl:(nm W).length=W.tasks.length:=cX W;have hW':=t6.mk hW;clear hW;walk_at "s";walk_at "c";refine bJ xp (λt=>t4 t.1) W.tasks [] trivial uS ?c1 ?S
 case c1 =>
  intro t X Q' F
  clear k'
  simp only[xp]
  walk_at ""
  try exact F
 intro G O;have e1:W.tasks.map (λt=>t4 t.1)=(nm W).map t4:=by unfold nm;rw[W_];rfl
 rw[e1];have u:eG H3 (eH H3 G (.lst ((nm W).map t4))):=eG.new O;have d:eH H3 G (.lst ((nm W).map t4)) G=ab (.lst ((nm W).map t4)):=aq;generalize eH H3 G (.lst ((nm W).map t4))=H4 at u d |-;clear e1 O;walk_at "n";walk_at "s";refine⟨W,rfl,hW'.out,λo pf kd q D gf M hK=>?_⟩;try dsimp only
 walk_at "n";walk_at "s";refine⟨vS,λj C=>?_⟩;have h0:=cF (u.trans D) C;have p:eG o (eH o j (.lst [])):=eG.new C;have l:eH o j (.lst []) j=ab (.lst ((([]:List ap).map (bf W)).map sT)):=aq;generalize eH o j (.lst [])=H6 at p l |-;walk_at "n";refine aA λR3 hR3=>?_;have gn6:=p _ _ (D _ _ d);walk_at "";refine aU t4 (nm W) (λA Z H=>∃(J I:Option T),Z=[ab W.enc,ab (.ref G),ab (.ref pf),ab (.ref j),J,I]/\eG o H/\H j=ab (.lst (((A.filter λt=>decide ((bf W t).head?=ab t)).map (bf W)).map sT))) ⟨_,_,rfl,p,l⟩ ?_ ?_
 .rintro Z H ⟨J,I,rfl,k,l⟩;refine⟨.inl (k _ _ (D _ _ d)),?_⟩;have fin:=t6.mk (k'.out H j ((u.trans D).trans k) l);clear k';walk_at "n";walk_at "";exact n7.of eG.refl fin.out
 rintro A t B Z H N e ⟨J,I,rfl,k,l⟩ hN;refine⟨.inl (k _ _ (D _ _ d)),?_⟩;have X:t∈nm W:=by rw[e];simp
 have hAl:A.length<9:=by have:=YB a5 e;rw[nl,b_,n_] at this;omega
 have hfl:((A.filter λt=>decide ((bf W t).head?=ab t)).map (bf W)).length<=A.length:=by rw[g_];exact YD _ _
 have gd:=k _ _ gf;have gn:=k _ _ (D _ _ d);have lkt:=gJ (g:=kd) X;have gat:=k _ _ (M t X);have c:t6 (∀J I H',eG o H'->H' j=ab (.lst (((A.filter λt=>decide ((bf W t).head?=ab t)).map (bf W)).map sT++if (bf W t).head?=ab t then [sT (bf W t)] else []))->N [ab W.enc,ab (.ref G),ab (.ref pf),ab (.ref j),J,I] H'):=⟨λJ I H' s' g'=>hN _ _ ⟨_,_,rfl,s',by
  rw[g',Y_,B_,B_]
  by_cases h:(bf W t).head?=ab t
  ·
   simp [h]
  ·
   simp [h]⟩⟩
 have Y:=pM (W:=W) X;clear hN e k' hR3;refine aA λR4 V=>?_;walk_at "";walk_at "c";refine cN t4 t4 (λx=>decide (x=t)||(decide (x∈q t)&&decide (t∈q x))) (nm W) [ab (.str t),ab (.ref pf)] (.inl gn) uS (λx hx Q' F=>?_) (λx hx hpx Q' F=>?_) (λp1 v=>?_)
 .have lkx:=gJ (g:=kd) hx;have gax:=k _ _ (M x hx);have m1:=jX (x:=x) (xs:=q t);have m2:=jX (x:=t) (xs:=q x);have p1:=cz (q t);have p2:=cz (q x);have q1:pl 20 (t4 x)=ai:=rfl;have q2:pl 20 (t4 t)=ai:=rfl;have b:=t6.mk F;clear F c V hK M Y;walk_at "";by_cases c1:x=t
  .have L:decide (x=t)=ai:=k_ c1;rw[L,ot] at b;simp only[L,if_true];exact b.out
  have L:decide (x=t)=am:=m_ c1;rw[L,IA] at b;simp only[L,v_,V_];by_cases S:x∈q t
  .rw[k_ S,Y7] at b;simp only[S,ZV,if_true];exact⟨wo,wo,wo,wo,b.out⟩
  rw[m_ S,Zu] at b;simp only[S,Zd,v_,V_];exact⟨wo,wo,b.out⟩
 .clear c V hK M Y;walk_at "";try exact F
 rw[Kl hK X];clear hK M;have np:j≠p1:=bF l v;have s1:eG o (eH H p1 (.lst ((bf W t).map t4))):=k.trans (eG.new v);have g1:eH H p1 (.lst ((bf W t).map t4)) p1=ab (.lst ((bf W t).map t4)):=aq;have g2:eH H p1 (.lst ((bf W t).map t4)) j=ab (.lst (((A.filter λt=>decide ((bf W t).head?=ab t)).map (bf W)).map sT)):=by rw[aH np];exact l
 generalize eH H p1 (.lst ((bf W t).map t4))=H7 at s1 g1 g2 |-;generalize (A.filter λt=>decide ((bf W t).head?=ab t)).map (bf W)=cur at *;clear gd gn gat l v lkt;walk_at "n";cases eg:bf W t with
 |nil=>rw[eg] at Y;cases Y
 |cons y r =>
 rw[eg] at c g1;clear Y;simp only[sT,J_,List.head?_cons] at c g1;walk_at "";by_cases hy:y=t
 .rw[we (k_ hy)];refine⟨⟨wo,wo⟩,uS,c.out _ _ _ (iW s1 C) ?_⟩;rw[aq,we (by rw[hy])]
 rw[wc (lK hy)];exact c.out _ _ _ s1 (by rw[g2,wc λz=>hy (P_ z),YH])
abbrev Ny:List ap:=[w_,xS,BE,D4,"_law_tasks_here","_law_orders","_law_pairs","_law_row",AB,DU,"_law_length","_law_kinds","_law_place","_law_at",A6,EB,FO]
theorem A4:fY Ny [w_,xS,BE,D4] (aC (vT 48)):=aX
theorem Te {f:af} (g:G3 K mg "_law_may" (vT 48) [w_,xS,BE,D4] f fd) (B:Bl mg):Z1 P w K mg base 1 "_law_may" (vT 48) [w_,xS,BE,D4] W5:=by
 refine c6 g A4 ?_;rintro _ A _ s H _ _ H3 Q hr ⟨W,d8,q,ps,j,rfl,hW,hq,hpl,hj,kk⟩;have J:=zc.u30 hr;have hu31:=zc.u31 hr;have C:=zc.u1 hr;refine⟨_,(aj (iH wh (bU (n:=4) rfl (aG (aB 4 A4.nd) (aG (aB 5 A4.nd) (aG (aB 6 A4.nd) (aG (aB 7 A4.nd) bC))))))
   (aj (aD 8 A4.nd (aM bZ rfl B.len_ cg (aa w4 ak)))
   (aj (iH (aJ wt xk AC) (bU (n:=3) rfl (aG (aB 9 A4.nd) (aG (aB 10 A4.nd) (aG (aB 11 A4.nd) bC)))))
   (aj (bc (yk.pt (cW (aO (gF J) (v3 11) (bB ak)) (cL (aO (iI hu31) (aJ wt y7 xa) (v3 11) rfl)))) (au (aK cG)) aL)
   (aj (aD 12 A4.nd qH)
   (aj (bh G_ rfl (bN rfl B.range_ (aa AC ak)) (aB 13 A4.nd) (aj (jM C (v3 12) (aJ wt (aJ wt xk (v3 13)) ao) (aJ wt w4 (v3 13)))
    (au (bc (aO (bR J) (aJ wt w4 (v3 13)) xa) (au (aD 10 A4.nd (aF aZ (v3 10) (aJ wt (aJ wt xk (v3 13)) ao)))) aL))))
   (aj (jM C (v3 12) AN xa)
   (aj (bc (aO mQ (v3 10) wm) (au (aK cG)) aL)
   (aj (bh G_ rfl (cD xA) (bU (n:=2) rfl (aG (aB 14 A4.nd) (aG (aB 15 A4.nd) bC))) (au (bc (yk.pt (cW (iM C (v3 14) (v3 12)) (cW (iM C (v3 15) (v3 12)) (cL (aO mQ (dM C (v3 12) (v3 14)) (dM C (v3 12) (v3 15))))))) (au (aK cG)) aL)))
   (aj (bh G_ rfl (cD y6) (bU (n:=3) rfl (aG (aB 16 A4.nd) (aG (aB 14 A4.nd) (aG (aB 15 A4.nd) bC)))) (au (bc (yk.pt (cW (iM C (v3 14) (v3 12)) (cW (iM C (v3 15) (v3 12)) (cL (aO (gF J) (di (bR J) (dM C (v3 12) (v3 14)) (dM C (v3 12) (v3 15))) (di (bR J) (v3 16) cZ)))))) (au (aK cG)) aL)))
   (au (aK cG)))))))))))),?_⟩
 walk_at "q";walk_at "h";have k':=t6.mk kk;clear kk;have t8:=hW.t8;have r8:=hW.r8;obtain⟨⟨x,ln,ks⟩,ht⟩:∃t,W.tasks[ps.length]?=ab t:=⟨_,d_ hpl⟩;have hat:=Ng ht;have hW':=t6.mk hW;clear hW;walk_at "s";walk_at "t";walk_at "n";walk_at "s";walk_at "n";refine aA λR2 hR2=>?_;simp only[xp] at hat
 walk_at "";walk_at "t";simp only[sT];walk_at "n";have i2:=cz ks;have em:=Yv (x:=W.row.getD j "") (xs:=ks);have x0:=wJ hj;have fF:t6 (¬Ch W d8 ps j->n7 Q (.bl am) H3):=⟨λz=>n7.of eG.refl (k'.out am ⟨λq=>(nomatch q),λh=>wT h z⟩)⟩;have hk0:t6 (Ch W d8 ps j->iR ks (W.row.getD j "")=ai):=⟨λm=>m.kin _ ht⟩;refine aA λR3 hR3=>?_
 suffices key:iR ks (W.row.getD j "")=ai->R3 { nx:=λ_ H'=>n7 Q T.non H',rt:=n7 Q} [ab W.enc,ab (.int d8),ab (.ref q),ab (.int (j:Int)),ab (.tup (W.tasks.map xp)),ab (.tup (W.orders.map xw)),ab (.tup (W.pairs.map ya)),ab (.tup (W.row.map t4)),ab (.int (ps.length:Int)),ab (.str x),ab (.int ln),ab (.tup (ks.map t4)),ag,ag,ag,ag,ag] H3 by
  have U:=t6.mk key;clear key hR3 k';unfold iR at U hk0;generalize W.row.getD j ""=kd at *;walk_at "";refine⟨vS,wo,rfl,?_⟩;by_cases c:ks=[]
  .rw[wc (by simp [c])];exact U.out (by simp [c])
  rw[we (by simp [c])];refine⟨rfl,wo,?_⟩;by_cases R:kd∈ks
  .rw[wc (by simp [R])];exact U.out (by simp [R])
  rw[we (by simp [R])];exact fF.out λm=>by have:=hk0.out m;simp [c,R] at this
 intro hmay;have hM:t6 (QI (W.tasks.take (ps.length+1)) (fS (nm W) (ps++[j])) j<=d8->(∀o∈W.orders,o.1∈(nm W).take (ps.length+1)->o.2∈(nm W).take (ps.length+1)->fS (nm W) (ps++[j]) o.1<=fS (nm W) (ps++[j]) o.2)->(∀p∈W.pairs,p.2.1∈(nm W).take (ps.length+1)->p.2.2∈(nm W).take (ps.length+1)->(fS (nm W) (ps++[j]) p.2.1=fS (nm W) (ps++[j]) p.2.2↔p.1="with"))->Ch W d8 ps j):=⟨λa b c=>⟨λt h=>by rw[ht] at h;cases h;exact hmay,a,b,c⟩⟩;have M:t6 (Ch W d8 ps j->QI (W.tasks.take (ps.length+1)) (fS (nm W) (ps++[j])) j<=d8/\(∀o∈W.orders,o.1∈(nm W).take (ps.length+1)->o.2∈(nm W).take (ps.length+1)->fS (nm W) (ps++[j]) o.1<=fS (nm W) (ps++[j]) o.2)/\(∀p∈W.pairs,p.2.1∈(nm W).take (ps.length+1)->p.2.2∈(nm W).take (ps.length+1)->(fS (nm W) (ps++[j]) p.2.1=fS (nm W) (ps++[j]) p.2.2↔p.1="with"))):=⟨λm=>⟨m.ld,m.ord,m.pai⟩⟩;have hFi:t6 (∀i t,i<ps.length->W.tasks[i]?=ab t->fS (nm W) (ps++[j]) t.1=ps.getD i 0):=⟨λi t hi h=>by
  rw[jF (ns:=nm W) hW'.out.nd (i:=i) (by rw[b_];omega) (iY h),i_,i_,YW hi]⟩
 have hFk:fS (nm W) (ps++[j]) x=j:=by rw[jF (ns:=nm W) hW'.out.nd (i:=ps.length) (by rw[b_];simp) (iY ht),i_,O_ (u_ _)];simp
 generalize fS (nm W) (ps++[j])=F at hM M hFi hFk;have hFk':=t6.mk hFk;have ht':=t6.mk ht;clear hk0 hmay i2 em x0 hat hFk ht;walk_at "n";walk_at "s";intro I hpd;have nqd:q≠I:=bF hq hpd;have e0:t6 (eH H3 I (.dct [])=eH H3 I (.dct (dN ((nm W).take ([]:List Nat).length) F))):=⟨rfl⟩;have el:t6 (ln=ln+QI (W.tasks.take ([]:List Nat).length) F j):=⟨by show ln=ln+0;omega⟩;walk_at "n";refine aA λR5 hR5=>?_;walk_at "";refine⟨wo,uS,uS,?_⟩;rw[iT];refine aU (λ(i:Nat)=>t3 (i:Int)) (ax ps.length) (λA Z H=>∃(d r u k:Option T),Z=[ab W.enc,ab (.int d8),ab (.ref q),ab (.int (j:Int)),ab (.tup (W.tasks.map xp)),ab (.tup (W.orders.map xw)),ab (.tup (W.pairs.map ya)),ab (.tup (W.row.map t4)),ab (.int (ps.length:Int)),ab (.str x),ab (.int (ln+QI (W.tasks.take A.length) F j)),ab (.tup (ks.map t4)),ab (.ref I),d,r,u,k]/\H=eH H3 I (.dct (dN ((nm W).take A.length) F))) ⟨_,_,_,_,by rw[<- el.out],e0.out⟩ ?_ ?_;rotate_left
 .rintro A c B Z H N e ⟨d,r,u,k,rfl,rfl⟩ hN;walk_at "t";have hA:A.length<ps.length:=by have:=YB a5 e;simp only[b_,n_,D_] at this;omega
  have hc:c=A.length:=by
   have h1:(ax ps.length)[A.length]?=ab c:=by rw[e,O_ (u_ _)];simp
   rw[YL hA] at h1;exact (P_ h1).symm
  obtain⟨⟨y,lm,kt⟩,hy⟩:∃t,W.tasks[A.length]?=ab t:=⟨_,d_ uS⟩;have v:=Ng hy;have D:=W4 hA;have hFy:=hFi.out _ _ hA hy;have hyn:y∉(nm W).take A.length:=λz=>by obtain⟨i,hi,h⟩:=nH z;have G:=iY hy;have:=(Kb (l:=nm W) (by rw[cX];omega) hW'.out.nd).mp (h.trans G.symm);omega
  have etk:(nm W).take (A.length+1)=(nm W).take A.length++[y]:=by
   have hl:A.length<(nm W).length:=by rw[cX];omega
   have G:=iY hy;rw[d_ hl] at G;rw[YF hl,P_ G]
  have ett:W.tasks.take (A.length+1)=W.tasks.take A.length++[(y,lm,kt)]:=by
   have hl:A.length<W.tasks.length:=uS
   have G:=hy;rw[d_ hl] at G;rw[YF hl,P_ G]
  have p1:xL y (t3 ((ps.getD A.length 0:Nat):Int)) (dN ((nm W).take A.length) F)=dN ((nm W).take (A.length+1)) F:=by
   rw[FJ hyn,etk];refine uJ λn hn=>?_;unfold fu;split
   .rename_i z;rw[z];exact hFy.symm
   rfl
  have dl:=FN ((nm W).take A.length) F;rw[Y0] at dl;have V:QI (W.tasks.take (A.length+1)) F j=QI (W.tasks.take A.length) F j+if ps.getD A.length 0=j then lm else 0:=by rw[ett,nA,hFy]
  have Y:t6 (∀r u k,N [ab W.enc,ab (.int d8),ab (.ref q),ab (.int (j:Int)),ab (.tup (W.tasks.map xp)),ab (.tup (W.orders.map xw)),ab (.tup (W.pairs.map ya)),ab (.tup (W.row.map t4)),ab (.int (ps.length:Int)),ab (.str x),ab (.int (ln+QI (W.tasks.take (A.length+1)) F j)),ab (.tup (ks.map t4)),ab (.ref I),ab (.int (c:Int)),r,u,k] (eH H3 I (.dct (dN ((nm W).take (A.length+1)) F)))):=⟨λr u k=>hN _ _ ⟨_,r,u,k,by rw[b_];rfl,by rw[b_];rfl⟩⟩;rw[V] at Y;have gq:eH H3 I (.dct (dN ((nm W).take A.length) F)) q=ab (.lst (ps.map ni)):=by rw[aH nqd];exact hq
  have gq2:∀o,eH (eH H3 I (.dct (dN ((nm W).take A.length) F))) I o q=ab (.lst (ps.map ni)):=λo=>by rw[aH nqd];exact gq
  subst hc;clear hN e k' hR5 hM M hFi V ett etk hyn fF e0 el;simp only[xp] at v;generalize ps.getD A.length 0=pv at *;generalize QI (W.tasks.take A.length) F j=LV at *;walk_at "";refine⟨uS,?_⟩;by_cases O:pv=j
  .rw[we (k_ (by rw[O])),Int.add_assoc];rw[we O] at Y;exact Y.out _ _ _
  rw[wc (lK uS)];rw[wc O,F4] at Y;exact Y.out _ _ _
 rintro Z H ⟨d,r,u,k,rfl,rfl⟩;walk_at "t";rw[D_];have hxn:x∉(nm W).take ps.length:=λz=>by obtain⟨i,hi,h⟩:=nH z;have G:=iY ht'.out;have:=(Kb (l:=nm W) (by rw[cX];omega) hW'.out.nd).mp (h.trans G.symm);omega
 have p1:xL x (t3 (j:Int)) (dN ((nm W).take ps.length) F)=dN ((nm W).take (ps.length+1)) F:=by
  have hl:ps.length<(nm W).length:=by rw[cX];omega
  have G:=iY ht'.out;rw[d_ hl] at G;rw[FJ hxn,YF hl,P_ G];refine uJ λn hn=>?_;unfold fu;split
  .rename_i z;rw[z];exact hFk'.out.symm
  rfl
 have V:ln+QI (W.tasks.take ps.length) F j=QI (W.tasks.take (ps.length+1)) F j:=by have G:=ht'.out;rw[d_ hpl] at G;rw[YF hpl,P_ G,nA,we hFk'.out];exact Int.add_comm _ _
 rw[V];have dl:=FN ((nm W).take ps.length) F;rw[Y0] at dl;generalize QI (W.tasks.take (ps.length+1)) F j=LL at *;clear V hxn hFi e0 el hq;walk_at "n";walk_at "s";refine⟨uS,?_⟩;have gd:eH H3 I (.dct (dN ((nm W).take (ps.length+1)) F)) I=ab (.dct (dN ((nm W).take (ps.length+1)) F)):=aq;have sb:eG H3 (eH H3 I (.dct (dN ((nm W).take (ps.length+1)) F))):=eG.new hpd;generalize eH H3 I (.dct (dN ((nm W).take (ps.length+1)) F))=H4 at gd sb |-;generalize (nm W).take (ps.length+1)=L at *;clear p1 dl;have X:t6 (¬Ch W d8 ps j->n7 Q (.bl am) H4):=⟨λz=>n7.of sb (k'.out am ⟨λq=>(nomatch q),λh=>wT h z⟩)⟩;have fT4:t6 (Ch W d8 ps j->n7 Q (.bl ai) H4):=⟨λz=>n7.of sb (k'.out ai ⟨λ_=>z,λ_=>rfl⟩)⟩;clear k' fF;walk_at "n";walk_at "s";by_cases cl:d8<LL
 .rw[we (k_ cl)];exact X.out λm=>wT (M.out m).1 uS
 rw[wc (lK cl)];have cl':=t6.mk (show LL<=d8 by omega);clear cl;walk_at "n";refine aA λR8 hR8=>?_;walk_at "";refine aU xw W.orders (λA Z H=>∃(d r u k:Option T),Z=[ab W.enc,ab (.int d8),ab (.ref q),ab (.int (j:Int)),ab (.tup (W.tasks.map xp)),ab (.tup (W.orders.map xw)),ab (.tup (W.pairs.map ya)),ab (.tup (W.row.map t4)),ab (.int (ps.length:Int)),ab (.str x),ab (.int LL),ab (.tup (ks.map t4)),ab (.ref I),d,r,u,k]/\H=H4/\∀o∈A,o.1∈L->o.2∈L->F o.1<=F o.2) ⟨_,_,_,_,rfl,rfl,(λ_ h=>nomatch h)⟩ ?_ ?_;rotate_left
 .rintro A ⟨v,D⟩ B Z H N e ⟨d,r,u,k,rfl,rfl,hA⟩ hN;walk_at "t";have hm:(v,D)∈W.orders:=by rw[e];simp
  have fN:t6 ((v∈L->D∈L->F v<=F D)->∀d k,N [ab W.enc,ab (.int d8),ab (.ref q),ab (.int (j:Int)),ab (.tup (W.tasks.map xp)),ab (.tup (W.orders.map xw)),ab (.tup (W.pairs.map ya)),ab (.tup (W.row.map t4)),ab (.int (ps.length:Int)),ab (.str x),ab (.int LL),ab (.tup (ks.map t4)),ab (.ref I),d,ab (.str v),ab (.str D),k] H):=⟨λz d k=>hN _ _ ⟨d,_,_,k,rfl,rfl,λo S=>by
   rcases q_.mp S with S | S
   ·
    exact hA o S
   ·
    rw[j_.mp S];exact z⟩⟩
  have fB:t6 (v∈L->D∈L->F D<F v->n7 Q (.bl am) H):=⟨λh1 G h3=>X.out λm=>by have:=(M.out m).2.1 _ hm h1 G;exact wT this (by show ¬F v<=F D;omega)⟩;clear hN e hR8 hM M hm hA X fT4;simp only[xw];by_cases m1:v∈L
  .have l1:=jQ (f:=F) m1;by_cases m2:D∈L
   .have l2:=jQ (f:=F) m2;walk_at "";simp only[GW,if_true];walk_at "t";by_cases O:F D<F v
    .rw[we (k_ uS)];exact fB.out m1 m2 O
    rw[wc (lK uS)];exact fN.out (λ_ _=>by omega) _ _
   have l2:=uB (f:=F) m2;walk_at "";simp only[GW,JY,if_true,v_,V_];exact⟨wo,fN.out (λ_ z=>wT z m2) _ _⟩
  have l1:=uB (f:=F) m1;walk_at "";simp only[JY,v_,V_];exact⟨wo,fN.out (λz=>wT z m1) _ _⟩
 rintro Z H ⟨d,r,u,k,rfl,rfl,hO⟩;walk_at "t";have hO':=t6.mk hO;clear hO;walk_at "n";refine aA λR9 hR9=>?_;walk_at "";refine aU ya W.pairs (λA Z H'=>∃(d r u k:Option T),Z=[ab W.enc,ab (.int d8),ab (.ref q),ab (.int (j:Int)),ab (.tup (W.tasks.map xp)),ab (.tup (W.orders.map xw)),ab (.tup (W.pairs.map ya)),ab (.tup (W.row.map t4)),ab (.int (ps.length:Int)),ab (.str x),ab (.int LL),ab (.tup (ks.map t4)),ab (.ref I),d,r,u,k]/\H'=H/\∀p∈A,p.2.1∈L->p.2.2∈L->(F p.2.1=F p.2.2↔p.1="with")) ⟨_,_,_,_,rfl,rfl,(λ_ h=>nomatch h)⟩ ?_ ?_;rotate_left
 .rintro A ⟨wd,v,D⟩ B Z H' N e ⟨d,r,u,k,rfl,rfl,hA⟩ hN;walk_at "t";have hm:(wd,v,D)∈W.pairs:=by rw[e];simp
  have fN:t6 ((v∈L->D∈L->(F v=F D↔wd="with"))->∀d,N [ab W.enc,ab (.int d8),ab (.ref q),ab (.int (j:Int)),ab (.tup (W.tasks.map xp)),ab (.tup (W.orders.map xw)),ab (.tup (W.pairs.map ya)),ab (.tup (W.row.map t4)),ab (.int (ps.length:Int)),ab (.str x),ab (.int LL),ab (.tup (ks.map t4)),ab (.ref I),d,ab (.str v),ab (.str D),ab (.str wd)] H'):=⟨λz d=>hN _ _ ⟨d,_,_,_,rfl,rfl,λo S=>by
   rcases q_.mp S with S | S
   ·
    exact hA o S
   ·
    rw[j_.mp S];exact z⟩⟩
  have fB:t6 (v∈L->D∈L->¬(F v=F D↔wd="with")->n7 Q (.bl am) H'):=⟨λh1 G h3=>X.out λm=>h3 ((M.out m).2.2 _ hm h1 G)⟩;clear hN e hR9 hM M hm hA X fT4 hO';simp only[ya];by_cases m1:v∈L
  .have l1:=jQ (f:=F) m1;by_cases m2:D∈L
   .have l2:=jQ (f:=F) m2;have ec:decide (((F v:Nat):Int)=((F D:Nat):Int))=decide (F v=F D):=by rw[Zm];omega
    walk_at "";simp only[GW,if_true];walk_at "t";by_cases O:F v=F D <;> by_cases R:wd="with"
    .rw[wc (by simp [O,R])];exact fN.out (λ_ _=>⟨λ_=>R,λ_=>O⟩) _
    .rw[we (by simp [O,R])];exact fB.out m1 m2 λz=>R (z.mp O)
    .rw[we (by simp [O,R])];exact fB.out m1 m2 λz=>O (z.mpr R)
    rw[wc (by simp [O,R])];exact fN.out (λ_ _=>⟨λz=>wT z O,λz=>wT z R⟩) _
   have l2:=uB (f:=F) m2;walk_at "";simp only[GW,JY,if_true,v_,V_];exact⟨wo,fN.out (λ_ z=>wT z m2) _⟩
  have l1:=uB (f:=F) m1;walk_at "";simp only[JY,v_,V_];exact⟨wo,fN.out (λz=>wT z m1) _⟩
 rintro Z H' ⟨d,r,u,k,rfl,rfl,hP⟩;walk_at "t";walk_at "n";walk_at "";exact fT4.out (hM.out cl'.out hO'.out hP)
abbrev G9:List ap:=[w_,xS,AD,BE,D4]
theorem NM:fY G9 [w_,xS,AD,BE] (aC (vT 49)):=aX
theorem fM {f:af} (g:G3 K mg "_law_some" (vT 49) [w_,xS,AD,BE] f U) (B:Bl mg) (k:Z1 P w K mg base 1 "_law_may" (vT 48) [w_,xS,BE,D4] W5) (j:Z1 P w K mg base (n+1) "_law_some" (vT 49) [w_,xS,AD,BE] (GJ m)):Z1 P w K mg base (n+2) "_law_some" (vT 49) [w_,xS,AD,BE] (GJ (m+1)):=by
 refine c6 g NM ?_;rintro _ A _ s H _ _ H3 Q S ⟨W,d8,many,q,ps,rfl,F,l,hq,hl1,hl2,kk⟩;have u:=zc.u30 S;refine⟨_,(aj (bc (aO (bR u) (aM bZ rfl B.len_ cg (aa xa ak)) (aM bZ rfl B.len_ cg (aa (aJ wt wh ao) ak))) (au (aK cG)) aL)
   (aj (bh G_ rfl (bN rfl B.range_ (aa w4 ak)) (aB 4 NM.nd) (au (bc (yk.pt (cW (cH (aN k (S.mono (Nat.le_add_left 1 n)) rfl (aa wh (aa wm (aa xa (aa xk ak)))))) (cL (cH (DR j (S.mono (u_ _)) rfl (aa wh (aa wm (aa w4 (aa (aF aZ xa (aY (aa xk ak))) ak))))))))) (au (aK cG)) aL)))
   (au (aK cG)))),?_⟩
 walk_at "q";walk_at "h";have C:=t6.mk kk;clear kk;have t8:=F.t8;have r8:=F.r8;walk_at "s";by_cases O:ps.length=W.tasks.length
 .rw[we (k_ (by rw[O]))];exact n7.of eG.refl (C.out ai ⟨λ_=>GC O,λ_=>rfl⟩)
 rw[wc (lK uS)];have r:ps.length<W.tasks.length:=uS
 have a:=t6.mk (GD (d8:=d8) (many:=many) r);obtain⟨m,rfl⟩:∃m',m=m'+1:=⟨m - 1,uS⟩;have v:=t6.mk F;clear F O;walk_at "n";refine aA λR1 J=>?_;walk_at "";refine⟨wo,uS,uS,?_⟩;rw[iT];refine aU (λ(i:Nat)=>t3 (i:Int)) (ax many) (λA Z H=>∃(G:Option T),Z=[ab W.enc,ab (.int d8),ab (.int (many:Int)),ab (.ref q),G]/\eG H3 H/\∀i,i<A.length->¬(Ch W d8 ps i/\DT W d8 many (ps++[i]))) ⟨_,rfl,eG.refl,λi h=>wT h (fw _)⟩ ?_ ?_
 .rintro Z H ⟨G,rfl,t,d⟩;walk_at "t";rw[D_] at d;walk_at "n";walk_at "";exact n7.of t (C.out am ⟨λz=>(nomatch z),λz=>by
   obtain⟨i,D,h2⟩:=a.out.mp z
   exact wT h2 (d i D)⟩)
 rintro A c B Z H N e ⟨G,rfl,t,d⟩ X;walk_at "t";have Y:A.length<many:=by have:=YB a5 e;simp only[b_,n_,D_] at this;omega
 have hc:c=A.length:=by
  have D:(ax many)[A.length]?=ab c:=by rw[e,O_ (u_ _)];simp
  rw[YL Y] at D;exact (P_ D).symm
 subst hc;have R:=t _ _ hq;have V:t6 (¬(Ch W d8 ps A.length/\DT W d8 many (ps++[A.length]))->∀o,eG H3 o->N [ab W.enc,ab (.int d8),ab (.int (many:Int)),ab (.ref q),ab (.int (A.length:Int))] o):=⟨λz o s'=>X _ _ ⟨_,rfl,s',λi hi=>by
  rw[b_,t_] at hi
  by_cases h:i<A.length
  ·
   exact d i h
  ·
   rw[show i=A.length by omega];exact z⟩⟩
 have fT:t6 (Ch W d8 ps A.length/\DT W d8 many (ps++[A.length])->∀o,eG H3 o->n7 Q (.bl ai) o):=⟨λz o s'=>n7.of s' (C.out ai ⟨λ_=>a.out.mpr ⟨_,Y,z⟩,λ_=>rfl⟩)⟩;clear X e C J d a;walk_at "";refine⟨W,d8,q,ps,A.length,rfl,v.out,R,r,uS,λb p=>?_⟩;cases b with
 |false=>simp only[dw,v_,V_];exact V.out (λz=>K_ (p.mpr z.1)) H t
 |true =>
  have L:=p.mp rfl
  clear p
  try simp only[dw,if_true]
  walk_at ""
  refine⟨vS,λp1 x=>?_⟩
  rw[aH (bF R x),R,jB]
  refine⟨by rw[g_,t_];omega,λp2 I=>?_⟩
  rw[show ps.map ni++[t3 (A.length:Int)]=(ps++[A.length]).map ni by rw[B_];rfl]
  have y:eG H3 (eH (eH H p1 (.lst [t3 (A.length:Int)])) p2 (.lst ((ps++[A.length]).map ni))):=t.trans ((eG.new x).trans (eG.new I))
  refine zr v.out l aq (by rw[b_,t_];omega) (by rw[b_,t_];omega) λb p=>?_
  cases b with
  |false =>
   simp only[dw,v_,V_]
   exact V.out (λz=>K_ (p.mpr z.2)) _ y
  |true =>
   try simp only[dw,if_true]
   exact fT.out ⟨L,p.mp rfl⟩ _ y
theorem Xb {f:af} (g:G3 K mg "_law_some" (vT 49) [w_,xS,AD,BE] f a):Z1 P w K mg base 1 "_law_some" (vT 49) [w_,xS,AD,BE] (GJ 0) :=
 ⟨f,a,g,⟨λ_ _ _ _ h=>by obtain⟨_,_,_,_,_,h,_⟩:=h;exact h.elim,λ_ _ _ _ _ _ _ _ _ _ _ _ _ h=>by obtain⟨_,_,_,_,_,h,_⟩:=h;exact h.elim⟩⟩
abbrev zB:List ap:=[w_,yA,"_law_row","_law_at"]
theorem JA:fY zB [w_,yA] (aC (vT 47)):=aX
theorem Ha {f:af} (g:G3 K mg "_law_moved" (vT 47) [w_,yA] f u) (B:Bl mg):Z1 P w K mg base 1 "_law_moved" (vT 47) [w_,yA] W3:=by
 refine c6 g JA ?_;rintro _ _ q s _ _ ts H3 Q N ⟨W,c,rfl,C,y⟩;have d:=zc.u30 N;refine⟨_,(aj (aD 2 JA.nd (aJ wt wh ao))
   (aj (aD 3 JA.nd (aF aW (aF bu wm ao) (aM bZ rfl B.len_ cg (aa w4 ak))))
   (aj (bc (aO (bR d) (aF aW wm ao) ao) (aj (aD 2 JA.nd (aF aZ (km w4 (d9 xa) eV) (km w4 eV (d9 xa))))
    (au (bc (aO (bR d) (aF aW (aF bu wm ao) ao) ao) (au (aD 2 JA.nd (JF w4 (d9 (qM ao))))) aL))) aL)
   (au (aK (aF aZ (km wh eV (d9 ao)) (bB (aa w4 ak)))))))),?_⟩
 walk_at "q";walk_at "h";have p:=t6.mk y;clear y;have R:=C.r8;have Y:=C.r1;have b:∀(r:List ap) (Z:List (Option T)),r.length=W.row.length->(∀x∈r,x∈W.row)->n7 Q (.tup ([.tup (W.tasks.map xp),.tup (W.orders.map xw),.tup (W.pairs.map ya)]++[.tup (r.map t4)])) H3:=λr _ I J=>n7.of eG.refl (p.out r I J);walk_at "s";walk_at "n";have S:=Yy (c / 8) (show (W.row.length:Int)≠0 by omega);have U:=Q_ (c / 8) (show (0:Int)<(W.row.length:Int) by omega);obtain⟨j,V⟩:∃j:Nat,c / 8%(W.row.length:Int)=(j:Int):=⟨(c / 8%(W.row.length:Int)).toNat,uS⟩;have X:CW (c / 8) (W.row.length:Int):=⟨uS,Z0 (FD _) uS⟩;walk_at "s";refine⟨⟨vS,xo⟩,uS,?_⟩;walk_at "n";refine aA λR2 n=>?_;have key:∀(r:List ap),r.length=W.row.length->(∀x∈r,x∈W.row)->R2 { nx:=λ_ L=>n7 Q T.non L,rt:=n7 Q} [ab W.enc,ab (t3 c),ab (t5 (r.map t4)),ab (t3 (j:Int))] H3:=by intro r m l;have f:=b r [] m l;have M:=t6.mk f;clear f b p m l;walk_at "n";rw[show W.enc=t5 [.tup (W.tasks.map xp),.tup (W.orders.map xw),.tup (W.pairs.map ya),.tup (W.row.map t4)] from rfl];walk_at "";rw[show ∀ts:List T,dY ts ag (ab 3)=ts.take 3 from λts=>qG (k:=3)];exact⟨vS,wn,M.out⟩
 have a:=t6.mk key;clear key n b p;walk_at "";refine⟨vS,?_⟩;by_cases v:c%4=1
 .rw[we (k_ v)];rw[sZ,qG,<- i4,<- mm,<- B_];have t:∀x∈W.row.drop j++W.row.take j,x∈W.row:=λx e=>by
   rcases q_.mp e with e | e
   .exact k6 e
   exact KG e
  have o:(W.row.drop j++W.row.take j).length=W.row.length:=by rw[b_,G1,Y0];omega
  generalize W.row.drop j++W.row.take j=r at t o |-;refine⟨by rw[g_,g_,G1,Y0];omega,⟨vS,xo⟩,vS,?_⟩;by_cases z:c / 4%2=1
  .rw[we (k_ z),<- HV];exact⟨wo,a.out r.reverse (by rw[Zo];exact o) λx e=>t x (List.mem_reverse.mp e)⟩
  rw[wc (lK z)];exact a.out r o t
 rw[wc (lK v)];exact a.out W.row rfl λ_ h=>h
abbrev Hf:List ap:=[yb,AB,"_law_first",yA,AG,"_law_found","_law_j"]
theorem Ee:fY Hf [yb,AB] (aC (vT 37)):=aX
theorem K4 {f:af} (g:G3 K mg "_law_cell" (vT 37) [yb,AB] f fd) (B:Bl mg):Z1 P w K mg base 1 "_law_cell" (vT 37) [yb,AB] Kd:=by
 refine c6 g Ee ?_;rintro _ _ _ s H _ _ H3 _ hr ⟨a,ns,k,rfl,J,hl,hk,kk⟩;have D:=zc.u30 hr;refine⟨_,(aj (aD 2 Ee.nd (aJ wt (aF yS wh (aY (aa ao ak))) ao))
   (aj (bc (aO (bR D) (aF aW w4 ao) ao) (au (aK (aJ wt (aF yS wh (aF DW (aY (aa ao ak)) ao)) wm))) aL)
   (aj (aD 3 Ee.nd (aJ wt wh (aF aW wm (aM bZ rfl B.len_ cg (aa wh ak)))))
   (aj (aD 4 Ee.nd (aF aW (aF aZ (aF aZ (aF c7 (aF aW xa ao) ao) (aF c7 ao wm)) ao) ao))
   (aj (aD 4 Ee.nd (aF aW (aF aZ (aF c7 xk xk) wm) ao))
   (aj (aD 5 Ee.nd ao)
   (aj (bh G_ rfl (bN rfl B.range_ (aa ao ak)) (aB 6 Ee.nd) (aj (aD 4 Ee.nd (aF aW (aF aZ (aF c7 xk ao) ao) ao))
    (au (aD 5 Ee.nd (aF aZ (aF c7 xA ao) xk)))))
   (au (aK xA))))))))),?_⟩
 walk_at "q";walk_at "h";have R:=t6.mk kk;clear kk;walk_at "s";refine⟨vS,λp1 j=>?_⟩;have W:a≠p1:=bF J j;walk_at "";refine⟨uS,λL e=>?_⟩;have O:a≠L:=bF J (cU e).2;have C:eG H3 (eH (eH H3 p1 (.lst [t3 0])) L (.lst (ns.map t3++[t3 0]))):=(eG.new j).trans (eG.new e);have e1:ns.map t3++[t3 0]=(ns++[0]).map t3:=by rw[B_];rfl
 obtain⟨G,v⟩:=q8 (ns:=ns++[0]) (i:=0) (by rw[b_];simp);rw[e1] at C |-;have b:xh ((ns++[0]).map t3) 0=ab (t3 G):=v;rw[b,dZ];have d:G%2≠0->1<=ns.length:=λh=>by
  cases ns with
  |nil =>
   have z:xh (([0]:List Int).map t3) 0=ab (t3 0):=rfl
   rw[IH,z] at b
   cases b
   exact wT rfl h
  |cons x r=>simp
 have I:=C _ _ J;generalize eH (eH H3 p1 (.lst [t3 0])) L (.lst ((ns++[0]).map t3))=H4 at C I |-;clear v b e1 W O j e J;walk_at "n";refine aA λR1 S=>?_;walk_at "";refine⟨vS,?_⟩;by_cases m:G%2=0
 .rw[k_ m,we rfl];clear S d;try walk_at ""
  refine⟨vS,λq1 o=>⟨⟨vS,vS,vS⟩,λq2 p=>?_⟩⟩;have n1:a≠q1:=bF I o;have n2:a≠q2:=bF I (cU p).2;rw[aH n2,aH n1,I,Gj];have e2:(aS (cw 64) [t3 0]).flatten=(aS 64 (0:Int)).map t3:=rfl;rw[e2];refine⟨by rw[g_,g_,Zb];omega,λq3 U=>?_⟩;obtain⟨c,ec⟩:=q8 (ns:=ns++aS 64 0) (i:=k) (by rw[b_,Zb];omega);rw[Dq,aq,sY,<- B_,ec,dZ];exact n7.of (C.trans ((eG.new o).trans ((eG.new p).trans (eG.new U)))) (R.out c)
 rw[m_ m,wc K_];have h1:=d m;clear d;walk_at "n";refine aA λR2 hR2=>?_;obtain⟨u,F⟩:=q8 (ns:=ns) (i:=k%ns.length) (si _ uS);have q:xh (ns.map t3) ((k:Int)%(ns.length:Int))=ab (t3 u):=F;clear F;walk_at "";refine⟨uS,?_⟩;walk_at "n";refine aA λR3 hR3=>?_;have z0:=Yy u (show (2147483647:Int)≠0 by decide);have z1:=Q_ u (show (0:Int)<2147483647 by decide);clear q;walk_at "";refine⟨vS,.inr ⟨vS,vS⟩,.inl ⟨vS,vS⟩,vS,?_⟩;generalize u%2147483647=z at z0 z1;have y0:=Yy (z*48271+69621*(k:Int)+7919) (show (2147483629:Int)≠0 by decide);have y1:=Q_ (z*48271+69621*(k:Int)+7919) (show (0:Int)<2147483629 by decide);generalize (z*48271+69621*(k:Int)+7919)%2147483629=y at y0 y1;walk_at "n";walk_at "s";refine⟨.inl ⟨uS,uS⟩,vS,?_⟩;have x0:=Yy (y*y+(k:Int)) (show (2147483587:Int)≠0 by decide);have x1:=Q_ (y*y+(k:Int)) (show (0:Int)<2147483587 by decide);generalize (y*y+(k:Int))%2147483587=x at x0 x1;walk_at "n";walk_at "s";walk_at "n";refine aA λR6 Y=>?_;walk_at "";refine⟨by first | trivial | decide,vS,vS,?_⟩;generalize eU 0 (cw 9)=ts0;refine je (λr Z H=>∃(n X:Int) (M:Option T),Z=[ab (.ref a),ab (.int (k:Int)),ab (.int G),ab (.int u),ab (.int n),ab (.int X),M]/\0<=n/\n<2147483629/\eG H3 H) ⟨x,0,_,rfl,x0,uS,C⟩ ?_ ?_
 .rintro Z H ⟨n,X,M,rfl,_,_,l⟩;walk_at "t";walk_at "n";walk_at "";exact n7.of l (R.out _)
 rintro t r Z H N ⟨n,X,M,rfl,n0,n1,l⟩ hN;walk_at "t";have hM:=t6.mk hN;clear hN Y R;walk_at "";refine⟨.inl ⟨uS,uS⟩,vS,.inr ⟨vS,vS⟩,?_⟩;exact hM.out _ _ ⟨_,_,_,rfl,Yy _ vS,Int.lt_trans (Q_ _ vS) vS,l⟩
abbrev Hg:List ap:=[yA,"_law_letters",FO,"_law_rest","_law_j"]
theorem FH:fY Hg [yA] (aC (vT 38)):=aX
theorem K5 {f:af} (g:G3 K mg "_law_word" (vT 38) [yA] f v) (B:Bl mg):Z1 P w K mg base 1 "_law_word" (vT 38) [yA] RN:=by
 refine c6 g FH ?_;rintro _ _ _ s H _ _ H3 _ _ ⟨c,rfl,F⟩;refine⟨_,(aj (aD 1 FH.nd cZ)
   (aj (aD 2 FH.nd cZ)
   (aj (aD 3 FH.nd (aF bu wh ao))
   (aj (bh G_ rfl (bN rfl B.range_ (aa (aF aZ ao (aF aW wh ao)) ak)) (aB 4 FH.nd) (aj (aD 2 FH.nd (aF aZ w4 (aJ wt wm (aF aW xa ao))))
    (au (aD 3 FH.nd (aF bu xa ao)))))
   (au (aK w4)))))),?_⟩
 walk_at "q";walk_at "h";have L:(yi m7).length<=av:=by rw[dO];decide
 have D:=t6.mk F;clear F;have O:("":ap)=yi []:=by decide +kernel
 walk_at "s";simp only[Ft];walk_at "n";walk_at "s";walk_at "n";walk_at "s";refine⟨⟨vS,xo⟩,?_⟩;walk_at "n";refine aA λR3 o=>?_;walk_at "";have W:=Yy c (show (8:Int)≠0 by decide);have X:=Q_ c (show (0:Int)<8 by decide);refine⟨vS,wo,uS,uS,?_⟩;have l:(eU 0 (1+c%8).toNat).length=(1+c%8).toNat:=by unfold eU;rw[g_,D_]
 generalize eU 0 (1+c%8).toNat=S at l;try rw[O]
 generalize c / 8=p;refine je (λr Z H=>∃(a:List Nat) (d:Int) (n:Option T),Z=[ab (.int c),ab (.str (yi m7)),ab (.str (yi a)),ab (.int d),n]/\(a.length:Int)+r.length=1+c%8/\(∀x∈a,97<=x/\x<=122)/\H3=H) ⟨[],p,_,rfl,by rw[l,YM];omega,(λ_ z=>nomatch z),rfl⟩ ?_ ?_
 .rintro Z H ⟨a,d,n,rfl,b,m,rfl⟩;walk_at "t";rw[YM] at b;walk_at "n";walk_at "";exact n7.of eG.refl (D.out _ (MT uS uS m))
 rintro x r Z H Y ⟨a,d,n,rfl,b,m,rfl⟩ k;walk_at "t";rw[n_] at b;have J:=t6.mk k;have t:=t6.mk m;have C:a.length<8:=uS
 have j:=t6.mk b;have R:=Yy d (show (26:Int)≠0 by decide);have U:=Q_ d (show (0:Int)<26 by decide);have q:=Fv (d%26) R U;clear k D o b m;walk_at "";simp only[jh,q,dZ];walk_at "";rw[show (⟨#[97+(d%26).toNat]⟩:ap)=yi [97+(d%26).toNat] from rfl];refine⟨vS,L,by rw[dO,dO];simp only[t_];omega,⟨vS,xo⟩,?_⟩;rw[yF];exact J.out _ _ ⟨_,_,_,rfl,by rw[b_,t_];have:=j.out;push_cast;omega,λy e=>by
  rcases q_.mp e with e | e
  ·
   exact t.out y e
  ·
   rw[j_.mp e];omega,rfl⟩
abbrev uW:List ap:=[EM,"_law_letters","_law_found",FO]
theorem JE:fY uW [EM] (aC (vT 39)):=aX
theorem Bg {f:af} (g:G3 K mg "_law_unlike" (vT 39) [EM] f X) (B:Bl mg):Z1 P w K mg base 1 "_law_unlike" (vT 39) [EM] RP:=by
 refine c6 g JE ?_;rintro _ A _ s H _ _ H3 _ hr ⟨a,ws,rfl,G,hl,v,kk⟩;have D:=zc.u31 hr;refine⟨_,(aj (aD 1 JE.nd cZ)
   (aj (aD 2 JE.nd (aY ak))
   (aj (bh G_ rfl (bA wh) (aB 3 JE.nd) (aj (jL G_ (aO (iy D) xa w4 rfl) (au (aD 3 JE.nd (aF aZ (iJ xa eV (d9 (qM ao))) (aJ wt wm (aF aW (aF aZ (dj PySem.F.plainAttrs_str PySem.F.slot_str_index PySem.F.type_str_index Dj wm (aa (aJ wt xa (qM ao)) ak)) ao) ao))))))
    (au (bK (dj I_ M_ N_ bx w4 (aa xa ak))))))
   (au (aK w4))))),?_⟩
 walk_at "q";walk_at "h";have al:(yi m7).length<=av:=by rw[dO];decide
 have Y:=t6.mk kk;clear kk;walk_at "s";simp only[Ft];walk_at "n";walk_at "s";refine⟨vS,λl u=>?_⟩;have r:a≠l:=bF G u;walk_at "n";refine aA λR2 I=>?_;have ga:eH H3 l (.lst []) a=ab (.lst (ws.map t4)):=by rw[aH r];exact G
 walk_at "";have y:=t6.mk v;clear v;refine aU t4 ws (λA Z H=>∃(d:List ap) (v3:Option T),Z=[ab (.ref a),ab (.str (yi m7)),ab (.ref l),v3]/\H=eH H3 l (.lst (d.map t4))/\d.length=A.length/\AT d) ⟨[],_,rfl,rfl,rfl,AT.nil⟩ ?_ ?_
 .rintro Z H ⟨d,v3,rfl,rfl,q,J⟩;refine⟨.inl (by rw[aH r];exact G),?_⟩;walk_at "n";walk_at "";exact n7.of eG.refl (Y.out d q J l u)
 rintro A x B Z H N e ⟨d,v3,rfl,rfl,q,J⟩ hN;refine⟨.inl (by rw[aH r];exact G),?_⟩;have hA:A.length+1<=8:=by have:=YB a5 e;simp only[b_,n_] at this;omega
 obtain⟨b,c,rfl,M,hs0,U⟩:=Kf (y.out x (by rw[e];simp));have V:=t6.mk hN;clear hN e I Y ga;have gf:eH H3 l (.lst (d.map t4)) l=ab (.lst (d.map t4)):=aq;refine aA λR3 L=>?_;walk_at "";refine Ar (λm Z H=>∃j:Nat,m+j=8/\Z=[ab (.ref a),ab (.str (yi m7)),ab (.ref l),ab (.str (BN b c j))]/\H=eH H3 l (.lst (d.map t4))/\∀i,i<j->BN b c i∈d) ⟨8,0,rfl,rfl,rfl,(λ_ z=>wT z uS)⟩ ?_;intro m Z H hI WI TB NX k n o;obtain⟨j,hm,rfl,rfl,p⟩:=hI;have hj:j<=d.length:=by
  rcases D7 d.length j with z | z
  .exact (MW d (λi=>BN b c i) (λi i' h1 h2 h=>Ke uS uS h) λi hi=>p i uS).elim
  exact z
 walk_at "";refine⟨rfl,cz d,?_⟩;split
 .rename_i t;have W:BN b c j∈d:=II λh=>wT t (by rw[jX];simp [h]);clear o L;obtain⟨n⟩:=n;subst n;try dsimp only
  walk_at "";have hlen:=Kg b c j;have md:=si (c+j) (show 0<26 by decide);have C:=Rm (97+(c+j)%26) uS uS;refine⟨uS,by first | trivial | omega,uS,?_⟩;rw[Kh,BP,dZ,show (⟨#[97+(c+j)%26]⟩:ap)=yi [97+(c+j)%26] from rfl,C];clear C;walk_at "";have O:=Fv ((((97+(c+j)%26 - 97:Nat):Int)+1)%26) (Yy _ vS) (Q_ _ vS);have en:((((97+(c+j)%26 - 97:Nat):Int)+1)%26).toNat=(c+(j+1))%26:=uS
  have sn:gu (BN b c j) ag (ab (-1))=yi b:=RV b _;refine⟨vS,al,?_⟩;rw[jh,O,dZ,en,sn,show (⟨#[97+(c+(j+1))%26]⟩:ap)=yi [97+(c+(j+1))%26] from rfl,yF];obtain⟨k⟩:=k;subst k;refine⟨by rw[dO,dO];simp only[t_];omega,m - 1,uS,j+1,uS,rfl,rfl,λi hi=>?_⟩;rcases D7 i j with z | z
  .exact p i z
  rw[show i=j by omega];exact W
 rename_i t;have S:BN b c j∉d:=λh=>t (by rw[jX];simp [h]);clear n k;obtain⟨o⟩:=o;subst o;walk_at "n";try dsimp only
 walk_at "";refine⟨⟨wo,wo⟩,uS,V.out _ _ ⟨d++[BN b c j],ab _,rfl,?_,by rw[b_,b_,q];rfl,J.snoc (RQ M U) S⟩⟩;rw[B_];rfl
abbrev Hh:List ap:=[yA,EM,AB]
theorem LH:fY Hh [yA] (aC (vT 40)):=aX
theorem K6 {f:af} (g:G3 K mg "_law_pool" (vT 40) [yA] f C) (B:Bl mg) (d:Z1 P w K mg base 1 "_law_word" (vT 38) [yA] RN) (a:Z1 P w K mg base 1 "_law_unlike" (vT 39) [EM] RP):Z1 P w K mg base 2 "_law_pool" (vT 40) [yA] Wz:=by
 refine c6 g LH ?_;rintro _ _ _ s H _ _ H3 _ J ⟨c,rfl,G⟩;refine⟨_,(aj (aD 1 LH.nd (aY ak))
   (aj (bh G_ rfl (bN rfl B.range_ (aa ao ak)) (aB 2 LH.nd) (aj (bK (dj I_ M_ N_ bx wm (aa (aN d J rfl (aa (aF aW wh (aF c7 ao (aF jy ao ao))) ak)) ak)))
    (au (aD 0 LH.nd (aF bu wh (aF c7 ao (aF jy ao ao)))))))
   (au (aK (aN a J rfl (aa wm ak)))))),?_⟩
 walk_at "q";walk_at "h";have D:=t6.mk G;clear G;walk_at "s";refine⟨vS,λl m=>?_⟩;walk_at "n";refine aA λR1 t=>?_;walk_at "";refine⟨wo,vS,vS,?_⟩;have I:(eU 0 (cw 8)).length=8:=by unfold eU;rw[g_,D_];rfl
 generalize eU 0 (cw 8)=V at I;refine je (λr Z H=>∃(ws:List ap) (c:Int) (v:Option T),Z=[ab (.int c),ab (.ref l),v]/\H=eH H3 l (.lst (ws.map t4))/\ws.length+r.length=8/\∀x∈ws,xC x) ⟨[],c,_,rfl,rfl,by rw[I];rfl,(λ_ z=>nomatch z)⟩ ?_ ?_
 .rintro Z H ⟨ws,c,v,rfl,rfl,q,n⟩;walk_at "t";rw[YM] at q;walk_at "n";walk_at "";refine⟨l,ws,rfl,aq,uS,n,λus Y W p U=>?_⟩;refine n7.of ?_ (D.out us uS W p (cU U).2);intro b o k;by_cases e:b=p
  .subst e;rw[aq] at k |-;exact k
  rw[aH e] at k |-;rw[aH (bF k m)];exact k
 rintro x r Z H N ⟨ws,c,v,rfl,rfl,q,n⟩ F;walk_at "t";rw[n_] at q;have O:=t6.mk F;clear F t D;have S:eH H3 l (.lst (ws.map t4)) l=ab (.lst (ws.map t4)):=aq;walk_at "";refine⟨⟨wo,wo⟩,⟨vS,vS,vS⟩,.inl ⟨vS,vS⟩,vS,_,rfl,λy L=>?_⟩;dsimp only;rw[S,Dr];refine⟨by rw[g_];omega,⟨vS,vS,vS⟩,.inl ⟨vS,vS⟩,⟨vS,xo⟩,O.out _ _ ⟨ws++[y],_,_,rfl,?_,by rw[b_,t_];omega,λz j=>?_⟩⟩
 .rw[B_];exact qm
 rcases q_.mp j with j | j
 .exact n z j
 rw[j_.mp j];exact L
abbrev Hi:List ap:=[yA,"_law_row",FM,"_law_unit",D4,"_law_turn",Au,"_law_rest",AB,EB,"_law_at","_law_digit","_law_length"]
theorem BM:fY Hi [yA,"_law_row",FM,"_law_unit"] (aC (vT 41)):=aX
theorem K7 {f:af} (g:G3 K mg "_law_task" (vT 41) [yA,"_law_row",FM,"_law_unit"] f fd) (B:Bl mg) (u:Z1 P w K mg base 1 "_law_word" (vT 38) [yA] RN):Z1 P w K mg base 2 "_law_task" (vT 41) [yA,"_law_row",FM,"_law_unit"] WD:=by
 refine c6 g BM ?_;rintro _ _ _ s H _ _ H3 Q hr ⟨c,X,pp,a,e,d,rfl,U,r1,r8,hrn,hpp,p8,hpn,u1,u2,kk⟩;have hu30:=zc.u30 hr;have hu31:=zc.u31 hr;refine⟨_,(aj (aD 4 BM.nd (aF aW wh (aM bZ rfl B.len_ cg (aa wm ak))))
   (aj (aD 5 BM.nd (aF aW (aF bu wh (aM bZ rfl B.len_ cg (aa wm ak))) ao))
   (aj (aD 0 BM.nd (aF bu wh (aF c7 ao (aM bZ rfl B.len_ cg (aa wm ak)))))
   (aj (aD 6 BM.nd (aY ak))
   (aj (bc (aO (bR hu30) (aF aW wh ao) ao) (aj (aD 6 BM.nd (aY (aa (aJ wt wm xk) ak)))
    (aj (aD 7 BM.nd (aF bu wh ao))
    (aj (bh G_ rfl (bN rfl B.range_ (aa ao ak)) (aB 8 BM.nd) (aj (aD 9 BM.nd (aJ wt (aF aZ w4 (aY (aa (aJ wt wm xk) ak))) (aF aW y7 ao)))
     (aj (aD 7 BM.nd (aF bu y7 ao))
     (au (bc (aO (iI hu31) AN y6 rfl) (au (bK (dj I_ M_ N_ bx y6 (aa AN ak)))) aL)))))
    (aj (aD 10 BM.nd (aF aW (aF aW y7 ao) (aM bZ rfl B.len_ cg (aa y6 ak))))
    (au (aD 6 BM.nd (aF aZ (iJ y6 (d9 (v3 10)) eV) (iJ y6 eV (d9 (v3 10)))))))))) aL)
   (aj (aD 0 BM.nd (aF bu wh (aF c7 (aF c7 ao ao) ao)))
   (aj (aD 11 BM.nd (aF aZ ao (aF aW (aF bu wh ao) ao)))
   (aj (aD 12 BM.nd (aJ wt (aY (aa (v3 11) (aa (aF aZ (aF c7 xa (v3 11)) (aF aW (aF bu wh ao) ao)) (aa (aF aZ ao (aF aW (aF bu wh ao) (aF fG (aF jy ao ao) ao))) ak)))) (aF aW wh ao)))
   (au (aK (bB (aa xk (aa xA (aa (v3 12) (aa (bG cR rfl B.tuple_ cT (aa y6 ak)) (aa (aN u hr rfl (aa (aF bu wh (aF c7 ao (aF jy ao ao))) ak)) ak)))))))))))))))),?_⟩
 walk_at "q";walk_at "h";have k':=t6.mk kk;clear kk;have hrn':=t6.mk hrn;have hpn':=t6.mk hpn;clear hrn hpn;walk_at "s";have b0:=Yy c (show (a.length:Int)≠0 by omega);have b1:=Q_ c (show (0:Int)<(a.length:Int) by omega);refine⟨uS,?_⟩;obtain⟨s,hs⟩:∃s:Nat,c%(a.length:Int)=(s:Int):=⟨(c%(a.length:Int)).toNat,uS⟩;rw[hs] at b0 b1 |-;have D:s<a.length:=uS
 have lg:(a.length:Int).natAbs.log2<9000:=Z0 (FD _) uS;have lg8:(8*(a.length:Int)).natAbs.log2<9000:=Z0 (FD _) uS;clear hs;walk_at "n";walk_at "s";refine⟨⟨uS,lg⟩,vS,?_⟩;have t0:=Yy (c / (a.length:Int)) (show (8:Int)≠0 by decide);have t1:=Q_ (c / (a.length:Int)) (show (0:Int)<8 by decide);generalize c / (a.length:Int)%8=tn at t0 t1;walk_at "n";walk_at "s";refine⟨.inl ⟨vS,vS⟩,⟨uS,lg8⟩,?_⟩;generalize c / (8*(a.length:Int))=c2;walk_at "n";walk_at "s";refine⟨vS,λY F=>?_⟩;walk_at "n";refine aA λR4 hR4=>?_;have key:t6 (∀(p:af) (ks:List ap) (v7 W v9 v10:Option T) (I:gV),eG H3 I->I p=ab (.lst (ks.map t4))->AT ks->ks.length<=4->(ks=[]\/a.getD s ""∈ks)->R4 { nx:=λx H'=>n7 Q T.non H',rt:=n7 Q} [ab (.int c2),ab (.ref X),ab (.ref pp),ab (.int d),ab (.int (s:Int)),ab (.int tn),ab (.ref p),v7,W,v9,v10,ag,ag] I):=by
  refine⟨λp ks v7 W v9 v10 I G gp O hk4 hks=>?_⟩;clear U hpp F;walk_at "n";refine aA λR5 hR5=>?_;walk_at "";refine⟨.inl ⟨vS,vS⟩,.inl ⟨vS,vS⟩,⟨vS,xo⟩,?_⟩;generalize c2 / (4*729*4)=l;walk_at "n";walk_at "s";refine⟨⟨vS,xo⟩,vS,?_⟩;have d0:=Yy (l / 3) (show (9:Int)≠0 by decide);have d1:=Q_ (l / 3) (show (0:Int)<9 by decide);generalize l / 3%9=dg at d0 d1;walk_at "n";walk_at "s";refine⟨.inr ⟨uS,uS⟩,⟨vS,xo⟩,vS,⟨vS,xo⟩,⟨vS,vS,vS⟩,xo,vS,λS k=>⟨vS,?_⟩⟩;have i0:=Yy l (show (3:Int)≠0 by decide);have i1:=Q_ l (show (0:Int)<3 by decide);have e0:=Yy (l / 27) (show (2:Int)≠0 by decide);have e1:=Q_ (l / 27) (show (0:Int)<2 by decide);have f0:=Yy (l / 3) (show ((10:Int)^cw 60 - 1)≠0 by decide +kernel);have f1:=Q_ (l / 3) (show (0:Int)<(10:Int)^cw 60 - 1 by decide +kernel);have m1:d*(1+dg)<=10^57*9:=sx u2 uS uS xo;have m0:1*1<=d*(1+dg):=sx u1 uS vS uS;have p60:(10:Int)^cw 60=10^60:=rfl;rw[p60] at f0 f1 |-;have sb7:=G.trans (eG.new (o:=.lst [t3 (1+dg),t3 (d*(1+dg)+l / 27%2),t3 (1+l / 3%(10^60 - 1))]) k);have gp7:eH I S (.lst [t3 (1+dg),t3 (d*(1+dg)+l / 27%2),t3 (1+l / 3%(10^60 - 1))]) p=_ := EE gp k;generalize eH I S (.lst [t3 (1+dg),t3 (d*(1+dg)+l / 27%2),t3 (1+l / 3%(10^60 - 1))])=H5 at sb7 gp7 |-;generalize d*(1+dg)=ud at *;generalize l / 27%2=e27 at *;generalize l / 3%(10^60 - 1)=e3 at *;obtain⟨t,J,l1,l2⟩:∃t:Int,xh [t3 (1+dg),t3 (ud+e27),t3 (1+e3)] (l%3)=ab (t3 t)/\1<=t/\t<10^60:=by
   rcases (show l%3=0\/l%3=1\/l%3=2 by omega) with h | h | h
   .rw[h];exact⟨_,rfl,uS,uS⟩
   .rw[h];exact⟨_,rfl,uS,uS⟩
   rw[h];exact⟨_,rfl,uS,uS⟩
  rw[J,dZ];clear J gp G k;walk_at "n";walk_at "";refine⟨⟨vS,vS,vS⟩,.inl ⟨vS,vS⟩,⟨xo,xo⟩,_,rfl,λy hy=>⟨vS,?_⟩⟩;exact n7.of sb7 (k'.out s tn t ks y D t0 t1 l1 l2 O hk4 hks hy)
 have n:eH H3 Y (.lst []) X=_ := EE U F;have v:eH H3 Y (.lst []) Y=ab (.lst (([]:List ap).map t4)):=aq;have C:eG H3 (eH H3 Y (.lst [])):=eG.new F;generalize eH H3 Y (.lst [])=I at n v C |-;clear F hR4 k';walk_at "";refine⟨vS,?_⟩;by_cases h4:c2%4=1
 .rw[k_ h4,we rfl];try rw[n,sY]
  rw[lX D,dZ];refine⟨vS,λpf hpf=>⟨⟨vS,xo⟩,by first | trivial | decide,vS,vS,?_⟩⟩;have f0:=cF C hpf;have rl:(eU 0 (cw 3)).length=3:=by unfold eU;rw[g_,D_];rfl
  generalize eU 0 (cw 3)=ts0 at rl;have hxs:=hrn'.out _ (zi D);have hx':=t6.mk hxs;clear hxs;refine je (λr Z H=>∃(m:List ap) (wq:Int) (W v9:Option T),Z=[ab (.int c2),ab (.ref X),ab (.ref pp),ab (.int d),ab (.int (s:Int)),ab (.int tn),ab (.ref pf),ab (.int wq),W,v9,ag,ag,ag]/\eG H3 H/\H pf=ab (.lst (m.map t4))/\AT m/\m.length+r.length<=4/\a.getD s ""∈m) ⟨[a.getD s ""],c2 / 4,_,_,rfl,C.trans (eG.new hpf),aq,AT.nil.snoc hx'.out (λz=>nomatch z),by rw[rl];exact u_ 4,j_.mpr rfl⟩ ?_ ?_
  .rintro Z H ⟨m,wq,W,v9,rfl,G,R,O,hl,hm⟩;walk_at "t";clear n v;walk_at "";have fl:1<=m.length:=kb hm;have a0:=Yy (wq%4) (show (m.length:Int)≠0 by omega);have a1:=Q_ (wq%4) (show (0:Int)<(m.length:Int) by omega);obtain⟨j,hj⟩:∃j:Nat,wq%4%(m.length:Int)=(j:Int):=⟨(wq%4%(m.length:Int)).toNat,uS⟩;refine⟨vS,uS,λS k=>?_⟩;rw[hj,aH (bF R k),R,Mi,sZ,qG];intro q2 q;have n12:S≠q2:=bF aq q;rw[Dm,aH n12,aq,aq,jB];refine⟨by rw[G1,Y0,g_];omega,λq3 hq3=>?_⟩;have pm:(m.drop j++m.take j).Perm m:=List.perm_append_comm.trans (by rw[kD]);refine key.out q3 (m.drop j++m.take j) _ _ _ _ _ (G.trans ((eG.new k).trans ((eG.new q).trans (eG.new hq3)))) (by rw[aq,B_,i4,mm]) ⟨λx hx=>O.nm x (pm.mem_iff.mp hx),pm.nodup_iff.mpr O.nd⟩ (by rw[pm.length_eq];simpa using hl) (.inr (pm.mem_iff.mpr hm))
  rintro x r Z H N ⟨m,wq,W,v9,rfl,G,R,O,hl,hm⟩ hN;walk_at "t";rw[n_] at hl;have hM:=t6.mk hN;clear hN n v key;have n:=G _ _ U;have M:=G _ _ hpp;walk_at "s";try rw[lX D,dZ]
  refine⟨vS,λS k=>?_⟩;rw[aH (bF M k),M,jB];refine⟨by rw[g_,t_];omega,λq2 q=>?_⟩;have V:=G.trans ((eG.new (o:=.lst [t4 (a.getD s "")]) k).trans (eG.new (o:=.lst (e.map t4++[t4 (a.getD s "")])) q));have gf5:eH (eH H S (.lst [t4 (a.getD s "")])) q2 (.lst (e.map t4++[t4 (a.getD s "")])) pf=ab (.lst (m.map t4)):=by rw[aH (bF (eG.new k _ _ R) q),aH (bF R k)];exact R
  have h0:=Yy wq (show (9:Int)≠0 by decide);have h1:=Q_ wq (show (0:Int)<9 by decide);obtain⟨j,hj⟩:∃j:Nat,wq%9=(j:Int):=⟨(wq%9).toNat,uS⟩;have hat:xh (e.map t4++[t4 (a.getD s "")]) (j:Int)=ab (t4 ((e++[a.getD s ""]).getD j "")):=by have:=lX (ns:=e++[a.getD s ""]) (i:=j) (by rw[b_,t_];omega);rw[B_] at this;exact this
  have L:xC ((e++[a.getD s ""]).getD j ""):=by
   have:=zi (ns:=e++[a.getD s ""]) (i:=j) (by rw[b_,t_];omega);rcases q_.mp this with z | z
   .exact hpn'.out _ z
   rw[j_.mp z];exact hx'.out
  refine⟨vS,?_⟩;rw[hj,Dq,aq,sY,hat,dZ];generalize eH (eH H S (.lst [t4 (a.getD s "")])) q2 (.lst (e.map t4++[t4 (a.getD s "")]))=H5 at V gf5 |-;generalize (e++[a.getD s ""]).getD j ""=oth at L |-;clear hat k q n M G R;walk_at "n";walk_at "";refine⟨⟨vS,xo⟩,rfl,cz m,?_⟩;split
  .rename_i hm1;have hni:=(V9 gG (x:=oth)).mp hm1;try walk_at ""
   refine⟨⟨wo,wo⟩,uS,hM.out _ _ ⟨m++[oth],_,_,_,rfl,?_,?_,O.snoc L hni,by rw[b_,t_];omega,YC _ hm⟩⟩
   .intro b o hb;rw[aH (bF hb f0)];exact V b o hb
   rw[aq,B_];rfl
  exact hM.out _ _ ⟨m,_,_,_,rfl,V,gf5,O,uS,hm⟩
 rw[m_ h4,wc K_];exact key.out Y [] _ _ _ _ I C v AT.nil vS (.inl rfl)
abbrev rD:List ap:=[yb,AH,Au,"_law_rank","_law_base","_law_ahead","_law_beside","_law_orders","_law_pairs","_law_p","_law_q",A6,EB,FO]
theorem B8:fY rD [yb,AH,Au] (aC (vT 42)):=aX
theorem Hj {f:af} (g:G3 K mg "_law_links" (vT 42) [yb,AH,Au] f fd) (B:Bl mg) (r:Z1 P w K mg base 1 "_law_cell" (vT 37) [yb,AB] Kd):Z1 P w K mg base 2 "_law_links" (vT 42) [yb,AH,Au] WT:=by
 refine c6 g B8 ?_;rintro _ A _ s H _ _ H3 _ hr ⟨a,pn,ps,sc,ns,c,rfl,ha,hsc,hpn,hnn,hn8,hps,hsl,kk⟩;have J:=zc.u30 hr;have hu31:=zc.u31 hr;refine⟨_,(aj (aD 3 B8.nd (aM JQ rfl B.sorted_ kI (aa (bD rfl (b6 42 rD [AB,Au] 1 [2]) (bN rfl B.range_ (aa (aM bZ rfl B.len_ cg (aa wm ak)) ak)) (λcl P8 s H C0 fp=>⟨(aB 0 (n5 [AB,Au])),bY,(bB (aa (aJ wt (aJ wt wm wh) ao) (aa (aJ wt (aJ wt wm wh) ao) (aa wh ak))))⟩)) ak)))
   (aj (aD 4 B8.nd (aJ wt (aY (aa ao (aa ao (aa ao ak)))) (aF aW (aF bu (aN r hr rfl (aa wh (aa ao ak))) ao) ao)))
   (aj (aD 5 B8.nd (aN r hr rfl (aa wh (aa ao ak))))
   (aj (aD 6 B8.nd (aN r hr rfl (aa wh (aa ao ak))))
   (aj (aD 7 B8.nd (aY ak))
   (aj (aD 8 B8.nd (aY ak))
   (aj (bh G_ rfl (bN rfl B.range_ (aa (aM bZ rfl B.len_ cg (aa xa ak)) ak)) (aB 9 B8.nd) (au (bh G_ rfl (z9 rfl B.range_ (aa (aF aZ AN ao) (aa (aM bZ rfl B.len_ cg (aa xa ak)) ak))) (aB 10 B8.nd) (aj (aD 11 B8.nd (aJ wt wm (aJ wt (aJ wt xa AN) ao)))
     (aj (aD 12 B8.nd (aJ wt wm (aJ wt (aJ wt xa (v3 10)) ao)))
     (aj (bc (aO (bR J) (aF aW xA xk) ao) (au (bK (dj I_ M_ N_ bx y7 (aa (bB (aa (v3 11) (aa (v3 12) ak))) ak)))) aL)
     (aj (aD 13 B8.nd (aJ wt (aY (aa cZ (aa cZ ak))) (bG xY rfl B.int_ Dk (aa (di (bR J) (aJ wt (aJ wt xa AN) ao) (aJ wt (aJ wt xa (v3 10)) ao)) ak))))
     (aj (bc (aO (iy hu31) (aF aW y6 ao) (bB (aa ao (aa ao ak))) rfl) (au (bK (dj I_ M_ N_ bx AC (aa (bB (aa (v3 13) (aa (v3 11) (aa (v3 12) ak)))) ak)))) aL)
     (aj (bc (aO (iy hu31) (aF aW y6 ao) (bB (aa ao (aa ao ak))) rfl) (au (bK (dj I_ M_ N_ bx AC (aa (bB (aa (v3 13) (aa (v3 12) (aa (v3 11) ak)))) ak)))) aL)
     (aj (aD 5 B8.nd (aF bu xA xk))
     (au (aD 6 B8.nd (aF bu y6 ao)))))))))))))
   (aj (bc (aO (bR J) (aF aW xA ao) ao) (au (bK (ww I_ hY hU Gk y7))) aL)
   (aj (bc (aO (bR J) (aF aW y6 ao) ao) (au (bK (ww I_ hY hU Gk AC))) aL)
   (au (aK (bB (aa (bG cR rfl B.tuple_ cT (aa y7 ak)) (aa (bG cR rfl B.tuple_ cT (aa (iJ AC eV (d9 ao)) ak)) ak)))))))))))))),?_⟩
 walk_at "q";walk_at "h";have k':=t6.mk kk;clear kk;refine aA λR0 hR0=>?_;walk_at "";refine⟨wo,uS,uS,?_⟩;rw[iT];walk_at "c";refine bJ (λ(k:Nat)=>t3 (k:Int)) (λk=>AU ((((c.map (·.1)).getD k 0:Nat):Int),(c.map (·.2.1)).getD k 0,(k:Int))) (ax ns.length) [ab (.ref ps)] trivial (by rw[D_];omega) (λk hk Q' hq=>?_) (λp1 hp1=>?_)
 .have hk':k<c.length:=by have:=T_.mp hk;omega
  have x1:xh (c.map C3) (k:Int)=ab (.tup [.int ((c[k]).1:Int),.int (c[k]).2.1,.int (c[k]).2.2.1,sT (c[k]).2.2.2.1,.str (c[k]).2.2.2.2]):=bQ (by rw[C_,d_ hk'];rfl);have y1:(c.map (·.1)).getD k 0=(c[k]).1:=by rw[i_,C_,d_ hk'];rfl
  have y2:(c.map (·.2.1)).getD k 0=(c[k]).2.1:=by rw[i_,C_,d_ hk'];rfl
  rw[y1,y2] at hq;generalize c[k]=tk at x1 hq;have hq':=t6.mk hq;clear hq k' hR0 y1 y2;walk_at "";exact⟨vS,hq'.out⟩
 refine⟨(ax ns.length).map λk=>((((c.map (·.1)).getD k 0:Nat):Int),(c.map (·.2.1)).getD k 0,(k:Int)),by rw[W_];rfl,by rw[g_,D_];omega,λus hperm hpw pk hpk=>?_⟩;obtain⟨ul,U,hx1,hx2⟩:=Sv hsl hperm hpw;have sb:eG H3 (eH (eH H3 p1 (.lst ((ax ns.length).map λk=>AU ((((c.map (·.1)).getD k 0:Nat):Int),(c.map (·.2.1)).getD k 0,(k:Int))))) pk (.lst (us.map AU))):=(eG.new hp1).trans (eG.new hpk);have S:eH (eH H3 p1 (.lst ((ax ns.length).map λk=>AU ((((c.map (·.1)).getD k 0:Nat):Int),(c.map (·.2.1)).getD k 0,(k:Int))))) pk (.lst (us.map AU)) pk=ab (.lst (us.map AU)):=aq;generalize eH (eH H3 p1 (.lst ((ax ns.length).map λk=>AU ((((c.map (·.1)).getD k 0:Nat):Int),(c.map (·.2.1)).getD k 0,(k:Int))))) pk (.lst (us.map AU))=H4 at sb S |-;clear hperm hpw hpk hp1;have v:=t6.mk hx1;have hx2':=t6.mk hx2;clear hx1 hx2;walk_at "n";walk_at "s";refine⟨vS,λq1 y=>?_⟩;have x:=sb.trans (eG.new (o:=.lst [t3 2,t3 4,t3 8]) y);have gk1:eH H4 q1 (.lst [t3 2,t3 4,t3 8]) pk=_ := EE S y;have V:eH H4 q1 (.lst [t3 2,t3 4,t3 8]) q1=ab (.lst [t3 2,t3 4,t3 8]):=aq;generalize eH H4 q1 (.lst [t3 2,t3 4,t3 8])=H5 at x gk1 V |-;clear sb S y;refine⟨a,sc,0,rfl,x _ _ ha,hsc,vS,λc0=>?_⟩;dsimp only;obtain⟨bs,eb,hbs⟩:∃bs:Int,xh [t3 2,t3 4,t3 8] (c0 / 2048%3)=ab (t3 bs)/\(bs=2\/bs=4\/bs=8):=by
  have i0:=Yy (c0 / 2048) (show (3:Int)≠0 by decide);have i1:=Q_ (c0 / 2048) (show (0:Int)<3 by decide);rcases (show c0 / 2048%3=0\/c0 / 2048%3=1\/c0 / 2048%3=2 by omega) with h | h | h
  .rw[h];exact⟨2,rfl,.inl rfl⟩
  .rw[h];exact⟨4,rfl,.inr (.inl rfl)⟩
  rw[h];exact⟨8,rfl,.inr (.inr rfl)⟩
 walk_at "";refine⟨⟨vS,xo⟩,vS,?_⟩;have lgb:bs.natAbs.log2<9000:=Z0 (FD _) uS;clear eb V;walk_at "n";walk_at "s";refine⟨a,sc,12,rfl,x _ _ ha,hsc,vS,λc1=>?_⟩;walk_at "n";walk_at "s";refine⟨a,sc,13,rfl,x _ _ ha,hsc,vS,λc2=>?_⟩;walk_at "n";walk_at "s";refine⟨vS,λL D=>?_⟩;walk_at "n";walk_at "s";refine⟨vS,λpq C=>?_⟩;have Y:A0 H3 (eH (eH H5 L (.lst [])) pq (.lst [])) pk L pq us [] [] :=
  ⟨(x.trans (eG.new D)).trans (eG.new C),eG.new C _ _ (eG.new D _ _ gk1),by rw[aH (bF aq C)];exact aq,aq,cF x D,cF (x.trans (eG.new D)) C,bF gk1 D,bF (eG.new D _ _ gk1) C,bF aq C⟩
 generalize eH (eH H5 L (.lst [])) pq (.lst [])=H6 at Y |-;clear x gk1 D C;walk_at "n";refine aA λR6 hR6=>?_;have gk0:=Y.k;walk_at "";refine⟨by first | trivial | omega,uS,uS,?_⟩;try rw[ul]
 rw[iT];have G:∃b:Nat->ap,∀p<ns.length,ns[U p]?=ab (b p):=⟨λp=>ns.getD (U p) "",λp hp=>by
  have:=(v.out p hp).1
  dsimp only
  rw[i_,d_ this]
  rfl⟩
 obtain⟨b,G⟩:=G;obtain⟨I,hwd⟩:∃I:Nat->Nat->ap,∀p q,I p q=if (c.map (·.1)).getD (U p) 0=(c.map (·.1)).getD (U q) 0 then "with" else "apart":=⟨_,λ_ _=>rfl⟩
 have hwd':=t6.mk hwd;clear hwd;have hinj:t6 (∀i j,i<ns.length->j<ns.length->b i=b j->i=j):=⟨λi j hi hj e=>by
  have h1:=G i hi
  have h2:=G j hj
  rw[e,<- h2] at h1
  have e2:=(Kb (v.out i hi).1 hnn.nd).mp h1
  rcases Nat.lt_trichotomy i j with z | z | z
  ·
   exact wT e2 (hx2'.out i j z hj).1
  ·
   exact z
  ·
   exact wT e2.symm (hx2'.out j i z hi).1⟩
 refine aU (λ(k:Nat)=>t3 (k:Int)) (ax ns.length) (λA Z H=>∃(O:List (ap × ap)) (P:List (ap × ap × ap)) (ah be:Int) (v9 m n d l:Option T),Z=[ab (.ref a),ab (.ref pn),ab (.ref ps),ab (.ref pk),ab (.int bs),ab (.int ah),ab (.int be),ab (.ref L),ab (.ref pq),v9,m,n,d,l]/\A0 H3 H pk L pq us O P/\DC b I ns.length A.length 0 O P) ⟨[],[],_,_,_,_,_,_,_,rfl,Y,⟨EC,(λ_ z=>nomatch z),EC,(λ_ z=>nomatch z),Y5 _,Y5 _⟩⟩ ?_ ?_
 .rintro Z H ⟨O,P,ah,be,v9,m,n,d,l,rfl,t,W⟩;walk_at "t";have S:=t.k;have go:=t.o;have gp:=t.p;clear Y gk0;walk_at "n";walk_at "s";refine⟨vS,?_⟩;refine Gw ⟨wo,wo⟩ λb7 H7 e7=>?_;obtain⟨O',pO,lh7⟩:∃O':List (ap × ap),O'.Perm O/\A0 H3 H7 pk L pq us O' P:=by
   cases b7
   .rw[e7];exact⟨O,.refl _,t⟩
   refine⟨O.reverse,iA O,?_⟩;rw[e7,<- HV];exact t.putO
  have gp7:=lh7.p;clear e7 t S go gp;walk_at "n";walk_at "s";refine⟨vS,?_⟩;refine Gw ⟨wo,wo⟩ λb8 H8 e8=>?_;obtain⟨P',pP,lh8⟩:∃P':List (ap × ap × ap),P'.Perm P/\A0 H3 H8 pk L pq us O' P':=by
   cases b8
   .rw[e8];exact⟨P,.refl _,lh7⟩
   refine⟨P.reverse,iA P,?_⟩;rw[e8,<- HV];exact lh7.putP
  have gp8:=lh8.p;have go8:=lh8.o;clear e8 lh7 gp7;walk_at "n";walk_at "";intro q1 y;refine⟨vS,?_⟩;rw[show (12:Int)=((12:Nat):Int) from rfl,qG,<- mm];exact n7.of (lh8.sb.trans (eG.new y)) (k'.out O' (P'.take 12) (Sw hn8 (λp hp=>(v.out p hp).1) hx2'.out G hwd'.out W pO pP))
 rintro A p B Z H N e ⟨O,P,ah,be,v9,m,n,d,l,rfl,t,W⟩ hN;walk_at "t";have hA:A.length<ns.length:=by have:=YB a5 e;simp only[b_,n_,D_] at this;omega
 have hj:p=A.length:=by
  have h1:(ax ns.length)[A.length]?=ab p:=by rw[e,O_ (u_ _)];simp
  rw[YL hA] at h1;exact (P_ h1).symm
 have S:=t.k;have hN':=t6.mk hN;clear hN e k' hR6 Y gk0;subst hj;walk_at "";refine⟨by first | trivial | omega,⟨uS,uS,uS,uS⟩,?_⟩;rw[show eU ((A.length:Int)+1) ((ns.length:Int) - ((A.length:Int)+1)).toNat=(ax (ns.length - (A.length+1))).map (λ(i:Nat)=>t3 ((A.length:Int)+1+(i:Int))) by unfold eU;rw[show ((ns.length:Int) - ((A.length:Int)+1)).toNat=ns.length - (A.length+1) by omega]];refine aU (λ(i:Nat)=>t3 ((A.length:Int)+1+(i:Int))) (ax (ns.length - (A.length+1))) (λM Z H=>∃(O:List (ap × ap)) (P:List (ap × ap × ap)) (ah be:Int) (m n d l:Option T),Z=[ab (.ref a),ab (.ref pn),ab (.ref ps),ab (.ref pk),ab (.int bs),ab (.int ah),ab (.int be),ab (.ref L),ab (.ref pq),ab (.int (A.length:Int)),m,n,d,l]/\A0 H3 H pk L pq us O P/\DC b I ns.length A.length (A.length+1+M.length) O P) ⟨O,P,_,_,_,_,_,_,rfl,t,W.skip (λp' q' _ z=>by unfold Dn at *;omega) uS⟩ ?_ ?_
 .rintro Z H ⟨O,P,ah,be,m,n,d,l,rfl,t,W⟩;walk_at "t";rw[D_] at W;exact hN'.out _ _ ⟨O,P,_,_,_,_,_,_,_,rfl,t,W.skip (λp' q' hq z=>by rw[b_,t_];unfold Dn at *;omega) (by rw[b_,t_];omega)⟩
 rintro M i B2 Z H N2 e2 ⟨O,P,ah,be,m,n,d,l,rfl,t,W⟩ QU;walk_at "t";have hA2:M.length<ns.length - (A.length+1):=by have:=YB a5 e2;simp only[b_,n_,D_] at this;omega
 have hi2:i=M.length:=by
  have h1:(ax (ns.length - (A.length+1)))[M.length]?=ab i:=by rw[e2,O_ (u_ _)];simp
  rw[YL hA2] at h1;exact (P_ h1).symm
 subst hi2;have hM:t6 (∀(b1 X b3:Bool) (ah be:Int) (m n d l:Option T) (H':gV),A0 H3 H' pk L pq us (bif b1 then O++[(b A.length,b (A.length+1+M.length))] else O) (bif b3 then (bif X then P++[(I A.length (A.length+1+M.length),b A.length,b (A.length+1+M.length))] else P)++[(I A.length (A.length+1+M.length),b (A.length+1+M.length),b A.length)] else (bif X then P++[(I A.length (A.length+1+M.length),b A.length,b (A.length+1+M.length))] else P))->N2 [ab (.ref a),ab (.ref pn),ab (.ref ps),ab (.ref pk),ab (.int bs),ab (.int ah),ab (.int be),ab (.ref L),ab (.ref pq),ab (.int (A.length:Int)),m,n,d,l] H'):=⟨λb1 X b3 ah be m n d l H' hl=>QU _ _ ⟨_,_,_,_,_,_,_,_,rfl,hl,by
  have:=W.step hinj.out uS uS b1 X b3
  rw[b_,t_]
  exact this⟩⟩
 have ol:=W.ol;have pl_:=W.pl;clear QU e2 hN' W;obtain⟨q,hq⟩:∃q,q=A.length+1+M.length:=⟨_,rfl⟩;have hqm:q<ns.length:=uS
 have eqI:(A.length:Int)+1+(M.length:Int)=(q:Int):=uS
 rw[<- hq] at hM ol pl_;obtain⟨ip,up⟩:=v.out A.length hA;obtain⟨iq,uq⟩:=v.out q hqm;have u1:xh (us.map AU) (A.length:Int)=ab (.tup [.int (((c.map (·.1)).getD (U A.length) 0:Nat):Int),.int (us.getD A.length (0,0,0)).2.1,.int (U A.length:Int)]):=bQ (by rw[C_,up];rfl);have u2:xh (us.map AU) (q:Int)=ab (.tup [.int (((c.map (·.1)).getD (U q) 0:Nat):Int),.int (us.getD q (0,0,0)).2.1,.int (U q:Int)]):=bQ (by rw[C_,uq];rfl);have n1:xh (ns.map t4) (U A.length:Int)=ab (.str (b A.length)):=bQ (by rw[C_,G _ hA];rfl);have n2:xh (ns.map t4) (U q:Int)=ab (.str (b q)):=bQ (by rw[C_,G _ hqm];rfl);have hw:=hwd'.out A.length q;have S:=t.k;have gn:=t.sb _ _ hpn;have go:=t.o;dsimp only;rw[eqI];clear eqI hq;generalize (c.map (·.1)).getD (U A.length) 0=s1 at *;generalize (c.map (·.1)).getD (U q) 0=s2 at *;refine aA λRa hRa=>?_;walk_at "";obtain⟨hRa⟩:=hRa;subst hRa;refine aA λRb hRb=>?_;walk_at "";obtain⟨hRb⟩:=hRb;subst hRb;refine aA λRc hRc=>?_;walk_at "";refine⟨uS,?_⟩;refine wO (p1:=True/\True) ⟨wo,wo⟩ vS uS λb1 Hb eb=>?_;have lhb:A0 H3 Hb pk L pq us (bif b1 then O++[(b A.length,b q)] else O) P:=by
  cases b1
  .rw[eb];exact t
  have:=t.putO (O':=O++[(b A.length,b q)]);rw[B_] at this;rw[eb];exact this
 clear eb S gn go t;have S:=lhb.k;obtain⟨hRc⟩:=hRc;subst hRc;refine aA λRd hRd=>?_;walk_at "";refine⟨vS,λq1 y=>?_⟩;have R:=lhb.new (u:=.lst [t4 "apart",t4 "with"]) y;have V:eH Hb q1 (.lst [t4 "apart",t4 "with"]) q1=ab (.lst [t4 "apart",t4 "with"]):=aq;generalize eH Hb q1 (.lst [t4 "apart",t4 "with"])=Hc at R V |-;clear lhb S y;have S:=R.k;walk_at "";have hwd2:xh [t4 "apart",t4 "with"] (if decide ((s1:Int)=(s2:Int))=ai then 1 else 0)=ab (t4 (I A.length q)):=by
  by_cases z:s1=s2
  .rw[hw,we z,k_ (by rw[z]),we rfl];rfl
  rw[hw,wc z,m_ uS,wc K_];rfl
 rw[hwd2,dZ];clear hwd2 hw V S;obtain⟨hRd⟩:=hRd;subst hRd;have gp:=R.p;refine aA λRe hRe=>?_;walk_at "";refine⟨vS,vS,rfl,rfl,?_⟩;refine wO (p1:=True/\True) ⟨wo,wo⟩ vS uS λX Hd ed=>?_;have lhd:A0 H3 Hd pk L pq us (bif b1 then O++[(b A.length,b q)] else O) (bif X then P++[(I A.length q,b A.length,b q)] else P):=by
  cases X
  .rw[ed];exact R
  have:=R.putP (P':=P++[(I A.length q,b A.length,b q)]);rw[B_] at this;rw[ed];exact this
 have hP1:(bif X then P++[(I A.length q,b A.length,b q)] else P).length<=2*(9*A.length+q)+1:=by
  cases X
  .exact nS pl_
  show (P++[_]).length<=_;rw[b_];simp;exact pl_
 have hM2:=t6.mk (hM.out b1 X);clear ed R gp hM;generalize (bif X then P++[(I A.length q,b A.length,b q)] else P)=P1 at *;obtain⟨hRe⟩:=hRe;subst hRe;have gp:=lhd.p;refine aA λRf hRf=>?_;walk_at "";refine⟨vS,vS,rfl,rfl,?_⟩;refine wO (p1:=True/\True) ⟨wo,wo⟩ vS uS λb3 He ee=>?_;have lhe:A0 H3 He pk L pq us (bif b1 then O++[(b A.length,b q)] else O) (bif b3 then P1++[(I A.length q,b q,b A.length)] else P1):=by
  cases b3
  .rw[ee];exact lhd
  have:=lhd.putP (P':=P1++[(I A.length q,b q,b A.length)]);rw[B_] at this;rw[ee];exact this
 clear ee lhd gp;obtain⟨hRf⟩:=hRf;subst hRf;walk_at "";exact⟨⟨uS,lgb⟩,⟨vS,xo⟩,hM2.out b3 _ _ _ _ _ _ _ lhe⟩
abbrev j6:List ap:=[yb,CH,CD,"_law_first",FM,"_law_spread","_law_kinds","_law_row",AB,"_law_unit",Au,AH,"_law_tasks_here","_law_orders","_law_pairs"]
theorem BC:fY j6 [yb,CH,CD] (aC (vT 43)):=aX
theorem Hk {f:af} (g:G3 K mg "_law_works" (vT 43) [yb,CH,CD] f fd) (B:Bl mg) (m:Z1 P w K mg base 1 "_law_cell" (vT 37) [yb,AB] Kd) (F_pool:Z1 P w K mg base 2 "_law_pool" (vT 40) [yA] Wz) (F_task:Z1 P w K mg base 2 "_law_task" (vT 41) [yA,"_law_row",FM,"_law_unit"] WD) (M:Z1 P w K mg base 1 "_law_unlike" (vT 39) [EM] RP) (X:Z1 P w K mg base 2 "_law_links" (vT 42) [yb,AH,Au] WT):Z1 P w K mg base 3 "_law_works" (vT 43) [yb,CH,CD] WX:=by
 refine c6 g BC ?_;rintro _ A _ s H _ _ H3 _ hr ⟨a,sc,l,c,rfl,ha,L,m1,m8,w1,w8,kk⟩;refine⟨_,(aj (aD 3 BC.nd (aN m hr rfl (aa wh (aa ao ak))))
   (aj (aD 4 BC.nd (aN F_pool hr rfl (aa (aN m hr rfl (aa wh (aa ao ak))) ak)))
   (aj (aD 5 BC.nd (aJ wt (aY (aa ao (aa ao (aa ao (aa ao ak))))) (aF aW (aF bu xa ao) ao)))
   (aj (aD 6 BC.nd (aN m hr rfl (aa wh (aa ao ak))))
   (aj (aD 7 BC.nd (aY ak))
   (aj (bh G_ rfl (bN rfl B.range_ (aa (aF aZ ao (aF aW (aF bu xa ao) w4)) ak)) (aB 8 BC.nd) (aj (bK (dj I_ M_ N_ bx y7 (aa (aJ wt xk (aF aW y6 xA)) ak)))
    (au (aD 6 BC.nd (aF bu y6 xA)))))
   (aj (aD 9 BC.nd (aF aZ ao (aF aW (aN m hr rfl (aa wh (aa ao ak))) (aF jy ao ao))))
   (aj (aD 10 BC.nd (aY ak))
   (aj (bh G_ rfl (bN rfl B.range_ (aa (aF aZ ao (aF aW (aF bu xa ao) wm)) ak)) (aB 8 BC.nd) (au (bK (dj I_ M_ N_ bx (v3 10) (aa (aN F_task hr rfl (aa (aN m hr rfl (aa wh (aa (aF aZ ao AC) ak))) (aa y7 (aa xk (aa AN ak))))) ak)))))
   (aj (aD 11 BC.nd (aN M hr rfl (aa (bD rfl (b6 43 j6 [A6] 1 []) (bA (v3 10)) (λcl P8 s H C0 fp=>⟨(aB 0 (n5 [A6])),bY,(aJ wt wh ao)⟩)) ak)))
   (aj (jd (i:=12) rfl BC.nd (b6 43 j6 [DU,A6] 2 []) (yx rfl B.zip_ (aa (v3 11) (aa (v3 10) ak))) (λcl P8 s H C0 fp=>⟨(bU (n:=2) rfl (aG (aB 0 (n5 [DU,A6])) (aG (aB 1 (n5 [DU,A6])) bC))),bY,(bB (aa wh (aa (aJ wt wm ao) (aa (aJ wt wm ao) ak))))⟩))
   (aj (iH (aN X hr rfl (aa wh (aa (v3 11) (aa (v3 10) ak)))) (bU (n:=2) rfl (aG (aB 13 BC.nd) (aG (aB 14 BC.nd) bC))))
   (au (aK (bB (aa (bB (aa (bG cR rfl B.tuple_ cT (aa (v3 12) ak)) (aa (v3 13) (aa (v3 14) (aa (bG cR rfl B.tuple_ cT (aa y7 ak)) ak))))) (aa (bD rfl (b6 43 j6 [A6] 1 []) (bA (v3 10)) (λcl P8 s H C0 fp=>⟨(aB 0 (n5 [A6])),bY,(aJ wt wh ao)⟩)) ak))))))))))))))))),?_⟩
 walk_at "q";walk_at "h";have k':=t6.mk kk;clear kk;walk_at "s";refine⟨a,sc,0,rfl,ha,L,vS,λv=>?_⟩;walk_at "n";walk_at "s";refine⟨a,sc,2,rfl,ha,L,vS,λc1=>⟨c1,rfl,λd hpl J G hpp=>?_⟩⟩;have sb1:eG H3 (eH H3 G (.lst (d.map t4))):=eG.new hpp;have gp1:eH H3 G (.lst (d.map t4)) G=ab (.lst (d.map t4)):=aq;generalize eH H3 G (.lst (d.map t4))=H4 at sb1 gp1 |-;clear hpp;walk_at "n";refine aA λR2 hR2=>?_;obtain⟨sp,eb,hsp⟩:∃sp:Int,xh [t3 1,t3 2,t3 3,t3 8] (v / 512%4)=ab (t3 sp)/\1<=sp/\sp<=8:=by
  have i0:=Yy (v / 512) (show (4:Int)≠0 by decide);have i1:=Q_ (v / 512) (show (0:Int)<4 by decide);rcases (show v / 512%4=0\/v / 512%4=1\/v / 512%4=2\/v / 512%4=3 by omega) with h | h | h | h
  .rw[h];exact⟨1,rfl,vS⟩
  .rw[h];exact⟨2,rfl,vS⟩
  .rw[h];exact⟨3,rfl,vS⟩
  rw[h];exact⟨8,rfl,vS⟩
 walk_at "";refine⟨vS,λq1 C=>⟨⟨vS,xo⟩,vS,?_⟩⟩;try rw[eb,dZ]
 have sb2:=sb1.trans (eG.new (o:=.lst [t3 1,t3 2,t3 3,t3 8]) C);have gp2:eH H4 q1 (.lst [t3 1,t3 2,t3 3,t3 8]) G=_ := EE gp1 C;generalize eH H4 q1 (.lst [t3 1,t3 2,t3 3,t3 8])=H5 at sb2 gp2 |-;have lgs:sp.natAbs.log2<9000:=Z0 (FD _) uS;clear sb1 gp1 C eb;walk_at "n";walk_at "s";refine⟨a,sc,1,rfl,sb2 _ _ ha,L,vS,λc2=>?_⟩;walk_at "n";walk_at "s";refine⟨vS,λR hpr=>?_⟩;have sb3:=sb2.trans (eG.new (o:=.lst []) hpr);have f0:=cF sb2 hpr;have gp3:eH H5 R (.lst []) G=_ := EE gp2 hpr;have npr:G≠R:=bF gp2 hpr;have gr3:eH H5 R (.lst []) R=ab (.lst (([]:List ap).map t4)):=aq;generalize eH H5 R (.lst [])=H6 at sb3 gp3 gr3 |-;clear sb2 gp2 hpr;walk_at "n";refine aA λR5 hR5=>?_;walk_at "";have w0:=Yy (v / 2) (show c≠0 by omega);have w2:=Q_ (v / 2) (show 0<c by omega);refine⟨⟨vS,xo⟩,uS,by first | trivial | omega,uS,uS,?_⟩;have rl:(eU 0 (1+v / 2%c).toNat).length=(1+v / 2%c).toNat:=by unfold eU;rw[g_,D_]
 generalize eU 0 (1+v / 2%c).toNat=ts0 at rl;have hpn':=t6.mk J;clear J;refine je (λr Z H=>∃(k:List ap) (c2:Int) (v8:Option T),Z=[ab (.ref a),ab (.int l),ab (.int c),ab (.int v),ab (.ref G),ab (.int sp),ab (.int c2),ab (.ref R),v8,ag,ag,ag,ag,ag,ag]/\eG H3 H/\H G=ab (.lst (d.map t4))/\H R=ab (.lst (k.map t4))/\(k.length:Int)+r.length=1+v / 2%c/\∀x∈k,xC x) ⟨[],c2,_,rfl,sb3,gp3,gr3,by rw[rl,YM];omega,(λ_ z=>nomatch z)⟩ ?_ ?_
 .rintro Z H ⟨k,c3,v8,rfl,V,gp,gr,hrl,hrn⟩;walk_at "t";rw[YM] at hrl;have r1:1<=k.length:=uS
  have r8:k.length<=8:=uS
  have rw_:(k.length:Int)<=c:=uS
  have I:=t6.mk hrn;clear hrn sb3 gp3 gr3 hrl rl w0 w2;walk_at "n";walk_at "s";refine⟨a,sc,3,rfl,V _ _ ha,L,vS,λc4=>⟨⟨vS,vS,vS⟩,?_⟩⟩;walk_at "";refine⟨xo,?_⟩;have p57:(10:Int)^cw 57=10^57:=rfl;rw[p57];have u0:=Yy c4 (show ((10:Int)^57)≠0 by decide +kernel);have u9:=Q_ c4 (show (0:Int)<(10:Int)^57 by decide +kernel);obtain⟨q,hu⟩:∃q:Int,1+c4%10^57=q:=⟨_,rfl⟩;have u1:1<=q:=uS
  have u2:q<=10^57:=uS
  rw[hu];clear hu u0 u9 p57;walk_at "n";walk_at "s";refine⟨vS,λps D=>?_⟩;have sb4:=V.trans (eG.new (o:=.lst []) D);have g0:=cF V D;have gp4:eH H ps (.lst []) G=_ := EE gp D;have gr4:eH H ps (.lst []) R=_ := EE gr D;have gs4:eH H ps (.lst []) ps=ab (.lst (([]:List EF).map C3)):=aq;have nps1:G≠ps:=bF gp D;have nps2:R≠ps:=bF gr D;generalize eH H ps (.lst [])=H7 at sb4 gp4 gr4 gs4 |-;clear V gp gr D;walk_at "n";refine aA λR8 hR8=>?_;walk_at "";have t0:=Yy (v / 64) (show l≠0 by omega);have t2:=Q_ (v / 64) (show 0<l by omega);refine⟨⟨vS,xo⟩,uS,by first | trivial | omega,uS,uS,?_⟩;obtain⟨n,hn⟩:∃n:Nat,(1+v / 64%l).toNat=n:=⟨_,rfl⟩;have n1:1<=n:=uS
  have n8:n<=8:=uS
  have nm_:(n:Int)<=l:=uS
  rw[hn,iT];clear hn t0 t2;refine aU (λ(i:Nat)=>t3 (i:Int)) (ax n) (λA Z H=>∃(p:List EF) (v8:Option T),Z=[ab (.ref a),ab (.int l),ab (.int c),ab (.int v),ab (.ref G),ab (.int sp),ab (.int c3),ab (.ref R),v8,ab (.int q),ab (.ref ps),ag,ag,ag,ag]/\eG H3 H/\H G=ab (.lst (d.map t4))/\H R=ab (.lst (k.map t4))/\H ps=ab (.lst (p.map C3))/\p.length=A.length/\∀t∈p,Nw k t) ⟨[],_,rfl,sb4,gp4,gr4,gs4,rfl,(λ_ z=>nomatch z)⟩ ?_ ?_
  .rintro Z H ⟨p,v8,rfl,V,gp,gr,gs,hsl,Y⟩;walk_at "t";rw[D_] at hsl;have F:=t6.mk Y;clear Y sb4 gp4 gr4 gs4;walk_at "n";refine aA λR9 hR9=>?_;walk_at "";walk_at "c";refine bJ C3 (λt=>t4 t.2.2.2.2) p [] (.inl gs) uS (λt ht Q' hq=>?_) (λq1 C=>?_)
   .have x1:xh [t3 (t.1:Int),t3 t.2.1,t3 t.2.2.1,sT t.2.2.2.1,t4 t.2.2.2.2] 4=ab (t4 t.2.2.2.2):=rfl;have hq':=t6.mk hq;clear hq k' hR9;simp only[C3];walk_at "";exact hq'.out
   rw[show (p.map λt=>t4 t.2.2.2.2)=(p.map (·.2.2.2.2)).map t4 by rw[W_];rfl];refine⟨q1,p.map (·.2.2.2.2),rfl,aq,by rw[g_];omega,λx hx=>?_,λns hnl hnn pn J=>?_⟩
   .obtain⟨t,ht,rfl⟩:=o_.mp hx;exact (F.out t ht).nm
   rw[g_] at hnl;have sb5:=V.trans ((eG.new C).trans (eG.new (o:=.lst (ns.map t4)) J));have st5:=(eG.new C).trans (eG.new (o:=.lst (ns.map t4)) J);have gr5:=st5 _ _ gr;have gs5:=st5 _ _ gs;have gn5:eH (eH H q1 (.lst ((p.map (·.2.2.2.2)).map t4))) pn (.lst (ns.map t4)) pn=ab (.lst (ns.map t4)):=aq;try dsimp only
   generalize eH (eH H q1 (.lst ((p.map (·.2.2.2.2)).map t4))) pn (.lst (ns.map t4))=H8 at sb5 gr5 gs5 gn5 |-;clear st5 V gp gr gs C J;walk_at "n";refine aA λR10 hR10=>?_;walk_at "";rw[nG,show ∀x0 x1 x2 x3 x4 x5 x6 x7 x8 x9 x10 x11 x12 x13 x14,qw 2 [] [x0,x1,x2,x3,x4,x5,x6,x7,x8,x9,x10,x11,x12,x13,x14]=[ag,ag] from λ_ _ _ _ _ _ _ _ _ _ _ _ _ _ _=>rfl];refine lA (λz=>t4 z.1) (λz=>C3 z.2) (λz=>.tup [.str z.1,.int z.2.2.2.1,sT z.2.2.2.2.1]) (ns.zip p) [] (still:=λH'=>bI pn (ns.map t4) H'/\bI ps (p.map C3) H') (H:=H8) ⟨.inl gn5,.inl gs5⟩ (by rw[qE];omega) (λz U Q' hq=>?_) ?_
   .obtain⟨zn,S⟩:=z;have x2:xh [t3 (S.1:Int),t3 S.2.1,t3 S.2.2.1,sT S.2.2.2.1,t4 S.2.2.2.2] 2=ab (t3 S.2.2.1):=rfl;have x3:xh [t3 (S.1:Int),t3 S.2.1,t3 S.2.2.1,sT S.2.2.2.1,t4 S.2.2.2.2] 3=ab (sT S.2.2.2.1):=rfl;have hq':=t6.mk hq;clear hq k' hR10;simp only[C3];walk_at "";exact⟨vS,hq'.out⟩
   try dsimp only
   intro pt hpt;have W:=eG.new (o:=.lst ((ns.zip p).map λz=>t5 [.str z.1,.int z.2.2.2.1,sT z.2.2.2.2.1])) hpt;have gr6:=W _ _ gr5;have gs6:=W _ _ gs5;have gn6:=W _ _ gn5;have gt6:eH H8 pt (.lst ((ns.zip p).map λz=>t5 [.str z.1,.int z.2.2.2.1,sT z.2.2.2.2.1])) pt=ab (.lst ((ns.zip p).map λz=>t5 [.str z.1,.int z.2.2.2.1,sT z.2.2.2.2.1])):=aq;have sb6:eG H3 (eH H8 pt (.lst ((ns.zip p).map λz=>t5 [.str z.1,.int z.2.2.2.1,sT z.2.2.2.2.1]))):=sb5.trans W;try dsimp only
   generalize eH H8 pt (.lst ((ns.zip p).map λz=>t5 [.str z.1,.int z.2.2.2.1,sT z.2.2.2.2.1]))=H9 at sb6 gr6 gs6 gn6 gt6 |-;clear W sb5 gr5 gs5 gn5 hpt;walk_at "n";walk_at "s";refine⟨a,pn,ps,sc,ns,p,rfl,sb6 _ _ ha,L,gn6,hnn,uS,gs6,uS,λO P lk=>?_⟩;try walk_at ""
   walk_at "n";walk_at "";refine⟨wo,vS,?_⟩;walk_at "c";refine bJ C3 (λt=>t3 (t.1:Int)) p [] (.inl gs6) uS (λt ht Q' hq=>?_) (λpz hpz=>?_)
   .have x0:xh [t3 (t.1:Int),t3 t.2.1,t3 t.2.2.1,sT t.2.2.2.1,t4 t.2.2.2.2] 0=ab (t3 (t.1:Int)):=rfl;have hq':=t6.mk hq;clear hq k';simp only[C3];walk_at "";exact hq'.out
   obtain⟨ok,ft,el⟩:=Sx hnn uS uS uS F.out r1 r8 I.out lk;refine⟨vS,?_⟩;have ee:(p.map λt=>t3 (t.1:Int))=(p.map (·.1)).map λ(s:Nat)=>t3 (s:Int):=by rw[W_];rfl
   have ew:t5 [t5 ((ns.zip p).map λz=>t5 [t4 z.1,t3 z.2.2.2.1,sT z.2.2.2.2.1]),t5 (O.map xw),t5 (P.map ya),t5 (k.map t4)]=(D9 ns p O P k).enc:=by unfold Wk.enc D9;rw[W_];rfl
   rw[ee,ew];refine n7.of ?_ (k'.out (D9 ns p O P k) (p.map (·.1)) ok (by rw[el];omega) rw_ ft pz (cF sb6 hpz));intro b o hb;by_cases e:b=pz
   .subst e;rw[aq] at hb |-;exact hb
   rw[aH e] at hb |-;exact sb6 b o hb
  rintro A i B Z H N e ⟨p,v8,rfl,V,gp,gr,gs,hsl,Y⟩ hN;walk_at "t";have hA:A.length<n:=by have:=YB a5 e;simp only[b_,n_,D_] at this;omega
  have hi:i<n:=T_.mp (by rw[e];simp);have hM:=t6.mk hN;have F:=t6.mk Y;clear hN Y e sb4 gp4 gr4 gs4 k' hR8;walk_at "";refine⟨⟨wo,wo⟩,a,sc,4+i,by rw[show (4:Int)+(i:Int)=((4+i:Nat):Int) by push_cast;rfl],V _ _ ha,L,uS,λc5=>⟨c5,R,G,k,d,q,rfl,gr,r1,r8,I.out,gp,hpl,hpn'.out.nm,u1,u2,λs tn len ks nam h1 h2 h3 h4 h5 h6 h7 h8 h9=>?_⟩⟩;dsimp only;rw[gs,Dr];refine⟨by rw[g_];omega,hM.out _ _ ⟨p++[(s,tn,len,ks,nam)],_,rfl,λb u hb=>?_,?_,?_,?_,by rw[b_,b_,hsl];rfl,λz U=>?_⟩⟩
  .rw[aH (bF hb g0)];exact V b u hb
  .rw[aH nps1];exact gp
  .rw[aH nps2];exact gr
  .rw[aq,B_];rfl
  rcases q_.mp U with U | U
  .exact F.out z U
  rw[j_.mp U];exact⟨h1,h4,h5,h6,h7,h8,h9⟩
 rintro x r Z H N ⟨k,c3,v8,rfl,V,gp,gr,hrl,hrn⟩ hN;walk_at "t";rw[n_] at hrl;have hM:=t6.mk hN;have I:=t6.mk hrn;have hj0:=Yy c3 (show sp≠0 by omega);have hj1:=Q_ c3 (show 0<sp by omega);obtain⟨j,hj⟩:∃j:Nat,c3%sp=(j:Int):=⟨(c3%sp).toNat,uS⟩;have hat:=lX (ns:=d) (i:=j) uS;have hnx:=hpn'.out.nm _ (zi (ns:=d) (i:=j) uS);generalize d.getD j ""=y at hat hnx;clear hN hrn sb3 gp3 gr3 k' hR5;walk_at "";refine⟨⟨wo,wo⟩,uS,uS,⟨uS,lgs⟩,hM.out _ _ ⟨k++[y],_,_,rfl,λb u hb=>?_,?_,?_,by rw[b_,t_];push_cast;push_cast at hrl;omega,λz U=>?_⟩⟩
 .rw[aH (bF hb f0)];exact V b u hb
 .rw[aH npr];exact gp
 .rw[aq,B_];rfl
 rcases q_.mp U with U | U
 .exact I.out z U
 rw[j_.mp U];exact hnx
abbrev zE:List ap:=[w_,zS,"_law_found",EI,D4]
theorem KB:fY zE [w_,zS] (aC (vT 44)):=aX
theorem Hl {f:af} (g:G3 K mg "_law_loads" (vT 44) [w_,zS] f F) (B:Bl mg):Z1 P w K mg base 1 "_law_loads" (vT 44) [w_,zS] Sy:=by
 refine c6 g KB ?_;rintro _ A _ s H _ _ H3 _ _ ⟨W,q,sts,rfl,V,x,hsl,r,S⟩;refine⟨_,(aj (aD 2 KB.nd (aF DW (aY (aa ao ak)) (aM bZ rfl B.len_ cg (aa (aJ wt wh ao) ak))))
   (aj (bh G_ rfl (JR rfl B.zip_ (aa (aJ wt wh ao) (aa wm ak))) (bU (n:=2) rfl (aG (aB 3 KB.nd) (aG (aB 4 KB.nd) bC))) (au (iH (aF aZ (aJ wt w4 xk) (aJ wt xa ao)) (PB w4 xk Ac))))
   (au (aK w4)))),?_⟩
 walk_at "q";walk_at "h";have M:=t6.mk S;clear S;have r8:=V.r8;have t8:=V.t8;walk_at "s";refine⟨vS,λD m=>⟨⟨uS,uS,uS⟩,λd j=>?_⟩⟩;have U:∀n:Nat,(aS n [t3 0]).flatten=(aS n (0:Int)).map t3:=λn=>by
  induction n with
  |zero=>rfl
  |succ n ih=>rw[Zc,Zc,ZQ,ih];rfl
 rw[U];have X:=(cU j).2;have c:eG H3 (eH (eH H3 D (.lst [t3 0])) d (.lst ((aS W.row.length (0:Int)).map t3))):=(eG.new m).trans (eG.new j);have k:eH (eH H3 D (.lst [t3 0])) d (.lst ((aS W.row.length (0:Int)).map t3)) d=ab (.lst ((aS W.row.length (0:Int)).map t3)):=aq;have u:=c _ _ x;generalize eH (eH H3 D (.lst [t3 0])) d (.lst ((aS W.row.length (0:Int)).map t3))=H4 at c k u |-;clear U j m;walk_at "n";refine aA λR1 y=>?_;walk_at "";rw[nG];have p:=t6.mk r;clear r;refine aU (λz=>t5 [xp z.1,t3 (z.2:Int)]) (W.tasks.zip sts) (λA Z H=>∃(v3 v:Option T),Z=[ab W.enc,ab (.ref q),ab (.ref d),v3,v]/\eG H3 H/\H d=ab (.lst ((A.foldl A7 (aS W.row.length 0)).map t3))) ⟨_,_,rfl,c,k⟩ ?_ ?_
 .rintro Z H ⟨v3,v,rfl,t,O⟩;refine⟨.inl (t _ _ x),?_⟩;walk_at "n";walk_at "";refine n7.of (λb o l=>?_) (M.out d X);by_cases e:b=d
  .subst e;rw[aq] at l;rw[<- l];exact O
  rw[aH e] at l;exact t b o l
 rintro A z B Z H N e ⟨v3,v,rfl,t,O⟩ R;refine⟨.inl (t _ _ x),?_⟩;have G:z∈W.tasks.zip sts:=by rw[e];simp
 have hs:z.2<W.row.length:=p.out _ (GV G).2;have a:(A++[z]).foldl A7 (aS W.row.length 0)=A7 (A.foldl A7 (aS W.row.length 0)) z:=by rw[Lv];rfl
 have Y:(A.foldl A7 (aS W.row.length 0)).length=W.row.length:=by rw[zg,Zb]
 have I:=t6.mk R;clear R e c k u M y G;rw[a] at I;generalize A.foldl A7 (aS W.row.length 0)=L at *;clear a;have x1:xh (L.map t3) (z.2:Int)=ab (t3 (L.getD z.2 0)):=by
  have J:z.2<L.length:=uS
  rw[bQ (by rw[C_,d_ J];rfl),i_,d_ J];rfl
 obtain⟨⟨tn,tl,tk⟩,zs⟩:=z;simp only[xp];walk_at "";rw[Jo hs,dZ];refine⟨wo,I.out _ _ ⟨_,_,rfl,λb o l=>?_,?_⟩⟩
 .rw[aH (bF l X)];exact t b o l
 rw[aq];unfold A7;rw[List.map_set]
abbrev xn:List ap:=[yA,w_,zS,"_law_loads_here","_law_total",Au]
theorem G0:fY xn [yA,w_,zS] (aC (vT 45)):=aX
theorem K8 {f:af} (g:G3 K mg "_law_beat" (vT 45) [yA,w_,zS] f fd) (B:Bl mg) (b:Z1 P w K mg base 1 "_law_loads" (vT 44) [w_,zS] Sy):Z1 P w K mg base 2 "_law_beat" (vT 45) [yA,w_,zS] WY:=by
 refine c6 g G0 ?_;rintro _ _ _ s H _ _ H3 _ hr ⟨c,W,q,sts,rfl,l,Y,Z,G,kk⟩;refine⟨_,(aj (aD 3 G0.nd (aN b hr rfl (aa wm (aa w4 ak))))
   (aj (aD 4 G0.nd (aM (vN rfl) rfl B.sum_ vO (aa xa ak)))
   (aj (aD 5 G0.nd (aY (aa (aM (jN rfl) rfl B.max_ jC (aa xa ak)) (aa (aM (jN rfl) rfl B.max_ jC (aa xa ak)) (aa (aM (yf rfl) rfl B.max_ jC (aa ao (aa (aF fG (aM (jN rfl) rfl B.max_ jC (aa xa ak)) ao) ak))) (aa (aF bu xk (aM bZ rfl B.len_ cg (aa xa ak))) (aa (aF aZ (aF bu xk (aM bZ rfl B.len_ cg (aa xa ak))) ao) ak)))))))
   (aj (aD 5 G0.nd (aF aZ xA (aY (aa (aM (jN rfl) rfl B.max_ jC (aa (bD rfl (b6 45 xn [EI] 1 []) (cD (aJ wt wm ao)) (λcl P8 s H C0 fp=>⟨(aB 0 (n5 [EI])),bY,(aJ wt wh ao)⟩)) ak)) (aa xk ak)))))
   (aj (aD 5 G0.nd (aF aZ xA (aY (aa (aF aW (aF bu wh ao) (aM (Jx rfl) rfl B.min_ QD (aa (aF c7 ao xk) (aa (aF c7 ao (aF jy ao ao)) ak)))) (aa (aF aW (aF bu wh ao) (aF jy ao ao)) ak)))))
   (au (aK (aJ wt xA (aF aW wh ao))))))))),?_⟩
 walk_at "q";walk_at "h";have k':=t6.mk kk;clear kk;have r1:=l.r1;have r8:=l.r8;have t8:=l.t8;have t1:=l.t1;have hln:=zj W sts;have hnn:=SJ (sts:=sts) l;have R:=Ku Z G;have htp:=Kv l;rw[<- R] at htp;walk_at "s";refine⟨W,q,sts,rfl,l,Y,Z,G,λpl hpl=>?_⟩;have y:eG H3 (eH H3 pl (.lst ((Cc W sts).map t3))):=eG.new hpl;have gl:eH H3 pl (.lst ((Cc W sts).map t3)) pl=ab (.lst ((Cc W sts).map t3)):=aq;have p:=t6.mk hnn;clear hnn R G Y;try dsimp only
 generalize eH H3 pl (.lst ((Cc W sts).map t3))=H4 at y gl |-;generalize Cc W sts=L at *;walk_at "n";refine aA λR1 hR1=>?_;have is:=fU L;walk_at "";walk_at "n";refine aA λR2 hR2=>?_;have lgr:(W.row.length:Int).natAbs.log2<9000:=Z0 (FD _) uS;have hne:¬L=[]:=λz=>by rw[z,YM] at hln;omega
 walk_at "";refine⟨wo,λm1 hm1 _=>⟨wo,λm2 I _=>⟨wo,λm3 hm3 _=>⟨⟨uS,lgr⟩,⟨uS,lgr⟩,vS,λp1 hp1=>?_⟩⟩⟩⟩;obtain⟨xs,O,S,C⟩:∃xs:List Int,[t3 m1,t3 m2,t3 (if m3 - 1>0 then m3 - 1 else 0),t3 (L.sum / (W.row.length:Int)),t3 (L.sum / (W.row.length:Int)+1)]=xs.map t3/\(∀x∈xs,0<=x)/\xs.length=5:=by
  have d0:0<=L.sum / (W.row.length:Int):=Int.ediv_nonneg uS uS;refine⟨[m1,m2,if m3 - 1>0 then m3 - 1 else 0,L.sum / (W.row.length:Int),L.sum / (W.row.length:Int)+1],rfl,λx a=>?_,rfl⟩;simp only[y_,YJ,AJ] at a;rcases a with rfl | rfl | rfl | rfl | rfl
  .exact p.out _ hm1
  .exact p.out _ I
  .split <;> omega
  .exact d0
  omega
 rw[O];have D:=y.trans (eG.new (o:=.lst (xs.map t3)) hp1);have v:eH H4 p1 (.lst (xs.map t3)) p1=ab (.lst (xs.map t3)):=aq;generalize eH H4 p1 (.lst (xs.map t3))=H5 at D v |-;clear O hp1 y gl hm1 I hm3;walk_at "n";refine aA λR3 hR3=>?_;walk_at "";walk_at "c";have htk:=t6.mk l.tk;refine bJ xp (λt=>t3 t.2.1) W.tasks [] trivial uS (λt ht Q' Y=>?_) (λp2 X=>?_)
 .have x1:xh [t4 t.1,t3 t.2.1,sT t.2.2] 1=ab (t3 t.2.1):=rfl;have hq':=t6.mk Y;clear Y k' hR3;simp only[xp];walk_at "";exact hq'.out
 rw[show (W.tasks.map λt=>t3 t.2.1)=(W.tasks.map (·.2.1)).map t3 by rw[W_];rfl,fU,dZ];refine⟨λz=>by have:=YB a5 z;rw[g_,YM] at this;omega,λm hm _=>⟨vS,λp3 J=>?_⟩⟩;have hm0:0<=m:=by obtain⟨t,ht,rfl⟩:=o_.mp hm;have:=(htk.out t ht).lo;omega
 have u:=(eG.new (o:=.lst ((W.tasks.map (·.2.1)).map t3)) X).trans (eG.new (o:=.lst [t3 m,t3 L.sum]) J);have r:=D.trans u;rw[u _ _ v,jB];generalize eH (eH H5 p2 (.lst ((W.tasks.map (·.2.1)).map t3))) p3 (.lst [t3 m,t3 L.sum])=H6 at r |-;refine⟨by rw[g_,C,n_,t_];omega,λp4 U=>?_⟩;obtain⟨e,hys,hy0,hyl⟩:∃e:List Int,xs.map t3++[t3 m,t3 L.sum]=e.map t3/\(∀x∈e,0<=x)/\e.length=7:=by
  refine⟨xs++[m,L.sum],by rw[B_];rfl,λx a=>?_,by rw[b_,C];rfl⟩;rcases q_.mp a with a | a
  .exact S x a
  simp only[y_,YJ,AJ] at a;rcases a with rfl | rfl
  .exact hm0
  omega
 rw[hys];have F:=r.trans (eG.new (o:=.lst (e.map t3)) U);have gy:eH H6 p4 (.lst (e.map t3)) p4=ab (.lst (e.map t3)):=aq;try dsimp only
 generalize eH H6 p4 (.lst (e.map t3))=H7 at F gy |-;clear hys S C D v r u X J U hm;walk_at "n";walk_at "s";have hmn:0<(if 9*(10:Int)^cw 60<2*L.sum then 9*(10:Int)^cw 60 else 2*L.sum):=by
  split
  .decide +kernel
  omega
 refine⟨⟨vS,xo⟩,.inl ⟨vS,vS⟩,⟨vS,vS,vS⟩,.inl ⟨vS,vS⟩,hmn,⟨vS,xo⟩,⟨vS,vS,vS⟩,xo,vS,λp5 k=>?_⟩;generalize (if 9*(10:Int)^cw 60<2*L.sum then 9*(10:Int)^cw 60 else 2*L.sum)=mn at hmn k |-;have e0:=Yy (c / 9) (show mn≠0 by omega);have e1:=Yy (c / 9) (show ((10:Int)^cw 60)≠0 by decide +kernel);generalize c / 9%mn=a1 at e0 |-;generalize c / 9%(10:Int)^cw 60=a2 at e1 |-;rw[aH (bF gy k),gy,jB];refine⟨by rw[g_,hyl,n_,t_];omega,λp6 M=>?_⟩;obtain⟨d,V,hz0,hzl⟩:∃d:List Int,e.map t3++[t3 a1,t3 a2]=d.map t3/\(∀x∈d,0<=x)/\d.length=9:=by
  refine⟨e++[a1,a2],by rw[B_];rfl,λx a=>?_,by rw[b_,hyl];rfl⟩;rcases q_.mp a with a | a
  .exact hy0 x a
  simp only[y_,YJ,AJ] at a;rcases a with rfl | rfl
  .exact e0
  exact e1
 rw[V];have sb6:=F.trans ((eG.new k).trans (eG.new (o:=.lst (d.map t3)) M));have gz:∀Hx:gV,eH Hx p6 (.lst (d.map t3)) p6=ab (.lst (d.map t3)):=λ_=>aq;have i0:=Yy c (show (9:Int)≠0 by decide);have i1:=Q_ c (show (0:Int)<9 by decide);obtain⟨j,hj⟩:∃j:Nat,c%9=(j:Int):=⟨(c%9).toNat,uS⟩;have hjl:j<d.length:=uS
 have hat:xh (d.map t3) (j:Int)=ab (t3 d[j]):=bQ (by rw[C_,d_ hjl];rfl);have hn0:=hz0 _ (YZ hjl);generalize d[j]=n at hat hn0;try dsimp only
 have k2:=t6.mk (n7.of sb6 (k'.out n hn0));clear V hz0 hzl F gy k' M k;walk_at "n";walk_at "";refine⟨vS,?_⟩;first
  |exact k2.out
  | (rw[dZ];exact k2.out)
abbrev cY:List ap:=["self","stand","done"]
theorem nY:fY cY cY (aC (As 25 2)):=aX
theorem nZ {f:af} (g:GM K c "greatest_at" "Walk.greatest_at" (As 25 2) cY f v) (B:Bl mg) (r:BY K c ["works","beat","rules","whole"]) (i:Z1 P w K mg base 2 "greatest_numbers" (vT 22) ["numbers"] Wj) (j:FU P w K mg base c 3 "fillings_at" cY (Wi c)):FU P w K mg base c 4 "greatest_at" cY (Wl c):=by
 refine⟨g.cls,f,v,g.mt,g.b,?_⟩;refine GS g.fn nY (λts H Q h=>?_) (λG A u s H E ts H3 Q D h=>?_)
 .obtain⟨a,W,d8,k,d,rfl,_⟩:=h;rfl
 obtain⟨a,W,d8,k,d,rfl,z,x,J,N,y⟩:=h;refine⟨_,(au (aK (aN i D rfl (aa (qO j (D.mono vS) wh (aa wm (aa w4 ak))) ak)))),?_⟩;walk_at "q";walk_at "h";have I:=t6.mk y;clear y;have M:=ir z;obtain⟨O,R,_⟩:=x.ex;have F:=FW (W:=W) (d8:=d8) (p:=O) (m:="fillings_at") xo;walk_at "";refine⟨by first | trivial | exact F,a,W,d8,k,d,rfl,z,x,J,N,λC t=>?_⟩;have l:(zC W d8 k d).length<=256:=R_ (YD _ _) (by rw[D_];exact M);refine⟨C,zC W d8 k d,rfl,aq,l,λp L=>?_⟩;have n:eG H3 (eH H3 C (.lst ((zC W d8 k d).map aV))):=eG.new t;refine n7.of ?_ (I.out p (cF n L));intro b o q;by_cases e:b=p
 .subst e;rw[aq] at q |-;exact q
 rw[aH e] at q |-;exact n b o q
abbrev dX:List ap:=["numbers","greatest","number"]
theorem L8:fY dX ["numbers"] (aC (vT 22)):=aX
theorem jn {f:af} (g:G3 K mg "greatest_numbers" (vT 22) ["numbers"] f U) (B:Bl mg) (c:Z1 P w K mg base 1 "has_all" (vT 20) ["number","part"] pX):Z1 P w K mg base 2 "greatest_numbers" (vT 22) ["numbers"] Wj:=by
 refine c6 g L8 ?_;rintro _ A _ s H _ _ H3 _ hr ⟨a,W,rfl,S,hl,k⟩;refine⟨_,(aj (aD 1 L8.nd (aY ak))
   (aj (bh G_ rfl (QH rfl B.reversed_ wh) (aB 2 L8.nd) (au (bc (fC (cH (aM (Qz rfl) rfl B.any_ PQ (aa (bD rfl (b6 22 dX ["other","number"] 1 [2]) (bA wm) (λcl P8 s H C0 fp=>⟨(aB 0 (n5 ["other","number"])),bY,(aN c hr rfl (aa wh (aa wm ak)))⟩)) ak)))) (au (bK (dj I_ M_ N_ bx wm (aa w4 ak)))) aL)))
   (au (aK (Ed rfl rfl B.list_ rfl B.reversed_ wm))))),?_⟩
 walk_at "q";walk_at "h";walk_at "s";refine⟨uS,λD z=>?_⟩;walk_at "n";have u:eG H3 (eH H3 D (.lst [])):=eG.new z;have I:eH H3 D (.lst []) D=ab (.lst ((zI bj []).map aV)):=aq;generalize eH H3 D (.lst [])=H1 at u I;try dsimp only
 refine aA λR1 M=>?_;have ga:=u _ _ S;walk_at "";rw[<- HV];refine aU aV W.reverse (λA Z H=>∃(q:af) (v:Option T),Z=[ab (.ref a),ab (.ref q),v]/\eG H3 H/\H3 q=ag/\H q=ab (.lst ((zI bj A.reverse).map aV))) ⟨D,ag,rfl,u,z,I⟩ ?_ ?_
 .rintro Z H ⟨q,v,rfl,y,d,C⟩;refine⟨.inl (y _ _ S),?_⟩;walk_at "n";rw[List.reverse_reverse] at C;clear I ga;walk_at "";intro p Y;have L:H3 p=ag:=by
   cases e:H3 p with
   |none=>rfl
   |some o=>rw[y _ _ e] at Y;cases Y
  rw[<- HV];refine n7.of ?_ (k p L);intro b o j;by_cases e:b=p
  .subst e;rw[aq] at j |-;exact j
  rw[aH e] at j |-;exact y b o j
 rintro A n B Z H N e ⟨q,v,rfl,y,d,C⟩ X;refine⟨.inl (y _ _ S),?_⟩;have hA:A.length+1<=256:=by have:=YB a5 e;simp only[b_,n_,Zo] at this;omega
 have t:=t6.mk X;have x:zI bj (A++[n]).reverse=if (zI bj A.reverse).any (λg=>bj g n) then zI bj A.reverse else zI bj A.reverse++[n]:=by rw[lT];rfl
 have gl:=lW bj A.reverse;rw[Zo] at gl;clear X e k M I ga;generalize zI bj A.reverse=G at *;walk_at "";walk_at "c";refine bJ aV (λg=>T.bl (bj g n)) G [ab (aV n)] (.inl C) uS (λg hg Q' R=>?_) (λJ l=>?_)
 .clear t;walk_at "";exact⟨(g:Int),(n:Int),rfl,R⟩
 have F:q≠J:=bF C l;have bm:(G.map λg=>T.bl (bj g n))=(G.map λg=>bj g n).map T.bl:=by rw[W_];rfl
 have g2:eH H J (.lst ((G.map λg=>bj g n).map T.bl)) q=ab (.lst (G.map aV)):=by rw[aH F];exact C
 have m:eG H3 (eH H J (.lst ((G.map λg=>bj g n).map T.bl))):=y.trans (eG.new l);rw[bm,f9,dZ];generalize eH H J (.lst ((G.map λg=>bj g n).map T.bl))=H5 at g2 m;have V:(G.map λg=>bj g n).any id=G.any λg=>bj g n:=by rw[n9];rfl
 rw[V];cases j:G.any λg=>bj g n
 .rw[j] at x;simp only[v_,V_] at x;clear V bm l F;simp only[DS,if_true];walk_at "";refine⟨⟨wo,wo⟩,uS,t.out _ _ ⟨q,_,rfl,?_,d,?_⟩⟩
  .intro b o r;by_cases e:b=q
   .subst e;rw[d] at r;cases r
   rw[aH e];exact m b o r
  rw[aq,x,B_];rfl
 rw[j] at x;simp only[if_true] at x;simp only[Zy,v_,V_];exact t.out _ _ ⟨q,_,rfl,m,d,by rw[x];exact g2⟩
abbrev n6:List ap:=["self","works","beat"]
theorem K9:fY n6 n6 (aC (As 25 0)):=aX
theorem La {f:af} (g:GI K mg c "Walk" "Walk.__init__" (As 25 0) n6 f Y) (B:Bl mg) (d:BY K c ["works","beat","rules","whole"]) (j:Z1 P w K mg base 4 "rules_of" (vT 19) ["works"] Nv) (i:Z1 P w K mg base 1 "number_of" (vT 15) ["works","tasks"] nO) (l:Z1 P w K mg base 1 "names_of" (vT 13) ["tasks"] Wf):Md P w K mg base c 5 "Walk" n6 (Wh c):=by
 refine⟨g.at_,f,Y,g.mk_,g.b,?_⟩;refine GS g.fn K9 (λts H Q h=>?_) (λcdv A R s H E ts H3 Q X h=>?_)
 .obtain⟨a,W,d8,rfl,_⟩:=h;rfl
 obtain⟨a,W,d8,rfl,U,ha,k⟩:=h;refine⟨_,(aj (qN d wh wm)
   (aj (qN d wh w4)
   (aj (qN d wh (aN j X rfl (aa wm ak)))
   (au (qN d wh (aN i X rfl (aa wm (aa (aN l X rfl (aa (aJ wt wm ao) ak)) ak)))))))),?_⟩
 walk_at "q";walk_at "h";have k':=t6.mk k;clear k;walk_at "s";have Z:eH H3 a (.ins c (eN "works" W.enc [])) a=ab (.ins c [("works",W.enc)]):=aq;refine⟨vS,?_⟩;have u:∀b o,b≠a->H3 b=ab o->eH H3 a (.ins c (eN "works" W.enc [])) b=ab o:=λb o m e=>by rw[aH m];exact e
 generalize eH H3 a (.ins c (eN "works" W.enc []))=V at Z u |-;walk_at "n";walk_at "s";refine⟨vS,?_⟩;have y:eN "beat" (t3 d8) [("works",W.enc)]=[(("works":ap),W.enc),(("beat":ap),.int d8)]:=by unfold eN;rw[wc xo];rfl
 rw[y];have J:eH V a (.ins c [("works",W.enc),("beat",.int d8)]) a=ab (.ins c [("works",W.enc),("beat",.int d8)]):=aq;have n:∀b o,b≠a->H3 b=ab o->eH V a (.ins c [("works",W.enc),("beat",.int d8)]) b=ab o:=λb o m e=>by rw[aH m];exact u b o m e
 generalize eH V a (.ins c [("works",W.enc),("beat",.int d8)])=C at J n |-;clear Z u y;walk_at "n";walk_at "s";refine⟨W,rfl,U,λp S=>?_⟩;have t:a≠p:=bF J S;have O:eH C p (.lst (W.tasks.map (zv W (W.tasks.map (·.1))))) p=ab (.lst (W.tasks.map (zv W (W.tasks.map (·.1))))):=aq;have g4:eH C p (.lst (W.tasks.map (zv W (W.tasks.map (·.1))))) a=ab (.ins c [("works",W.enc),("beat",.int d8)]):=by rw[aH t];exact J
 have v:∀b o,b≠a->H3 b=ab o->eH C p (.lst (W.tasks.map (zv W (W.tasks.map (·.1))))) b=ab o:=λb o m e=>by rw[aH (bF (n b o m e) S)];exact n b o m e
 generalize eH C p (.lst (W.tasks.map (zv W (W.tasks.map (·.1)))))=G at O g4 v |-;clear J n S;walk_at "";refine⟨vS,?_⟩;have y:eN "rules" (t9 p) [("works",W.enc),("beat",.int d8)]=[(("works":ap),W.enc),(("beat":ap),.int d8),(("rules":ap),.ref p)]:=by unfold eN;rw[wc xo];unfold eN;rw[wc xo];rfl
 rw[y];have L:eH G a (.ins c [("works",W.enc),("beat",.int d8),("rules",.ref p)]) a=ab (.ins c [("works",W.enc),("beat",.int d8),("rules",.ref p)]):=aq;have F:eH G a (.ins c [("works",W.enc),("beat",.int d8),("rules",.ref p)]) p=ab (.lst (W.tasks.map (zv W (W.tasks.map (·.1))))):=by rw[aH (a7 t)];exact O
 have r:∀b o,b≠a->H3 b=ab o->eH G a (.ins c [("works",W.enc),("beat",.int d8),("rules",.ref p)]) b=ab o:=λb o m e=>by rw[aH m];exact v b o m e
 generalize eH G a (.ins c [("works",W.enc),("beat",.int d8),("rules",.ref p)])=D at L F r |-;clear O g4 v y;walk_at "n";walk_at "";refine⟨W.tasks,rfl,U.t8,λq I=>?_⟩;have M:a≠q:=bF L I;have N:p≠q:=bF F I;try dsimp only
 refine⟨W,_,W.tasks.map (·.1),rfl,U,.inr ⟨q,rfl,aq⟩,?_⟩;have ew:vE (W.tasks.map (·.1)) (W.tasks.map (·.1))=(vF W:Int) - 1:=by have h1:=ji (W:=W) (A:=nm W) λx hx=>hx;have h2:=eF W;rw[bM];show ((cj (nm W) (nm W):Nat):Int)=_;rw[h1];omega
 rw[ew];have g7:eH D q (.lst ((W.tasks.map (·.1)).map t4)) a=ab (.ins c [("works",W.enc),("beat",.int d8),("rules",.ref p)]):=by rw[aH M];exact L
 have g8:eH D q (.lst ((W.tasks.map (·.1)).map t4)) p=ab (.lst (W.tasks.map (zv W (W.tasks.map (·.1))))):=by rw[aH N];exact F
 have z:∀b o,b≠a->H3 b=ab o->eH D q (.lst ((W.tasks.map (·.1)).map t4)) b=ab o:=λb o m e=>by rw[aH (bF (r b o m e) I)];exact r b o m e
 generalize eH D q (.lst ((W.tasks.map (·.1)).map t4))=H8 at g7 g8 z |-;clear L F r I;walk_at "";refine⟨vS,?_⟩;have y:eN "whole" (t3 ((vF W:Int) - 1)) [("works",W.enc),("beat",.int d8),("rules",.ref p)]=BQ W d8 p:=by unfold eN;rw[wc xo];unfold eN;rw[wc xo];unfold eN;rw[wc xo];rfl
 rw[y];exact n7.of eG.refl (k'.out _ (λb o m e=>by rw[aH m];exact z b o m e) ⟨p,aq,by rw[aH (a7 t)];exact g8⟩)
abbrev gM:List ap:=["self","stand","done","kind","left"]
theorem MY:fY gM ["self","stand","done"] (aC (As 25 1)):=aX
theorem oh {f:af} (g:GM K l "fillings_at" "Walk.fillings_at" (As 25 1) ["self","stand","done"] f R) (B:Bl mg) (j:BY K l ["works","beat","rules","whole"]) (m:Z1 P w K mg base 2 "parts_of" (vT 24) ["number"] M4) (c:Z1 P w K mg base 2 "is_filling_number" (vT 21) ["rules","beat","kind","done","number"] Nx):FU P w K mg base l 3 "fillings_at" ["self","stand","done"] (Wi l):=by
 refine⟨g.cls,f,R,g.mt,g.b,?_⟩;refine GS g.fn MY (λts H Q h=>?_) (λcdv A I s H E ts H3 Q S h=>?_)
 .obtain⟨a,W,d8,k,d,rfl,_⟩:=h;rfl
 obtain⟨a,W,d8,k,d,rfl,x,hw,hk,X,V⟩:=h;refine⟨_,(aj (bc (aO Ux wm (aM bZ rfl B.len_ cg (aa (aJ wt (eE j wh) ao) ak))) (au (aK (aY ak))) aL)
   (aj (aD 3 MY.nd (aJ wt (aJ wt (eE j wh) ao) wm))
   (aj (aD 4 MY.nd (aN m S rfl (aa (aF fG (eE j wh) w4) ak)))
   (au (aK (bD rfl (bH (n0:=(aC (As 25 1)).names) (N:=gM) (N':=["number","kind","done","self"]) (nt:=1) (cap:=[3,2,0]) rfl rfl xo) (bA xk) (λcl P8 s H C0 fp=>⟨(aB 0 (n5 ["number","kind","done","self"])),(dJ (cH (aN c S rfl (aa (eE j xa) (aa (eE j xa) (aa wm (aa w4 (aa wh ak)))))))),wh⟩))))))),?_⟩
 walk_at "q";walk_at "h";have U:=t6.mk V;clear V;have t2:=ir x;have t1:=eF W;obtain⟨p,F,L⟩:=hw.ex;have f1:=jV (W:=W) (d8:=d8) (p:=p);have f2:=yM (W:=W) (d8:=d8) (p:=p);have f3:=nj (W:=W) (d8:=d8) (p:=p);have f4:=uG (W:=W) (d8:=d8) (p:=p);have x1:=wJ hk;have O:=t6.mk F;have M:=t6.mk L;generalize BQ W d8 p=fs at *;walk_at "s";rw[m_ uS,wc K_];walk_at "n";walk_at "s";walk_at "n";walk_at "s";refine⟨vF W - 1 - d,by rw[show ((vF W - 1 - d:Nat):Int)=(vF W:Int) - 1 - (d:Int) by omega],uS,λpl r=>?_⟩;have n1:a≠pl:=bF F r;have n2:p≠pl:=bF L r;have z:=Ay (W:=W) (d8:=d8) (k:=k) x X;have Z:(uE (vF W - 1 - d)).length<=256:=by unfold uE;exact R_ (YD _ _) (by rw[D_];omega)
 have v:∀i∈uE (vF W - 1 - d),i<vF W:=λi D=>by have:=T_.mp (p_.mp D).1;omega
 generalize uE (vF W - 1 - d)=ps at *;have n:eG H3 (eH H3 pl (.lst (ps.map aV))):=eG.new r;have h1:=n _ _ O.out;have Y:=n _ _ M.out;have h3:eH H3 pl (.lst (ps.map aV)) pl=ab (.lst (ps.map aV)):=aq;generalize eH H3 pl (.lst (ps.map aV))=H4 at n h1 Y h3 |-;clear F L x1 f1 f4 n1 n2 r;walk_at "n";have u:=t6.mk v;have y:=t6.mk z;clear v z;walk_at "";walk_at "c";refine cN (still:=bI pl (ps.map aV)) (H:=H4) aV aV (Bn W d8 k d) ps [ab (.str (W.row.getD k "")),ab (.int (d:Int)),ab (.ref a)] (.inl h3) uS ?c1 ?c2 ?c3
 case c2=>exact λi D _ Q' t=>t
 case c1 =>
  intro i D Q' t
  have G:=u.out i D
  have J:=t6.mk t
  clear U t
  simp only[aV]
  walk_at ""
  refine⟨W,p,d8,W.row.getD k "",pk W d,pk W i,?_,x,Y,?_⟩
  ·
   rw[jW x X,jW x G]
  ·
   exact J.out
 case c3 =>
  intro q t
  rw[y.out]
  refine n7.of ?_ (U.out q (cF n t))
  intro b o C
  by_cases e:b=q
  ·
   subst e;rw[aq] at C |-;exact C
  ·
   rw[aH e] at C |-;exact n b o C
abbrev fZ:List ap:=["self","number"]
theorem xq:fY fZ fZ (aC (As 25 3)):=aX
theorem xu {f:af} (g:GM K c "load_at" "Walk.load_at" (As 25 3) fZ f o) (B:Bl mg) (j:BY K c ["works","beat","rules","whole"]) (d:Z1 P w K mg base 1 "has_all" (vT 20) ["number","part"] pX):FU P w K mg base c 2 "load_at" fZ (M5 c):=by
 refine⟨g.cls,f,o,g.mt,g.b,?_⟩;refine GS g.fn xq (λts H Q h=>?_) (λC A m s H E ts H3 Q J h=>?_)
 .obtain⟨a,W,d8,i,rfl,_⟩:=h;rfl
 obtain⟨a,W,d8,i,rfl,v,z,G,u⟩:=h;refine⟨_,(au (aK (aM (vN rfl) rfl B.sum_ vO (aa (bD rfl (bH (n0:=(aC (As 25 3)).names) (N:=fZ) (N':=["rule","number"]) (nt:=1) (cap:=[1]) rfl rfl xo) (bA (eE j wh)) (λR x s H M V=>⟨(aB 0 (n5 ["rule","number"])),(dJ (cH (aN d J rfl (aa wm (aa (aJ wt wh ao) ak))))),(aJ wt wh ao)⟩)) ak)))),?_⟩;walk_at "q";walk_at "h";have l:=t6.mk u;clear u;have U:W.tasks.length<=8:=v.t8;obtain⟨p,L,F⟩:=z.ex;have O:=nj (W:=W) (d8:=d8) (p:=p);generalize BQ W d8 p=S at *;walk_at "";walk_at "c";refine cN (still:=bI p (W.tasks.map (zv W (W.tasks.map (·.1))))) (H:=H3) (zv W (W.tasks.map (·.1))) (λt=>t3 t.2.1) (λt=>decide (t.1∈pk W i)) W.tasks [ab (.int (i:Int))] (.inl F) uS ?c1 ?c2 ?c3
 case c1 =>
  intro t r D k
  have y:t.1∈W.tasks.map (·.1):=o_.mpr ⟨t,r,rfl⟩
  have I:decide (a3 (i:Int) (vE (W.tasks.map (·.1)) [t.1])=vE (W.tasks.map (·.1)) [t.1])=decide (t.1∈pk W i):=by
   rw[<- jW v G,Yx,h_,h_]
   exact lU y
  have n:=t6.mk k
  clear l k
  simp only[zv]
  walk_at ""
  refine⟨_,_,rfl,?_⟩
  rw[I]
  exact n.out
 case c2 =>
  intro t r _ D k
  clear l
  simp only[zv]
  walk_at ""
  try exact k
 case c3 =>
  intro q k
  have e:w9 ((W.tasks.filter λt=>decide (t.1∈pk W i)).map λt=>t3 t.2.1)=ab ((W.tasks.filter λt=>decide (t.1∈pk W i)).map (·.2.1)):=by
   rw[<- fU,W_];rfl
  rw[e,dZ]
  exact n7.of (eG.new k) l.out
abbrev jJ:List ap:=["number","parts","worth"]
theorem IR:fY jJ ["number"] (aC (vT 24)):=aX
theorem uX {f:af} (g:G3 K mg "parts_of" (vT 24) ["number"] f fd) (B:Bl mg) (c:Z1 P w K mg base 1 "has_all" (vT 20) ["number","part"] pX):Z1 P w K mg base 2 "parts_of" (vT 24) ["number"] M4:=by
 refine c6 g IR ?_;rintro _ _ _ s H _ _ H3 _ hr ⟨N,rfl,hN,k⟩;refine⟨_,(aj (aD 1 IR.nd (aY (aa ao ak)))
   (aj (aD 2 IR.nd ao)
   (aj (jL G_ (aO sH w4 wh) (aj (bc (cH (aN c hr rfl (aa wh (aa w4 ak)))) (au (aD 1 IR.nd (aF aZ wm (bD rfl (b6 24 jJ ["part","worth"] 1 [2]) (bA wm) (λcl P8 s H C0 fp=>⟨(aB 0 (n5 ["part","worth"])),bY,(aF aZ wh wm)⟩))))) aL)
    (au (aD 2 IR.nd (aF c7 w4 ao)))))
   (au (aK wm))))),?_⟩
 walk_at "q";walk_at "h";have k':=t6.mk k;clear k;walk_at "s";refine⟨vS,λJ D=>?_⟩;have C:eG H3 (eH H3 J (.lst [t3 0])):=eG.new D;have W:eH H3 J (.lst [t3 0]) J=ab (.lst (((ax (2^0)).filter (bj N)).map aV)):=by
  have h0:bj N 0=ai:=by rw[gQ];exact Nat.and_zero N
  rw[aq,show (ax (2^0))=[0] from rfl,Zn,h0];rfl
 generalize eH H3 J (.lst [t3 0])=H4 at C W |-;walk_at "n";walk_at "s";walk_at "n";refine aA λR2 V=>?_;refine⟨λm Z H=>∃(j:Nat) (q:af),Z=[ab (.int (N:Int)),ab (.ref q),ab (.int ((2^j:Nat):Int))]/\eG H3 H/\H3 q=ag/\H q=ab (.lst (((ax (2^j)).filter (bj N)).map aV))/\m=512 - 2^j/\(∀i,i+1=j->2^i<=N),⟨_,0,J,rfl,C,D,W,rfl,(λi h=>by omega)⟩,?_⟩;rintro m Z H ⟨j,q,rfl,U,I,t,rfl,hj⟩;have hj9:2^j<=256:=by
  cases j with
  |zero=>decide
  |succ i =>
   have h1:=hj i rfl
   have h2:i<8:=by
    rcases D7 i 8 with z | z
    ·
     exact z
    ·
     have:=IQ (n:=2) vS z
     omega
   exact R_ (IQ vS (show i+1<=8 by omega)) vS
 have hp:=qk (n:=j) (show 0<2 by decide);walk_at "";by_cases x:2^j<=N
 .have d:decide (((2^j:Nat):Int)<=(N:Int))=ai:=k_ (Int.ofNat_le.mpr x);rw[d,we rfl];have hlen:(((ax (2^j)).filter (bj N))).length<=256:=R_ (YD _ _) (by rw[D_];exact hj9);have l:=FT (N:=N) (k:=j);have e2:((2^j:Nat):Int)*2=((2^(j+1):Nat):Int):=by rw[ka];push_cast;rfl
  have cm:EV ((2^j:Nat):Int) 2:=.inl ⟨uS,uS⟩;have F:2^(j+1)=2^j*2:=by rw[ka]
  have u:t6 (∀(M:af) (L:gV),eG H3 L->H3 M=ag->L M=ab (.lst (((ax (2^(j+1))).filter (bj N)).map aV))->∃m',m'<512 - 2^j/\∃(S:Nat) (q:af),([ab (.int (N:Int)),ab (.ref M),ab (.int (((2^j:Nat):Int)*2))]:xv)=[ab (.int (N:Int)),ab (.ref q),ab (.int ((2^S:Nat):Int))]/\eG H3 L/\H3 q=ag/\L q=ab (.lst (((ax (2^S)).filter (bj N)).map aV))/\m'=512 - 2^S/\(∀i,i+1=S->2^i<=N)):=⟨λM L s1 s2 s3=>⟨_,uS,j+1,M,by rw[e2],s1,s2,s3,rfl,λi hi=>by rw[show i=j by omega];exact x⟩⟩;clear hj V k' W C e2 d F;generalize (ax (2^(j+1))).filter (bj N)=nx at *;generalize hcur:(ax (2^j)).filter (bj N)=a at *;refine⟨(N:Int),((2^j:Nat):Int),rfl,?_⟩;rw[show decide (a3 (N:Int) ((2^j:Nat):Int)=((2^j:Nat):Int))=bj N (2^j) from rfl];generalize 2^j=p at *;cases v:bj N p with
  |false=>rw[v] at l;simp only[v_,V_,YH] at l;simp only[dw,v_,V_];rw[<- l] at t;exact⟨by first | trivial | exact cm,u.out q _ U I t⟩
  |true =>
  rw[v] at l;simp only[if_true] at l;try simp only[dw,if_true]
  walk_at "c";rw[t,pC];refine bJ aV (λi=>aV (i+p)) a [ab (.int (p:Int))] (.inl t) uS (λi hi Q' r=>?_) (λR y=>?_)
  .simp only[aV] at r |-;rw[show ((i+p:Nat):Int)=(i:Int)+(p:Int) by push_cast;rfl] at r;have hq2:=t6.mk r;clear r u;walk_at "";exact hq2.out
  have nqc:q≠R:=bF t y;rw[aH nqc,t,jB];refine⟨by rw[g_,g_];omega,λpq O=>?_⟩;have G:eG H3 (eH (eH H R (.lst (a.map λi=>aV (i+p)))) pq (.lst (a.map aV++a.map λi=>aV (i+p)))):=(U.trans (eG.new y)).trans (eG.new O);have X:H3 pq=ag:=cF (U.trans (eG.new y)) O;have gq:eH (eH H R (.lst (a.map λi=>aV (i+p)))) pq (.lst (a.map aV++a.map λi=>aV (i+p))) pq=ab (.lst (nx.map aV)):=by rw[aq,l,B_,W_];rfl
  generalize eH (eH H R (.lst (a.map λi=>aV (i+p)))) pq (.lst (a.map aV++a.map λi=>aV (i+p)))=H5 at G gq |-;exact⟨by first | trivial | exact cm,u.out pq _ G X gq⟩
 have d:decide (((2^j:Nat):Int)<=(N:Int))=am:=m_ (λz=>x (Int.ofNat_le.mp z));rw[d,wc K_];rw[yL uS] at t;walk_at "n";walk_at "";refine n7.of ?_ (k'.out q I);intro b o v;by_cases e:b=q
 .subst e;rw[aq] at v;rw[t,v]
 rw[aH e] at v;exact U b o v
theorem uY:fY ["tasks"] ["tasks"] (aC (vT 13)):=aX
theorem uZ {f:af} (g:G3 K mg "names_of" (vT 13) ["tasks"] f c) (B:Bl mg):Z1 P w K mg base 1 "names_of" (vT 13) ["tasks"] Wf:=by
 refine c6 g uY ?_;rintro _ _ _ s H _ _ _ _ _ ⟨tk,rfl,q,k⟩;refine⟨_,(au (aK (bD rfl (b6 13 ["tasks"] ["task"] 1 []) (cD wh) (λr d s H v p=>⟨(aB 0 (n5 ["task"])),bY,(aJ wt wh ao)⟩)))),?_⟩;walk_at "q";walk_at "h";have e:=t6.mk k;clear k;walk_at "";walk_at "c";refine bJ xp (λt=>t4 t.1) tk [] trivial uS (λt n u j=>?_) (λm a=>?_)
 .clear e;simp only[xp];walk_at "";try exact j
 have:=e.out m a;rw[W_] at this;exact n7.of eG.refl this
abbrev ou:List ap:=["works","rules","name","length","kinds","own","group","ahead","apart"]
theorem Ev:fY ou ["works"] (aC (vT 19)):=aX
theorem u5 {f:af} (g:G3 K mg "rules_of" (vT 19) ["works"] f U) (B:Bl mg) (d:Z1 P w K mg base 1 "number_of" (vT 15) ["works","tasks"] nO) (j:Z1 P w K mg base 1 "apart_from" (vT 18) ["works","task"] Nu) (l:Z1 P w K mg base 3 "ahead_of" (vT 9) ["works","task"] Xa) (m:Z1 P w K mg base 3 "group_of" (vT 8) ["works","task"] W9):Z1 P w K mg base 4 "rules_of" (vT 19) ["works"] Nv:=by
 refine c6 g Ev ?_;rintro _ A _ _ H _ _ H3 _ u ⟨⟨tk,c,xE,b⟩,rfl,r,k⟩;refine⟨_,(aj (aD 1 Ev.nd (aY ak))
   (aj (bh G_ rfl (cD (aJ wt wh ao)) (bU (n:=3) rfl (aG (aB 2 Ev.nd) (aG (aB 3 Ev.nd) (aG (aB 4 Ev.nd) bC)))) (aj (aD 5 Ev.nd (aN d u rfl (aa wh (aa (bB (aa w4 ak)) ak))))
    (aj (aD 6 Ev.nd (aN d u rfl (aa wh (aa (aN m u rfl (aa wh (aa w4 ak))) ak))))
    (aj (aD 7 Ev.nd (aN d u rfl (aa wh (aa (aN l u rfl (aa wh (aa w4 ak))) ak))))
    (aj (aD 8 Ev.nd (aN d u rfl (aa wh (aa (aN j u rfl (aa wh (aa w4 ak))) ak))))
    (au (bK (dj I_ M_ N_ bx wm (aa (bB (aa xA (aa xa (aa xk (aa y6 (aa y7 (aa AC ak))))))) ak)))))))))
   (au (aK wm)))),?_⟩
 walk_at "q";walk_at "h";have t8:tk.length<=8:=r.t8;walk_at "";refine⟨uS,λp J=>?_⟩;refine aU xp tk (λA Z H=>∃(M v3 C O D I R:Option T) (t:gV),Z=[ab (t5 [t5 (tk.map xp),t5 (c.map xw),t5 (xE.map ya),t5 (b.map t4)]),ab (.ref p),M,v3,C,O,D,I,R]/\H=eH t p (.lst (A.map (zv ⟨tk,c,xE,b⟩ (tk.map (·.1)))))/\eG H3 t/\H3 p=ag) ⟨ag,ag,ag,ag,ag,ag,ag,H3,rfl,rfl,eG.refl,J⟩ ?_ ?_
 .rintro Z H ⟨M,v3,C,O,D,I,R,t,rfl,rfl,S,_⟩;walk_at "t";walk_at "";refine n7.of (λa o e=>?_) (k p J);by_cases h:a=p
  .subst h;rw[aq] at e |-;exact e
  rw[aH h] at e |-;exact S _ _ e
 rintro A ⟨nm,x,ks⟩ B Z H N e ⟨M,v3,C,O,D,I,R,t,rfl,rfl,S,_⟩ V;have X:A.length<=8:=by have:=YB a5 e;simp only[b_,n_] at this;omega
 walk_at "t";have v:t6 (∀q,eH t p (.lst (A.map (zv ⟨tk,c,xE,b⟩ (tk.map (·.1))))) q=ag->N [ab (t5 [t5 (tk.map xp),t5 (c.map xw),t5 (xE.map ya),t5 (b.map t4)]),ab (.ref p),ab (.str nm),ab (.int x),ab (sT ks),ab (.int (vE (tk.map (·.1)) [nm])),ab (.int (vE (tk.map (·.1)) (bf ⟨tk,c,xE,b⟩ nm))),ab (.int (vE (tk.map (·.1)) (dz ⟨tk,c,xE,b⟩ nm))),ab (.int (vE (tk.map (·.1)) (jm ⟨tk,c,xE,b⟩ nm)))] (eH (eH (eH t p (.lst (A.map (zv ⟨tk,c,xE,b⟩ (tk.map (·.1)))))) q (.lst ((jm ⟨tk,c,xE,b⟩ nm).map t4))) p (.lst (A.map (zv ⟨tk,c,xE,b⟩ (tk.map (·.1)))++[zv ⟨tk,c,xE,b⟩ (tk.map (·.1)) (nm,x,ks)])))):=⟨λq z=>by
  obtain⟨L,y⟩:=cU z
  refine V _ _ ⟨_,_,_,_,_,_,_,eH t q (.lst ((jm ⟨tk,c,xE,b⟩ nm).map t4)),rfl,?_,S.trans (eG.new y),J⟩
  rw[B_,Ds (a7 L),qm]
  rfl⟩
 have F:(A.map (zv ⟨tk,c,xE,b⟩ (tk.map (·.1)))).length<=8:=by rw[g_];exact X
 generalize A.map (zv ⟨tk,c,xE,b⟩ (tk.map (·.1)))=Y at v F;clear V e k X;simp only[xp];walk_at "";refine⟨wo,uS,⟨tk,c,xE,b⟩,_,[nm],rfl,r,.inl rfl,?_⟩;walk_at "";refine⟨⟨tk,c,xE,b⟩,nm,rfl,r,?_⟩;try dsimp only
 refine⟨⟨tk,c,xE,b⟩,_,bf ⟨tk,c,xE,b⟩ nm,rfl,r,.inl rfl,?_⟩;walk_at "";refine⟨⟨tk,c,xE,b⟩,nm,rfl,r,?_⟩;try dsimp only
 refine⟨⟨tk,c,xE,b⟩,_,dz ⟨tk,c,xE,b⟩ nm,rfl,r,.inl rfl,?_⟩;walk_at "";refine⟨⟨tk,c,xE,b⟩,nm,rfl,r,λq z=>?_⟩;obtain⟨L,y⟩:=cU z;have n1':=a7 L;try dsimp only
 refine⟨⟨tk,c,xE,b⟩,_,jm ⟨tk,c,xE,b⟩ nm,rfl,r,.inr ⟨q,rfl,aq⟩,?_⟩;walk_at "";exact⟨⟨wo,wo⟩,uS,uS,v.out q z⟩
abbrev fK:List ap:=["rules","beat","kind","done","number","load","own","length","kinds","group","ahead","apart"]
theorem xr:fY fK ["rules","beat","kind","done","number"] (aC (vT 21)):=aX
theorem jb {f:af} (g:G3 K mg "is_filling_number" (vT 21) ["rules","beat","kind","done","number"] f fd) (B:Bl mg) (b:Z1 P w K mg base 1 "has_all" (vT 20) ["number","part"] pX) (c:Z1 P w K mg base 1 "may_be_done" (vT 11) ["kinds","kind"] Nt):Z1 P w K mg base 2 "is_filling_number" (vT 21) ["rules","beat","kind","done","number"] Nx:=by
 refine c6 g xr ?_;rintro _ A _ _ H _ _ H3 Q L ⟨W,a,d8,kind,D,S,rfl,hW,ha,k⟩;have M:=zc.u30 L;refine⟨_,(aj (aD 5 xr.nd ao)
   (aj (bh G_ rfl (bA wh) (bU (n:=6) rfl (aG (aB 6 xr.nd) (aG (aB 7 xr.nd) (aG (aB 8 xr.nd) (aG (aB 9 xr.nd) (aG (aB 10 xr.nd) (aG (aB 11 xr.nd) bC))))))) (au (bc (cH (aN b L rfl (aa xk (aa y6 ak)))) (aj (bc (yk.pt (jq (cH (aN b L rfl (aa xa (aa y6 ak)))) (ik (fC (cH (aN c L rfl (aa AC (aa w4 ak)))))))) (au (aK cG)) aL)
     (aj (bc (yk.pt (jq (fC (cH (aN b L rfl (aa xk (aa AN ak))))) (ik (fC (cH (aN b L rfl (aa (aF yg xk xa) (aa (v3 10) ak)))))))) (au (aK cG)) aL)
     (aj (bc (aO (gF M) (aF gK xk (v3 11)) ao) (au (aK cG)) aL)
     (au (aD 5 xr.nd (aF aZ xA y7)))))) aL)))
   (au (aK (di sH xA wm))))),?_⟩
 walk_at "q";walk_at "h";walk_at "";refine aU (zv W (W.tasks.map (·.1))) W.tasks (λA Z H=>∃(v C G y l j:Option T),Z=[ab (.ref a),ab (.int d8),ab (.str kind),ab (.int (vE (W.tasks.map (·.1)) D)),ab (.int (vE (W.tasks.map (·.1)) S)),ab (.int (bT A S)),v,C,G,y,l,j]/\H=H3/\(A.all λt=>!decide (t.1∈S)||FE W kind D S t)=ai) ⟨ag,ag,ag,ag,ag,ag,rfl,rfl,rfl⟩ ?_ ?_
 .rintro Z H ⟨v,C,G,y,l,j,rfl,rfl,m⟩;refine⟨.inl ha,?_⟩;walk_at "";refine n7.of eG.refl ?_;unfold oM at k;rw[m,Y7] at k;exact k
 rintro A t B Z H N e ⟨v,C,G,y,l,j,rfl,rfl,m⟩ hN;refine⟨.inl ha,?_⟩;have I:t∈W.tasks:=by rw[e];simp
 have F:t.1∈W.tasks.map (·.1):=o_.mpr ⟨t,I,rfl⟩;have q:∀x∈bf W t.1,x∈W.tasks.map (·.1):=λx d=>(p_.mp d).1;have u:∀x∈dz W t.1,x∈W.tasks.map (·.1):=λx d=>(p_.mp d).1;have r:∀x∈jm W t.1,x∈W.tasks.map (·.1):=λx d=>by obtain⟨p,hp,rfl⟩:=o_.mp d;exact (hW.pp p (p_.mp hp).1).2.2.2
 have b1:decide (a3 (vE (W.tasks.map (·.1)) S) (vE (W.tasks.map (·.1)) [t.1])=vE (W.tasks.map (·.1)) [t.1])=decide (t.1∈S):=by rw[Yx,h_,h_];exact lU F
 have b2:decide (a3 (vE (W.tasks.map (·.1)) D) (vE (W.tasks.map (·.1)) [t.1])=vE (W.tasks.map (·.1)) [t.1])=decide (t.1∈D):=by rw[Yx,h_,h_];exact lU F
 have b3:decide (a3 (vE (W.tasks.map (·.1)) S) (vE (W.tasks.map (·.1)) (bf W t.1))=vE (W.tasks.map (·.1)) (bf W t.1))=@decide (∀x∈bf W t.1,x∈S) (ae _):=by rw[Yx,h_,@h_ _ (ae _),dm];exact⟨λh x d=>h x (q x d) d,λh x _ d=>h x d⟩
 have b4:decide (a3 (cr (vE (W.tasks.map (·.1)) S) (vE (W.tasks.map (·.1)) D)) (vE (W.tasks.map (·.1)) (dz W t.1))=vE (W.tasks.map (·.1)) (dz W t.1))=@decide (∀x∈dz W t.1,x∈S++D) (ae _):=by rw[Yx,h_,@h_ _ (ae _),m5,dm];exact⟨λh x d=>h x (u x d) d,λh x _ d=>h x d⟩
 have b5:decide (a3 (vE (W.tasks.map (·.1)) S) (vE (W.tasks.map (·.1)) (jm W t.1))=0)=@decide (∀x∈jm W t.1,x∉S) (ae _):=by rw[Yx,h_,@h_ _ (ae _),il];exact⟨λh x d hs=>h x (r x d) ⟨hs,d⟩,λh x _ z=>h x z.2 z.1⟩
 have o:t6 (t.1∈S->FE W kind D S t=am->n7 Q (.bl am) H):=⟨λh1 h2=>by
  refine n7.of eG.refl ?_
  have e0:oM W d8 kind D S=am:=by
   unfold oM
   rw[Bool.and_eq_false_iff]
   refine .inl ?_
   rw[oe]
   exact⟨t,I,by simp [h1,h2]⟩
  rw[e0] at k
  exact k⟩
 have J:t6 (∀(v C G y l j:Option T),(t.1∈S->FE W kind D S t=ai)->N [ab (.ref a),ab (.int d8),ab (.str kind),ab (.int (vE (W.tasks.map (·.1)) D)),ab (.int (vE (W.tasks.map (·.1)) S)),ab (.int (bT A S+if t.1∈S then t.2.1 else 0)),v,C,G,y,l,j] H):=⟨λv C G y l j h=>hN _ _ ⟨v,C,G,y,l,j,by rw[m9],rfl,by
  rw[List.all_append,m]
  by_cases z:t.1∈S
  ·
   simp [h z]
  ·
   simp [z]⟩⟩
 clear hN m k e q u r F I;obtain⟨nm,len,ks⟩:=t;dsimp only at *;generalize vE (W.tasks.map (·.1)) D=nD at *;generalize vE (W.tasks.map (·.1)) S=R at *;simp only[zv];generalize vE (W.tasks.map (·.1)) [nm]=n1 at *;generalize vE (W.tasks.map (·.1)) (bf W nm)=n2 at *;generalize vE (W.tasks.map (·.1)) (dz W nm)=n3 at *;generalize vE (W.tasks.map (·.1)) (jm W nm)=n4 at *;unfold FE at o J;dsimp only at o J;generalize V:decide (nm∈D)=c1 at *;generalize U:@decide (∀x∈bf W nm,x∈S) (ae _)=c3 at *;generalize O:@decide (∀x∈dz W nm,x∈S++D) (ae _)=c4 at *;generalize Y:@decide (∀x∈jm W nm,x∉S) (ae _)=c5 at *;clear V U O Y;walk_at "";refine⟨wo,R,n1,rfl,?_⟩;rw[b1];by_cases hS:nm∈S
 .simp only[hS,ZV,if_true,dw,true_implies] at o J |-;refine⟨nD,n1,rfl,?_⟩;rw[b2];cases c1 with
  |true =>
   try simp only[dw,if_true]
   exact o.out wn
  |false =>
  simp only[dw,v_,V_];refine⟨ks,kind,rfl,?_⟩;generalize iR ks kind=c2 at *;cases c2 with
  |false=>simp only[dw,DS,if_true];exact o.out wn
  |true =>
  simp only[dw,Zy,v_,V_];refine⟨R,n2,rfl,?_⟩;rw[b3];cases c3 with
  |false=>simp only[dw,DS,if_true];exact o.out wn
  |true =>
  simp only[dw,Zy,v_,V_];refine⟨cr R nD,n3,rfl,?_⟩;rw[b4];cases c4 with
  |false=>simp only[dw,DS,if_true];exact o.out wn
  |true =>
  simp only[dw,Zy,v_,V_];try rw[b5]
  cases c5 with
  |false=>simp only[DS,if_true];exact o.out wn
  |true =>
  simp only[Zy,v_,V_];exact J.out _ _ _ _ _ _ wn
 simp only[hS,Zd,v_,V_,dw,F4,false_implies] at o J |-;exact J.out _ _ _ _ _ _ (by first | trivial | simp)
abbrev oA:List ap:=["works","number","tasks","left","task"]
theorem JJ:fY oA ["works","number"] (aC (vT 16)):=aX
theorem u6 {f:af} (g:G3 K mg "tasks_of" (vT 16) ["works","number"] f y) (B:Bl mg):Z1 P w K mg base 1 "tasks_of" (vT 16) ["works","number"] GZ:=by
 refine c6 g JJ ?_;rintro _ A _ _ H _ _ H3 _ M ⟨⟨tk,c,xE,b⟩,n,rfl,L,n0,R,k⟩;have m:=zc.u30 M;refine⟨_,(aj (aD 2 JJ.nd (aY ak))
   (aj (aD 3 JJ.nd wm)
   (aj (bh G_ rfl (cD (aJ wt wh ao)) (aB 4 JJ.nd) (aj (bc (aO (bR m) (aF aW xa ao) ao) (au (bK (dj I_ M_ N_ bx w4 (aa (aJ wt xk ao) ak)))) aL)
    (au (aD 3 JJ.nd (aF bu xa ao)))))
   (au (aK (bG cR rfl B.tuple_ cT (aa w4 ak))))))),?_⟩
 walk_at "q";walk_at "h";have O:tk.length<=8:=L.t8;walk_at "";refine⟨uS,λp I=>?_⟩;refine je (λr Z H=>∃(A B:List (ap × Int × List ap)) (v:Option T),tk=A++B/\r=B.map xp/\H=eH H3 p (.lst ((xc (A.map (·.1)) n).map t4))/\Z=[ab (t5 [t5 (tk.map xp),t5 (c.map xw),t5 (xE.map ya),t5 (b.map t4)]),ab (.int n),ab (.ref p),ab (.int (n / 2^A.length)),v]) ⟨[],tk,ag,rfl,rfl,rfl,wn⟩ ?_ ?_
 .rintro Z H ⟨A,B,v,j,e,rfl,rfl⟩;have J:B=[]:=GU.mp e.symm;subst J;rw[YH] at j;subst j;clear e;walk_at "t";walk_at "";exact n7.of (eG.new I) k
 rintro x r Z H N ⟨A,B,v,j,e,rfl,rfl⟩ C;cases B with
 |nil=>cases e
 |cons t B =>
 rw[J_,List.cons.injEq] at e;obtain⟨rfl,rfl⟩:=e;have F:A.length+1<=8:=by have:=YB a5 j;simp only[b_,n_] at this;omega
 have d:=uv (A.map (·.1)) [t.1] n;simp only[xc,g_] at d;have q:=lV (A.map (·.1)) n;rw[g_] at q;have l:n / 2^A.length / 2=n / 2^(A++[t]).length:=by rw[b_,t_,E2,eD (Int.le_of_lt (Int.pow_pos vS))]
 have a:∀v,N [ab (t5 [t5 (tk.map xp),t5 (c.map xw),t5 (xE.map ya),t5 (b.map t4)]),ab (.int n),ab (.ref p),ab (.int (n / 2^A.length / 2)),v] (eH H3 p (.lst ((xc (A.map (·.1)++[t.1]) n).map t4))):=λv=>by rw[l];exact C _ _ ⟨A++[t],B,v,by rw[j];simp,rfl,wn,rfl⟩
 rw[d] at a;replace a:=t6.mk a;obtain⟨nm,o,ks⟩:=t;walk_at "t";clear C j k d l;simp only[xp,sT];walk_at "";try simp only[true_and]
 refine⟨vS,?_⟩;by_cases z:n / 2^A.length%2=1
 .simp only[z,if_true,ZV] at a |-;refine⟨uS,?_⟩;have D:=a.out (ab (t5 [t4 nm,t3 o,t5 (ks.map t4)]));rw[B_] at D;exact⟨⟨vS,xo⟩,D⟩
 simp only[z,V_,Zd,v_,YH] at a |-;exact⟨⟨vS,xo⟩,a.out _⟩
end
def Hm (K:a6):Bool:=K.all λp=>!(p.2.cls==.type "list")
theorem Hn {K:a6} (e:K.lookup a=ab o):(a,o)∈K:=by
 induction K with
 |nil=>cases e
 |cons p r c =>
 obtain⟨b,u⟩:=p;rw[ZF] at e;split at e
 .rename_i h;rw[eq_of_beq h,P_ e];exact A_
 exact z_ _ (c e)
theorem Bh {K:a6} (h:Hm K=ai) (e:K.lookup a=ab o):o.cls≠.type "list":=λz=>by
 have b:(a,o)∈K:=Hn e;have q:=YG.mp h (a,o) b;rw[z] at q;simp at q
theorem uc (h:us.length=n+1):∃(a:aw) (r:List aw),us=a::r/\r.length=n:=by
 cases us with
 |nil=>exact nomatch h
 |cons a r=>exact⟨a,r,rfl,Nat.succ.inj h⟩
theorem uz {us:List aw}(h:us.length=0):us=[]:=LO h
theorem OK (h:∀a:aw,cS b ⟨[a],[]⟩=ce ([c].zip [a])) (us:List aw) (e:us.length=1):cS b ⟨us,[]⟩=ce ([c].zip us):=by
 obtain⟨a,g,d,f⟩:=uc e;rw[d,uz f];exact h a
theorem NE {f d:ap} (h:∀b a:aw,cS c ⟨[b,a],[]⟩=ce ([f,d].zip [b,a])) (us:List aw) (e:us.length=2):cS c ⟨us,[]⟩=ce ([f,d].zip us):=by
 obtain⟨b,l,g,i⟩:=uc e;obtain⟨a,m,j,k⟩:=uc i;rw[g,j,uz k];exact h b a
theorem Lm {g f i:ap} (h:∀b a c:aw,cS d ⟨[b,a,c],[]⟩=ce ([g,f,i].zip [b,a,c])) (us:List aw) (e:us.length=3):cS d ⟨us,[]⟩=ce ([g,f,i].zip us):=by
 obtain⟨b,r,j,k⟩:=uc e;obtain⟨a,q,m,o⟩:=uc k;obtain⟨c,p,l,n⟩:=uc o;rw[j,m,l,uz n];exact h b a c
theorem PY {f:dk} (h:∀b d c a:aw,cS f ⟨[b,d,c,a],[]⟩=ce ([i,k,j,g].zip [b,d,c,a])) (us:List aw) (e:us.length=4):cS f ⟨us,[]⟩=ce ([i,k,j,g].zip us):=by
 obtain⟨b,u,l,n⟩:=uc e;obtain⟨d,w,o,p⟩:=uc n;obtain⟨c,t,r,m⟩:=uc p;obtain⟨a,v,q,s⟩:=uc m;rw[l,o,r,q,uz s];exact h b d c a
theorem Pt (h:∀c f d a b:aw,cS g ⟨[c,f,d,a,b],[]⟩=ce ([j,l,k,i,m].zip [c,f,d,a,b])) (us:List aw) (e:us.length=5):cS g ⟨us,[]⟩=ce ([j,l,k,i,m].zip us):=by
 obtain⟨c,y,n,r⟩:=uc e;obtain⟨f,B,s,t⟩:=uc r;obtain⟨d,x,v,p⟩:=uc t;obtain⟨a,A,u,w⟩:=uc p;obtain⟨b,z,o,q⟩:=uc w;rw[n,s,v,u,o,uz q];exact h c f d a b
theorem Pe (h:∀d g f b c a:aw,cS i ⟨[d,g,f,b,c,a],[]⟩=ce ([k,n,l,j,o,m].zip [d,g,f,b,c,a])) (us:List aw) (e:us.length=6):cS i ⟨us,[]⟩=ce ([k,n,l,j,o,m].zip us):=by
 obtain⟨d,C,p,u⟩:=uc e;obtain⟨g,G,v,w⟩:=uc u;obtain⟨f,B,y,r⟩:=uc w;obtain⟨b,E,x,A⟩:=uc r;obtain⟨c,D,q,s⟩:=uc A;obtain⟨a,F,t,z⟩:=uc s;rw[p,v,y,x,q,t,uz z];exact h d g f b c a
theorem Yw {K:a6}{st:ef}{f:af}{kV d g b e:aw} (X:K.In h) (G:h.Ns bv m) (a:nsIn K bv x=ab (ab (.ref f))) (l:K.lookup f=ab ⟨o,n,.func (mM x x (dh st) (cP st) (aC st) .none kV d g i b e),j⟩) (c:o1 K b x=ai) (k:jv K (.ref f)=ai) (p:∀(kV d g:aw) (i:Option af) (b e:aw) (us:List aw),us.length=ps.length->cS (mM x x (dh st) (cP st) (aC st) .none kV d g i b e) ⟨us,[]⟩=ce (ps.zip us)):
  G3 K m x st ps f (mM x x (dh st) (cP st) (aC st) .none kV d g i b e) :=
 have F:=Cd (st:=st) l c k
 ⟨F,F.binds p,mg_of X G a⟩
theorem bW (i:Nat) (ps:List ap) (x:ap) (f:af) (m:ap) (t c:Nat) {K:a6} (X:K.In h) (G:h.Ns bv b) (d:∀(kV doc pm:aw) (an:Option af) (cdv ct:aw) (us:List aw),us.length=ps.length->cS (mM x x (dh (vT i)) (cP (vT i)) (aC (vT i)) .none kV doc pm an cdv ct) ⟨us,[]⟩=ce (ps.zip us):=by first | exact λ_ _ _ _ _ _=>OK λ_=>rfl | exact λ_ _ _ _ _ _=>NE λ_ _=>rfl | exact λ_ _ _ _ _ _=>Lm λ_ _ _=>rfl | exact λ_ _ _ _ _ _=>PY λ_ _ _ _=>rfl | exact λ_ _ _ _ _ _=>Pt λ_ _ _ _ _=>rfl | exact λ_ _ _ _ _ _=>Pe λ_ _ _ _ _ _=>rfl) (a:nsIn K bv x=ab (ab (.ref f)):=by kernel_rfl) (l:K.lookup f=ab (fO i x m t c):=by kernel_rfl) (e:o1 K (.ref c) x=ai:=by kernel_rfl) (k:jv K (.ref f)=ai:=by kernel_rfl):
  G3 K b x (vT i) ps f (mM x x (dh (vT i)) (cP (vT i)) (aC (vT i)) .none .none .none (.str m t) ag (.ref c) .none) :=
 Yw X G a l e k d
theorem zF {K:a6}(n q:ap) (st:ef) (f:af) (m:ap) (t c:Nat) (l:K.lookup f=ab (fQ st n q m t c):=by kernel_rfl) (e:o1 K (.ref c) q=ai:=by kernel_rfl) (k:jv K (.ref f)=ai:=by kernel_rfl):DD K n q st f (mM n q (dh st) (cP st) (aC st) .none .none .none (.str m t) ag (.ref c) .none):=Cd l e k
theorem ae8 {l:PySem.W.OpenLaw} (X:(KK w.params).In h) (G:h.Ns bv mg) (hfa:mg "law"=ab (.ref fa)):
  ∃fd:dk,(∀(s:aI) (v:aw),ow s fd ⟨[v],[]⟩ [(yb,v)])/\∀base:ci,(KK w.params).In base->base.Ns bv mg->lz l.prog w (KK w.params) mg base 12 fa fd [yb] zA:=by
 have p:∀{n:ap} {v:aw},nsIn (KK w.params) bv n=ab (ab v)->mg n=ab v:=λe=>mg_of X G e;have uj:∀{n:ap},nsIn (KK w.params) bv n=ab ag->mg n=ag:=λe=>PySem.W.mg_none_of X G e;have e:=hfa.symm.trans (p (v:=.ref 384) zh);cases e;have B:Bl mg:=by constructor <;> exact uj zh
 have c:=bW 49 [w_,xS,AD,BE] "_law_some" 316 xt 505 315 X G;refine⟨mM "law" "law" (dh (vT 61)) (cP (vT 61)) (aC (vT 61)) .none .none .none (.str xt 505) ag (.ref 383) .none,λs v=>.of_eq rfl,λbase _ _=>?_⟩;have m:CC (KK w.params) 174:=⟨zh,zh,zh,zh⟩;have u3:∀n∈(["works","beat","rules","whole"]:List ap),gI (KK w.params) (.ref 174) n=ab ag:=λn hn=>by simp only[y_,YJ,AJ] at hn;rcases hn with rfl | rfl | rfl | rfl <;> kernel_rfl
 have b:BY (KK w.params) 174 ["works","beat","rules","whole"]:=⟨m,u3⟩;have r:=zF (K:=KK w.params) "__init__" "Walk.__init__" (As 25 0) 147 C8 358 146;have g_Walk:GI (KK w.params) mg 174 "Walk" "Walk.__init__" (As 25 0) ["self","works","beat"] 147 _:=⟨⟨zh,zh,zh,zh⟩,r,r.binds λ_ _ _ _ _ _=>Lm λ_ _ _=>rfl,p (v:=.ref 174) zh⟩;have g:=zF (K:=KK w.params) "fillings_at" "Walk.fillings_at" (As 25 1) 152 C8 358 151;have N:GM (KK w.params) 174 "fillings_at" "Walk.fillings_at" (As 25 1) ["self","stand","done"] 152 _:=⟨m,g,g.binds λ_ _ _ _ _ _=>Lm λ_ _ _=>rfl,⟨zh,zh,zh⟩⟩;have i:=zF (K:=KK w.params) "greatest_at" "Walk.greatest_at" (As 25 2) 159 C8 358 158;have J:GM (KK w.params) 174 "greatest_at" "Walk.greatest_at" (As 25 2) ["self","stand","done"] 159 _:=⟨m,i,i.binds λ_ _ _ _ _ _=>Lm λ_ _ _=>rfl,⟨zh,zh,zh⟩⟩;have x:=zF (K:=KK w.params) "load_at" "Walk.load_at" (As 25 3) 164 C8 358 163;have g_load_at:GM (KK w.params) 174 "load_at" "Walk.load_at" (As 25 3) ["self","number"] 164 _:=⟨m,x,x.binds λ_ _ _ _ _ _=>NE λ_ _=>rfl,⟨zh,zh,zh⟩⟩;have j:=K4 (P:=l.prog) (w:=w) (base:=base) (bW 37 [yb,AB] "_law_cell" 238 xt 505 237 X G) B;have q:=K5 (P:=l.prog) (w:=w) (base:=base) (bW 38 [yA] "_law_word" 245 xt 505 244 X G) B;have U:=Bg (P:=l.prog) (w:=w) (base:=base) (bW 39 [EM] "_law_unlike" 252 xt 505 251 X G) B;have ub:=K6 (bW 40 [yA] "_law_pool" 259 xt 505 258 X G) B q U;have vk:=K7 (bW 41 [yA,"_law_row",FM,"_law_unit"] "_law_task" 266 xt 505 265 X G) B q;have wb:=Hj (bW 42 [yb,AH,Au] "_law_links" 271 xt 505 270 X G) B j;have vc:=Hk (bW 43 [yb,CH,CD] "_law_works" 276 xt 505 275 X G) B j ub vk U wb;have A:=Hl (P:=l.prog) (w:=w) (base:=base) (bW 44 [w_,zS] "_law_loads" 283 xt 505 282 X G) B;have uu:=K8 (bW 45 [yA,w_,zS] "_law_beat" 288 xt 505 287 X G) B A;have M:=GX (bW 46 [yb,CH,CD] "_law_drawn" 295 xt 505 294 X G) B vc uu j;have vn:=Ha (P:=l.prog) (w:=w) (base:=base) (bW 47 [w_,yA] "_law_moved" 302 xt 505 301 X G) B;have f:=Te (P:=l.prog) (w:=w) (base:=base) (bW 48 [w_,xS,BE,D4] "_law_may" 309 xt 505 308 X G) B;have vy:=(fM c B f (fM c B f (fM c B f (fM c B f (fM c B f (fM c B f (fM c B f (fM c B f (fM c B f (Xb (P:=l.prog) (w:=w) (base:=base) c))))))))));have vt:=Be (P:=l.prog) (w:=w) (base:=base) (bW 53 [AH,Au] "_law_number" 338 xt 505 337 X G) B;have E:=xm (P:=l.prog) (w:=w) (base:=base) (bW 50 [w_] "_law_chained" 321 xt 505 320 X G) B;have Z:=Bf (bW 51 [w_] "_law_groups" 326 xt 505 325 X G) B E;have u7:=KY (bW 52 [w_] "_law_plan" 331 xt 505 330 X G) B vt Z E;have vb:=G8 (P:=l.prog) (w:=w) (base:=base) (bW 54 [w_,AG] "_law_tasks" 343 xt 505 342 X G) B;have vx:=G5 (bW 59 [w_,zS,zD,FA] "_law_shown" 370 xt 505 369 X G) B vb;have ui:=K3 (P:=l.prog) (w:=w) (base:=base) (bW 55 [z5,xS,CL,zD,AG] "_law_fits" 350 xt 505 349 X G) B;have va:=uT (bW 56 [z5,xS,CL,zD] "_law_greatest" 355 xt 505 354 X G) B ui;have ua:=K1 (P:=l.prog) (w:=w) (base:=base) (bW 57 [z5,AG] "_law_load" 360 xt 505 359 X G) B;have u4:=Bd (bW 58 [w_,z5,xS,AD,"_law_case","_law_level"] "_law_reason" 365 xt 505 364 X G) B va ua;have vr:=KR (bW 60 [w_,xS,AD,"_law_less","_law_drop"] "_law_made" 377 xt 505 376 X G) B u7 vx u4;have a:=rm (P:=l.prog) (w:=w) (base:=base) (bW 15 ["works","tasks"] "number_of" 90 "stationrow.sets" 279 89 X G) B;have R:=oO (P:=l.prog) (w:=w) (base:=base) (bW 18 ["works","task"] "apart_from" 102 DZ 303 101 X G) B;have t:=j0 (P:=l.prog) (w:=w) (base:=base) (bW 7 ["works","found","other"] "in_first_alone" 57 A8 194 56 X G) B;have L:=wR (P:=l.prog) (w:=w) (base:=base) (bW 3 ["links","start"] "reached" 35 A8 194 34 X G) B;have y:=uL (P:=l.prog) (w:=w) (base:=base) (bW 2 ["works"] "links_of" 28 A8 194 27 X G) B;have z:=uN (bW 5 ["works","task"] "led_from" 47 A8 194 46 X G) B L y;have V:=Bc (bW 4 ["works","task"] "led_to" 42 A8 194 41 X G) B L y;have v4:=uR (bW 9 ["works","task"] "ahead_of" 71 A8 194 70 X G) B t z V;have uk:=wV (P:=l.prog) (w:=w) (base:=base) (bW 6 ["works","found","other"] "in_both" 52 A8 194 51 X G) B;have u8:=uP (bW 8 ["works","task"] "group_of" 64 A8 194 63 X G) B uk V z
 have ve:=u5 (bW 19 ["works"] "rules_of" 109 DZ 303 108 X G) B a R v4 u8;have H:=uZ (P:=l.prog) (w:=w) (base:=base) (bW 13 ["tasks"] "names_of" 83 "stationrow.texts" 271 82 X G) B;have wa:=La g_Walk B b ve a H;have S:=oR (bW 34 ["works","paper"] "are_sorted" 226 AX 428 225 X G) B a;have u:=u6 (P:=l.prog) (w:=w) (base:=base) (bW 16 ["works","number"] "tasks_of" 97 "stationrow.sets" 279 96 X G) B;have d:=wX (P:=l.prog) (w:=w) (base:=base) (bW 20 ["number","part"] "has_all" 116 DZ 303 115 X G) B;have T:=xj (bW 29 ["walk","done"] "is_done" 197 AX 428 196 X G) B b a u d;have Q:=xu g_load_at B b d;have O:=nU (bW 27 ["walk","done"] "length_left" 185 AX 428 184 X G) B b a Q
 have vu:=xg (bW 30 ["walk","left","done","length"] "is_left" 204 AX 428 203 X G) B b O;have vv:=w6 (P:=l.prog) (w:=w) (base:=base) (bW 31 ["cases","stands","done","other"] "is_less" 209 AX 428 208 X G) B;have o:=jn (bW 22 ["numbers"] "greatest_numbers" 128 DZ 303 127 X G) B d;have vl:=uX (bW 24 ["number"] "parts_of" 133 C8 358 132 X G) B d;have D:=nQ (P:=l.prog) (w:=w) (base:=base) (bW 11 ["kinds","kind"] "may_be_done" 78 "stationrow.checks" 261 77 X G) B;have k:=jb (bW 21 ["rules","beat","kind","done","number"] "is_filling_number" 123 DZ 303 122 X G) B d D;have F:=oh N B b vl k;have I:=nZ J B b o F
 have C:=lL (bW 28 ["walk","stand","done"] "dones_behind" 190 AX 428 189 X G) B b a u I
 have vw:=wZ (bW 32 ["walk","cases","stands","done","others"] "is_ways" 214 AX 428 213 X G) B b C;have Y:=rC (bW 33 ["walk","many","cases","stands","done","reason"] "is_reason" 221 AX 428 220 X G) B b vu vv vw;have v0:=uV (bW 35 ["works","beat","many","paper"] "is_paper" 231 AX 428 230 X G) B b wa S T Y;exact S7 (bW 61 [yb] "law" 384 xt 505 383 X G) B M A vn vy vr v0
theorem walk {l:PySem.W.OpenLaw}{K:nk->a6} (D:l.most=ab 63) (g:d.params.defaults=[]) (y:∀(w:bb) (h:ci),YP w h->(K w.params).In h) (i:∀w:bb,Hm (K w.params)=ai) (F:∀(w:bb) (mg:ap->Option aw) (fa:af) (h:ci),(K w.params).In h->h.Ns bv mg->mg d.name=ab (.ref fa) ->
   ∃fd:dk,(∀(s:aI) (u:aw),ow s fd ⟨[u],[]⟩ [(yb,u)])/\∀base:ci,(K w.params).In base->base.Ns bv mg->lz l.prog w (K w.params) mg base 12 fa fd [yb] zA):
  sN q loose XP YP l.row.toRowW d [] (λf vs=>sf f vs):=by
 refine L2.aeq (n:=63) (k:=12) (x:=yb) (CX:=λ_=>E8) (sp:=λw=>sG (K w.params) zA) D vS g ⟨rfl,vS,vS,rfl⟩ y F (λw H a ns E J p=>?_) λ_ _ _ _ _ z=>z;refine⟨[.ref a],λb=>if b=a then ab (.rol (ns.map t3)) else ag,λt _=>t=.bl ai,.cons .ofRef .nil,λb o e=>?_,⟨a,ns,rfl,we rfl,E,λ_=>rfl⟩,λv L t A _ _ r q=>?_⟩
 .dsimp only at e;by_cases j:b=a
  .rw[we j] at e;cases e;subst j;rcases p with p | ⟨o,B,n,I,G,_⟩
   .refine⟨_,p,?_⟩;have:∀c:List Int,ql (K w.params) H (c.map t3) (c.map V.int):=λc=>by
     induction c with
     |nil=>exact .nil
     |cons m r C=>exact .cons .ofInt C
    exact this ns
   exact wT G (Bh (i w) I)
  rw[wc j] at e;cases e
 subst q;exact r.bl
end M
open PySem PySem.W PyProof.Rows
set_option maxRecDepth 100000 in
set_option maxHeartbeats 0 in
theorem PySem.Challenge.cw_stationrow_k53_own_papers_holds : PySem.Challenge.rw_stationrow_k53_own_papers.Holds :=
 M.zqH (M.walk (l:=PySem.Challenge.rw_stationrow_k53_own_papers) rfl rfl (λw h Y=>kIn_of Y) (λw=>by kernel_rfl) λw mg fa h KX G hmg=>M.ae8 KX G hmg)
