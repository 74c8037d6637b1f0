import PyProof.Rows.All
import PyProof.EqAt
import PyProof.EqKinds
import PyProof.TupleCall
import PyProof.NeKinds
import PyProof.StrWalks
import PyProof.Rows.SetFrom
import PyProof.WalksMore
import KE.KIntText
import PyProof.EnumMake
import PyProof.WalkInts
import PyProof.ReprRoads
import PyProof.ReprLen
import KE.KRevIter
import KE.KRevSl
import PyProof.StrCalls
import PyProof.Rows.StrFit
import KE.KDictOf
import PyProof.AttrMissHeap
import PyProof.DictItems
import KE.KDictLaws
import KE.KSortTup
import KE.KDictList
import PyProof.TupleOfGen
import PyProof.StrLawsTight
import Wide.Line
import OpenK.KOwn
import KE.KFromBytes
import KE.KItem
import KE.KIsAll
import Open.Tree
import PySem.Challenge.RW_stationrow_k93_whole_most_even
open PySem renaming wpAny_bind→a_,wpAny_pure→h_,wpAny_newObj_type→B9,wpAny_Call_Name_kw→Ee,wpAny_call_entry→DS,builtinLookup_eq_fast→F5,wpAny_holding→DF,codeAny_builtin→Fn,wpAny_mono→Cn,wpAny_callSpecial?_slot→Kn,wpAny_field→C5,wpAny_setField→FM,typeLookup_type→F6,wpAny_of_eq→EZ,plainId_quiet→F0,isSubtype_type→G1,wpAny_specialOf→Ix,wpAny_typeOf→GA,wpAny_truthy_bool→L6,codeAny_mono→HG,wpAny_passesOwn→LX,wpAny_getItem_str_slice→PY,wpAny_isInstance→MW,wpAny_setState_of→NR,call_meets→II,wpAny_seqItems→Mo,wpAny_askSetting→OC,wpAny_attempt→Mn,wpAny_updateSeq→NW,wpAny_pyIter_tuple→OY,tupleKind_room_in1→PZ,wpAny_rule→KL,sizeLine_eq→Ll,wpAny_pyIter_list→P8,wpAny_pyIter_slot→P3,wpAny_pyIter_enum→Pv,wpAny_load→L1,signature?_of→No,wpAny_newList→OK,Addr→ah,sizeLine→ai,Str→ap,Value→av,starEach→aw,wpAny→ax,Shared→aE,model→aI,cellsFrom→a9,bootBuiltins→ba,backTo→bb,compareOp→be,eval→bo,binaryOp→br,mainGlobals→bv,World→bP,Program→bX,Builtin→cn,rawInt→cq,behindInMarks→cr,Heap→cK,attributeBase→cS,cLine→db,bindArgs→dc,FuncData→de,foldedSetIterable→dr,codeAny→dy,sysModules→dE,assignEach→dL,Obj→dP,intKind→d5,swapsWith→d6,scanBound→ee,firstArgMember→er,NameKind→ev,Stmt→eB,Around→eD,spliced→eK,sliceBounds→eL,pyNext→eR,holding→eS,typeLookup→fb,entryFor_of_tree→fe,wpAny_pyIter_revIter→fq,codeAny_extend_loopS→fr,wpAny_execs_nil→fv,post_val_or_str→fw,letOwnedTupleGo→fy,wpAny_setEntries_of→fT,getItem→f_,ItemsOf→gy,wpAny_runValue→gI,wpAny_letOwnedTupleGo_enum→gL,entryFor_alias→gS,entryFor→gT,assign→gX,Paired→g9,keywordEach→im,wpAny_getItem_list_slice→i0,wpAny_comprehension_free→i1,evalPart_none→i6,wpAny_pyNext_enum_itemD→js,wpAny_Call_method0_late→jv,noFill_tuple_add→jI,call→jS,Pos→kc,DictEntry→ki,wpAny_pyNext_enum_endD→kt,collect→ky,argsOk→kz,Within→kF,IsPart→kK,wpAny_ite_split→kP,codeAny_of_tree→kR,wpAny_isTrue_Compare1→k5,subscripted→lc,setField→lf,relayAll→lh,newFunctionEnv→lv,fitsIndex_both→lx,callType_codes→lP,valueAt→mi,updateSeq→mm,tupleKind→mn,treeTable→mo,pushCells→mr,callerA→ms,evalArgs_none→mx,wpAny_standAt→mP,wpAny_handled→mS,seq_tuple_add→mT,nums_intItems→m3,intKind_is→nk,getattributeRaised→nn,call_reversed_list→nw,builtinsNs→nz,PlainAttrs→nI,Params→nK,wpAny_storeSet_of→oi,wpAny_setEpoch_of→oj,wpAny_sequenceKey→om,wpAny_assign_Name→ow,standAt→oy,seqIndex_neg→oz,relabel→oB,raiseNew→oC,init_tuple_lookup→oQ,fits_of_scanBound→oS,concat_meets→o0,callType_new→o3,backToKw→pa,SetTable→pu,Keyword→qa,BindsTo→qB,wpAny_execs_cons→qS,seqIndex?→qV,pyIter→ra,pickOrder→rb,newExc→rc,getMethod→rh,checkBuiltinCall→rq,PassesOwn→rS,wpAny_throw→se,wpAny_Slice→sg,seqIndex_of→si,atKey→so,Moved→sv,pushCells_keeps→sw,importedModules→sx,newList→sQ,wpAny_newTuple→s0,wpAny_fieldsOf→s9,wpAny_call→s_,wpAny_Name→tf,typeIs_str→tj,typeIs_int→tm,table→tw,sub_tuple_self→tF,setsByText→tJ,setAddHashedIn→tN,recursionLimit→tP,numAt_eq→tS,merged→tT,madeHere_tuple→t0,isSubtype_stop→t4,isInstance→t9,bindL→vF,bindC→vS,call→wl,swapsWithSole→wT,swappedStores→w_,rangeSize_one→xa,intBits_le_64→xb,call_list_seq→xh,Slot→xo,specialOf→xv,newFields→xy,setItem→xC,cellOf→xE,newTuple→xI,intItems→xS,IntMulOk→x6,Env→x8,typeOf→x9,revObj→ya,Result→yb,IsEnum→yi,CmpOp→yk,ret→yn
open List renaming length_append→b_,length_map→d_,getElem?_eq_getElem→g_,mem_singleton→i_,length_cons→j_,mem_map→k_,length_range→m_,mem_cons_self→n_,mem_cons→o_,size_toArray→p_,getElem?_map→u_,map_append→v_,getD_eq_getElem?_getD→y_,map_cons→z_,mem_cons_of_mem→A_,mem_filter→D_,length_singleton→E_,mem_append→F_,getElem?_eq_none→G_,mem_range→K_,map_map→L_,getElem?_append_right→M_,all_eq_true→W_,append_nil→X_,mem_append_right→Da,getElem?_range→CI,length_reverse→CH,length_filter_le→DA,not_mem_nil→B8,map_congr_left→C7,getElem?_append_left→FV,mem_of_getElem?→EW,getElem_mem→C6,mem_append_left→Fa,getElem?_eq_some_iff→HV,append_assoc→EF,getElem?_cons_zero→KA,nodup_cons→DJ,mem_flatten→E6,map_nil→DH,length_take→FG,eq_nil_of_length_eq_zero→MZ,pairwise_iff_getElem→L0,length_nil→FR,any_eq_true→F7,ext_getElem?→GW,lookup_cons→GS,flatten_cons→IU,filter_congr→IF,getElem?_reverse→LZ,sum_cons→FD,filter_append→Ki,getElem?_cons_succ→Pd,length_eq_zero_iff→Mc,take_of_length_le→M0,foldl_append→JA,replicate_succ→Lu,getElem_of_mem→L9,find?_cons→IC,length_drop→KM,nodup_append→L8,map_eq_nil_iff→MG,flatten_append→MS,getElem?_set_self→OO,filter_cons→LG,map_reverse→Mb,nodup_nil→KS,getElem?_toArray→Oy,drop_eq_getElem_cons→PR,getElem?_set_ne→NU,pairwise_map→Nd,getElem?_of_mem→On,getElem?_replicate→OX,cons_append→OZ,take_append_of_le_length→RA,dropLast_concat_getLast→RF,length_replicate→Pe,take_append_drop→PM,length_eraseIdx_of_lt→TH,mem_flatMap→OE,mem_reverse→Of,any_cons→MQ,range→ae,length→aT,replicate→a4,lookup→ey,range'→eP,pairwise_lt_range→e5,flatten_singleton→e6,drop_of_length_le→e7,eraseIdxIfInBounds_toArray→e9,take_length→fh,getElem_map→fi,take_left'→fI,filter_map→fR,filterMap_cons→f6,filterMap_map→hH,reverse_perm→iL,reverse_cons→iN,nodup_range→ke,sum_append→kS,of_mem_zip→kT,length_set→kU,singleton_append→k9,dropLast_eq_take→la,reverse_reverse→l7,flatMap_append→mB,all_cons→nh,length_range'→nV,getElem?_take→nX,Nodup→n9,take_sublist→pS,getElem_take→pT,any_map→pV,getElem_inj→r6,flatten_nil→r9,drop_length→r_,range_succ→sC,nil_append→sD,forIn_cons→sF,all_append→sK,range_add→wq,map→wr,foldl→wt,filterMap→wv,drop_zero→wx,take_nil→xt,getD→xA
open PySem.Heap renaming get?_push_of_some→e_,get?_push_size→t_,lt_size→C_,get?_update_self→F9,get?_update_other→HL,get?_update_ne→HZ,size_push→GB,SameBut→dA,get?_push_ne→iP
open Nat renaming le_refl→l_,ne_of_lt→P_,le_trans→U_,lt_of_lt_of_le→V_,lt_irrefl→BS,zero_le→B6,le_of_lt→D4,pow_le_pow_right→KW,ne_of_gt→EN,le_of_eq→EQ,lt_succ_self→IL,lt_trans→FE,lt_succ_of_lt→Kj,pow_succ→Iy,le_succ→ID,not_lt→IS,not_lt_zero→NH,testBit_and→fE,min_eq_left→fF,lt_or_ge→gg,lt_trichotomy→iF,zero_add→kG,div_div_eq_div_mul→kH,eq_of_testBit_eq→l6,lt_of_le_of_lt→nN,eq_zero_or_pos→nS,sub_self→pz,mul_comm→pE,min_eq_right→r4,pow_pos→sq,testBit_or→wn,mod_lt→wo
open PySem.PassesOwn renaming never→x_
open Bool renaming false_ne_true→B_,false_eq_true→H_,and_eq_true→CL,eq_iff_iff→CA,not_false→FB,not_true→E9,and_false→OH,and_true→NA,true_and→ND,true→ag,false→am,false_and→h9,not_eq_true'→iS,or_false→ja,false_or→jp,or_eq_true→kX,true_or→qA
open PySem.F renaming plainAttrs_list→J_,slot_list_append→R_,type_list_append→S_,called_set→JO,slot_tuple_iterator_next→Qr,args_object_init_2→QE,args_tuple_add_2→SU,slot_list_getattribute→SS,slot_dict_itemiterator_iter→eI,entry_tuple_add→eM,slot_tuple_add→eW,slot_dict_setdefault→fz,args_tuple_iterator_next_1→fS,plain_extend_loop→f7,entry_tuple_iterator_next→gE,plain_extend_loop→ia,type_list_extend→i8,slot_list_extend→i9,slot_dict_items→j3,plainAttrs_dict→ka,type_list_pop→k6,slot_set_iter→k7,slot_list_pop→k8,args_list_extend_2→md,args_list_append_2→me,sub_reversed_self→mI,entry_list_extend→mM,entry_list_append→mN,typeCall_tuple_1→oa,slot_list_extend→oe,slot_list_append→og,plain_tuple_new→qh,plain_list_iadd→qk,newCall_tuple_1→qo,entry_tuple_new→qq,entry_list_pop→sd,slot_list_pop→sM,slot_int_rmul→sN,plain_set_new→sP,called_tuple→wP
open Array renaming getElem?_eq_getElem→O_,length_toList→C3,getElem?_toList→Go,getD_eq_getD_getElem?→KG,getElem?_eq_none→NE,getElem?_eq_some_iff→Sf,getElem_toList→Q1,getElem_reverse→lb,toArray_toList→mh,toList_push→qE
open Option.some renaming inj→T_,injEq→Na
open PyProof.Rows renaming callWith_type1→Z_,slot_tuple_getitem→MD,seqObj→cE,IntsAre→eh,callWith_builtin1→fg,subscriptTail→fm,slicePart_none→gN,AllBare→iX,listUpdate_at→i4,envOfC→i7,subscriptTail_builtinR→ku,sortedHeap→kw,Subscript_→kB,get?_update_seq→kQ,entry_proto_collect'→ly,KeyOrd→l9,entry_tuple_getitem→mw,args_tuple_getitem→nE,listItems_at→oP,entry_list_iadd'→ro,seqEpoch_at→sj,entry_list_sort→sA,tail_any→tr,slot_list_sort→tI,intBits_le→uS,boot_range→vE,args_list_sort→vT,tupleItemsOf_→wS,getItem_tuple→xc,len_tuple→xz,keyKind'→xL,IsTup→x5
open PySem.Calls renaming spliced_cons→ES,spliced_nil→FA,callWith_builtin→P2,Name_function_global→hZ,call_function_entry→ic,evalArgs_plain→mf
open Int renaming toNat_natCast→F3,emod_lt_of_pos→GV,emod_nonneg→FH,pow_succ→FU,natCast_nonneg→Lc,toNat_of_nonneg→Nw,le_refl→IY,toNat→d4,mul_le_mul_of_nonneg_left→ft,fdiv_eq_ediv_of_nonneg→hU,eq_ofNat_of_zero_le→kf,ediv_ediv_of_nonneg→kg,one_mul→ma,pow_zero→qc,add_zero→qf,le_antisymm→sL
open Option renaming map_some→FF,isSome_some→QN,some→ab,none→af,map_none→fA,isSome_map→iA,isSome_none→nL,getD_some→rV,getD_none→rX
open PySem.Around renaming under_plainId→I0,under→kM
open PySem.Paired renaming length→FK,snoc→l5
open PySem.Obj renaming data_mapFields→JI,isFreed_of_fields→Pp,mapSeq→ce,mapFields→fo,cls_mapFields→iE,putSet→wm
open PySem.AutoSeq1 renaming wpAny_loadPart'→ON
open PyProof.Rows.KeyOrd renaming kle_refl→Kb,kle_of_klt→NG,kle_trans→fk,kle_antisymm→mE
open PyProof.Rows.F renaming plain_set_update_loop→S2,entry_set_update_loop→eC
open List.cons renaming injEq→LV
open PySem.Heap.SameBut renaming update→NN
open List.Perm renaming refl→ME,swap→wE
open List.Pairwise renaming imp_of_mem→SY,nil→iO,map→p9
open List.Sublist renaming refl→Pi
open Classical renaming propDecidable→ay,byContradiction→ib,choose→kn
open Ne renaming symm→aS
open PySem.W renaming Frag→a3,emptyDict→eA,instObj→io,findIn→i5,SharedT→j1,keepIn→kx,plainGet_of→lp,cellsFrom_some→lI,absHeap→mv,fnOf→nv,callWith_K→ny,plainGet→oI,methodObj→re,hasDictIn→rf,codeIn→rp,kas_ask→sR,openEnds→wh,WalkO→xp,plainOver→xw,takerIn→xB,lookIn→xD,handedIn→x4
open PySem.Builtin renaming bitAnd→a5,bitOr→eg,bitNot→e8
open PySem.Builtin.Tuple renaming tupleExact→a6,tupleItemsOf→h7
open PySem.Builtin.List renaming listExtendWith→a7,listTooLong→b9,listSameRef→cv,listLengthHint→c_,listFitsIndex→dk,listUpdate→ko,listItems→kL
open PySem.Value renaming ref→a8,none→bg,type→ci,int→da,bool→ff,isInt_shape→ip,builtin→nc,str→rL,isStrOf→xi
open PySem.Builtin.Str renaming occurrences→bp
open PySem.Builtin.Slice renaming slicePlaces→bt,sliceAdjust→cf,sliceApplied→df,sliceFields→ij
open Pure renaming pure→bE
open PySem.SetTable renaming below→bS,grown→dQ,has→pi
open Sum renaming inr→ca,inl→cw
open PySem.Str renaming ofString→cx
open ForInStep renaming yield→cy
open PySem.NameKind renaming free→c8,cell→ef
open False renaming elim→c9
open PySem.Builtin.SmallTypes renaming nextOf→dn
open True renaming intro→eu
open Prod renaming ext→eJ
open PySem.SetTable.below renaming go→eT
open Or renaming inr→e4,inl→hG
open PySem.Heap.IsSliceOf renaming new→hV
open PySem.Code renaming quiet_builtin→hY,isFrame→qr
open Sum.inr renaming inj→iq
open String renaming splitOnAux→ix,splitOn→lT,ofList→xk
open PySem.Txt renaming slice→j2,slice_le→kA
open PySem.SeqAt renaming EqAt→kC,eq_listAt→sB
open Sum.inl renaming inj→lS
open Prod.mk renaming injEq→ng
theorem Ap{p:Prop}(h:p:=by decide +kernel):p:=h
theorem AR{p:Prop}(h:p:=by kernel_rfl):p:=h
theorem yT{p:Prop}(h:p:=by omega):p:=h
theorem y6{p:Prop}(h:p:=by decide):p:=h
theorem ze{p:Prop}(h:p:=by simp):p:=h
open True renaming intro→zC
abbrev zi:=@if_pos
abbrev y9:=@if_neg
abbrev As:=@absurd
abbrev q_:=@decide_eq_true_iff
abbrev I_:=@decide_eq_false
abbrev N_:=@decide_eq_true
abbrev Q_:=@congrArg
abbrev Y_:=@if_false
abbrev DB:=@of_decide_eq_true
abbrev IH:=@beq_eq_false_iff_ne
abbrev ER:=@decide_false
abbrev B7:=@or_false
abbrev EU:=@decide_true
abbrev OB:=@decide_eq_false_iff_not
abbrev Gc:=@beq_iff_eq
abbrev MI:=@decide_eq_decide
open PySem.W (Frag InstAt LeftO callWith_K cellsFrom_some codeIn emptyDict findIn fnOf handedIn hasDictIn instObj isFn kHook keepIn lookIn makesIn methodObj mg_of nsIn plainGet plainGet_of plainOver recOk takerIn typeIn xlAt)
noncomputable section
open PySem PySem.Spec PyProof.Rows
set_option Elab.async false
set_option compiler.extract_closed false
set_option bootstrap.genMatcherCode false
set_option genSizeOf false
set_option linter.all false
set_option maxRecDepth 100000
namespace L2
def cV (s:eB):Arguments:=match s with
 |.FunctionDef _ a _ _ _ _ _ _ _ _=>a
 |_=>{ posonlyargs:=[],args:=[],vararg:=af,kwonlyargs:=[],kw_defaults:=[],kwarg:=af,defaults:=[]}
def cH (s:eB):List eB:=match s with
 |.FunctionDef _ _ b _ _ _ _ _ _ _=>b
 |_=>[]
def aA (s:eB):Scope:=match s with
 |.FunctionDef _ _ _ _ _ _ a _ _ _=>a
 |_=>{ kind:=.function,names:=[],isGenerator:=am,isCoroutine:=am}
end L2
namespace M
open L2
def ET (ns:List ap) (f:ap->Nat) (m:Nat):List (List ap):=(ae m).map λk=>ns.filter λn=>decide (f n=k)
def yY (i:Nat):eB:=PySem.Challenge.pw_stationrow_k93_whole_most_even.main.body.getD i (.Pass ⟨0,0,0,0⟩)
def Nm:eB->List eB
 |.ClassDef _ _ _ a _ _ _ _ _ _ _=>a
 |_=>[]
def BD (i j:Nat):eB:=(Nm (yY i)).getD j (.Pass ⟨0,0,0,0⟩)
def qv:bX:={ PySem.Challenge.pw_stationrow_k93_whole_most_even with main:={ PySem.Challenge.pw_stationrow_k93_whole_most_even.main with body:=([1,2,4,5,6,7,8,9,10,11,13,15,16,17,18,19,21,23,25,26,28,29,30,31,33,34,35,36,37,38,39,40,41,42,43,44,45,46,48,49,51,52,54,55,56,57,58,59,60,61,62,63,64,65,66,67,68,69,70,71,72]:List Nat).map yY}}
def en (P:nK) (n:ap) (t:Nat) (v:av):ki:=⟨PyData.keyHash P n,.str n t,v⟩
def cO (n:ap) (c:Nat) (b:Bool) (a j l k:Nat):dP:=⟨.type "code",af,.fields #[.str n a,.str n (a+1),.str "/claim/cut.py" (a+2),.int l 0,.int k 0,.int 0 0,.int 0 0,.int 3 0,.ref (c - (bif b then 5 else 3)),.bool ag,.int 181 0,.ref (c - (bif b then 4 else 2)),.none,bif b then .ref (c - 3) else .none,bif b then .ref (c - 2) else .none,.ref (c - 1),.int j 0,.int l 0,.str "/claim/cut.py" (j+1)],#[]⟩
def fO (i:Nat) (n m:ap) (t c:Nat):dP:=⟨.type "function",af,.func (nv n n (cV (yY i)) (cH (yY i)) (aA (yY i)) .none .none .none (.str m t) af (.ref c) .none),#[]⟩
abbrev At:ap:="_law_deck"
abbrev AF:ap:="_law_names_here"
abbrev Bi:ap:="_law_many"
abbrev BC:ap:="stationrow.dealings"
abbrev BE:ap:="_law_works_here"
abbrev BI:ap:="_law_most"
abbrev Cs:ap:="_law_k"
abbrev CY:ap:="_law_i"
abbrev DL:ap:="stationrow.chains"
abbrev DT:ap:="_law_script"
abbrev DE:ap:="_law_name"
abbrev EA:ap:="_law_draw"
abbrev EB:ap:="_law_j"
abbrev Fm:ap:="stationrow.walks"
abbrev Fc:ap:="_law_kinds_here"
abbrev FC:ap:="_law_edges"
abbrev GE:ap:="_law_table"
abbrev HI:ap:="stationrow.fillings"
abbrev G0:ap:="_law_length"
abbrev Iq:ap:="_law_other"
abbrev IQ:ap:="_law_found"
abbrev IM:ap:="_law_dealing"
abbrev IX:ap:="_law_things"
abbrev IG:ap:="_law_word"
abbrev KF:ap:="stationrow.even"
abbrev Kk:ap:="_law_orders"
abbrev Kt:ap:="_law_common"
abbrev LO:ap:="_law_beat_here"
abbrev LF:ap:="_law_number"
abbrev MY:ap:="_law_lengths_here"
abbrev AY:ap := "law_stationrow_k93_whole_most_even"
def fx (i:Nat) (n m:ap) (t c:Nat) (b:Bool) (a j l k:Nat):(nK->ki) × a3:=(λP=>en P n (j+2) (.ref (c+1)),[(c,cO n c b a j l k),(c+1,fO i n m t c)])
def TB:List ((nK->ki) × a3):=[fx 1 "number_of" "stationrow.sets" 187 20 ag 189 197 2 2,
 fx 2 "tasks_of" "stationrow.sets" 187 27 ag 200 208 10 2,
 fx 4 "links_of" DL 211 34 ag 213 221 19 1,
 fx 5 "reached" DL 211 41 ag 224 233 26 2,
 fx 6 "led_to" DL 211 48 ag 236 241 36 2,
 fx 7 "led_from" DL 211 53 am 244 247 38 2,
 fx 8 "in_both" DL 211 58 am 250 253 40 3,
 fx 9 "in_first_alone" DL 211 63 am 256 259 42 3,
 fx 10 "group_of" DL 211 70 ag 262 267 44 2,
 fx 11 "ahead_of" DL 211 77 ag 270 275 46 2,
 fx 13 "may_be_done" "stationrow.checks" 278 84 ag 280 285 49 2,
 fx 15 "apart_from" HI 288 89 am 290 293 52 2,
 fx 16 "rules_of" HI 288 96 ag 296 308 54 1,
 fx 17 "has_all" HI 288 103 ag 311 316 63 2,
 fx 18 "is_filling_number" HI 288 110 ag 319 334 65 5,
 fx 19 "greatest_numbers" HI 288 115 am 337 340 77 1,
 fx 21 "turned_about" "stationrow.works" 343 120 am 345 348 84 1,
 fx 23 "names_of" "stationrow.texts" 351 125 am 353 356 89 1,
 fx 25 "parts_of" Fm 359 130 am 361 364 92 1,
 (λP=>en P "Walk" 426 (.ref 170),[]),
 fx 28 "evens_behind" KF 427 180 ag 429 441 124 3,
 fx 29 "evens_by_stands" KF 427 187 ag 444 451 133 2,
 fx 30 "even_table" KF 427 192 am 454 457 138 3,
 fx 31 "most_even" KF 427 199 ag 460 469 143 3,
 fx 33 "load_of" BC 472 204 am 474 477 151 2,
 fx 34 "loads_of" BC 472 209 am 480 483 153 2,
 fx 35 "texts_of" BC 472 216 ag 486 492 155 1,
 fx 36 "stands_of" BC 472 223 ag 495 503 160 1,
 fx 37 "number_fault" BC 472 230 ag 506 511 166 2,
 fx 38 "strange_fault" BC 472 237 ag 514 521 170 2,
 fx 39 "twice_fault" BC 472 244 ag 524 530 176 1,
 fx 40 "lost_fault" BC 472 251 ag 533 540 183 2,
 fx 41 "order_fault" BC 472 258 ag 543 551 189 2,
 fx 42 "pair_fault" BC 472 265 ag 554 563 195 2,
 fx 43 "kind_fault" BC 472 270 am 566 569 201 2,
 fx 44 "beat_fault" BC 472 277 ag 572 580 208 3,
 fx 45 "tasks_fault" BC 472 284 ag 583 588 213 2,
 fx 46 "fault_of" BC 472 291 ag 591 597 215 3,
 fx 48 "ways_behind" "stationrow.dealt" 600 298 ag 602 612 218 3,
 fx 49 "dealing_to" "stationrow.dealt" 600 305 ag 615 624 224 3,
 fx 51 "loads_rising" "stationrow.beats" 627 310 am 629 632 233 1,
 fx 52 "least_beat" "stationrow.beats" 627 317 ag 635 644 238 2,
 fx 54 "_law_numbers" AY 647 324 ag 649 658 252 1,
 fx 55 EA AY 647 331 ag 661 666 267 2,
 fx 56 "_law_great" AY 647 338 ag 669 676 271 2,
 fx 57 "_law_free_name" AY 647 345 ag 679 691 276 3,
 fx 58 "_law_names" AY 647 350 am 694 697 288 2,
 fx 59 "_law_turn" AY 647 357 ag 700 707 299 2,
 fx 60 "_law_lengths" AY 647 362 am 710 713 305 2,
 fx 61 "_law_chained" AY 647 367 am 716 719 311 2,
 fx 62 "_law_pairs" AY 647 372 am 722 725 318 4,
 fx 63 "_law_some_kinds" AY 647 377 am 728 731 334 3,
 fx 64 "_law_kinds" AY 647 382 am 734 737 340 4,
 fx 65 "_law_works" AY 647 387 am 740 743 355 3,
 fx 66 "_law_beat" AY 647 392 am 746 749 373 2,
 fx 67 "_law_holds" AY 647 399 ag 752 763 379 2,
 fx 68 "_law_every" AY 647 404 am 766 769 390 2,
 fx 69 "_law_otherwise" AY 647 409 am 772 775 406 2,
 fx 70 "_law_named_back" AY 647 414 am 778 781 416 2,
 fx 71 "_law_right" AY 647 419 am 784 787 421 4,
 fx 72 "law" AY 647 424 am 790 793 425 1]
def X9 (C N t u:Nat):dP:=⟨.type "type",af,.cls { name:="Walk",bases:=[.type "object"],mro:=[.ref C,.type "object"],ns:=N,qualname:="Walk"},#[af,af,ab (.str "Walk" t),ab (.str "Walk" u),ab (.builtin "object.__new__"),ab (.bool ag)]⟩
def VU (P:nK) (a:List (ap × Nat × av)) (k:Nat):dP:=⟨.type "dict",af,.dict (a.map λe=>en P e.1 e.2.1 e.2.2).toArray k,#[]⟩
def cQ (n q:ap) (c:Nat) (b:Bool) (a j l k:Nat):dP:=⟨.type "code",af,.fields #[.str n a,.str q (a+1),.str "/claim/cut.py" (a+2),.int l 0,.int k 0,.int 0 0,.int 0 0,.int 3 0,.ref (c - (bif b then 5 else 3)),.bool ag,.int 181 0,.ref (c - (bif b then 4 else 2)),.none,bif b then .ref (c - 3) else .none,bif b then .ref (c - 2) else .none,.ref (c - 1),.int j 0,.int l 0,.str "/claim/cut.py" (j+1)],#[]⟩
def fQ (st:eB) (n q m:ap) (t c:Nat):dP:=⟨.type "function",af,.func (nv n q (cV st) (cH st) (aA st) .none .none .none (.str m t) af (.ref c) .none),#[]⟩
def KC (P:nK):a3:=[(144,cQ "__init__" "Walk.__init__" 144 ag 379 385 102 3),
 (145,fQ (BD 26 0) "__init__" "Walk.__init__" Fm 359 144),
 (149,cQ "fillings_at" "Walk.fillings_at" 149 am 388 391 108 3),
 (150,fQ (BD 26 1) "fillings_at" "Walk.fillings_at" Fm 359 149),
 (156,cQ "greatest_at" "Walk.greatest_at" 156 ag 394 400 115 3),
 (157,fQ (BD 26 2) "greatest_at" "Walk.greatest_at" Fm 359 156),
 (161,cQ "load_at" "Walk.load_at" 161 am 403 406 118 2),
 (162,fQ (BD 26 3) "load_at" "Walk.load_at" Fm 359 161),
 (166,cQ "dealing_of" "Walk.dealing_of" 166 am 409 412 121 2),
 (167,fQ (BD 26 4) "dealing_of" "Walk.dealing_of" Fm 359 166),
 (169,VU P [("__module__",374,.str Fm 359),("__firstlineno__",378,.int 100 377),("__init__",387,.ref 145),("fillings_at",393,.ref 150),("greatest_at",402,.ref 157),("load_at",408,.ref 162),("dealing_of",414,.ref 167),("__static_attributes__",419,.ref 168),("__dict__",421,.ref 171),("__weakref__",423,.ref 172),("__doc__",424,.none)] 4),
 (170,X9 170 169 367 375)]
def KK (P:nK):a3:=(3,⟨.type "dict",af,.dict ([en P "__name__" 165 (.str AY 647),
 en P "__doc__" 166 .none,
 en P "__package__" 167 .none,
 en P "__loader__" 168 (.builtin "__main__.__loader__#opaque"),
 en P "__spec__" 169 .none,
 en P "__annotations__" 170 (.ref 6),
 en P "__builtins__" 171 (.ref 4),
 en P "__file__" 173 (.str "/claim/cut.py" 172),
 en P "__cached__" 174 .none]++TB.map λr=>r.1 P).toArray 70,#[]⟩)::(TB.map λr=>r.2).flatten++KC P
def HK:PySem.W.Hook:=kHook KK [3,20,21,27,28,34,35,41,42,48,49,53,54,58,59,63,64,70,71,77,78,84,85,89,90,96,97,103,104,110,111,115,116,120,121,125,126,130,131,180,181,187,188,192,193,199,200,204,205,209,210,216,217,223,224,230,231,237,238,244,245,251,252,258,259,265,266,270,271,277,278,284,285,291,292,298,299,305,306,310,311,317,318,324,325,331,332,338,339,345,346,350,351,357,358,362,363,367,368,372,373,377,378,382,383,387,388,392,393,399,400,404,405,409,410,414,415,419,420,424,425,144,145,149,150,156,157,161,162,166,167,169,170] (λ_=>by kernel_rfl)
def zqR (tb:String->Option cn) (p:bX) (w:bP) (n:Nat) (a:Option av):Nat->j1->Thread->Option j1
 |0,_,_=>af
 |m+1,s,t=>match W.through t with
  |true=>ab s
  |false=>match W.stepOk n a t with
   |false=>af
   |true=>match W.stepT (denote tb) p w s t with
    |some (s',t')=>zqR tb p w n a m s' t'
    |none=>af
theorem zqT {tb:String->Option cn}{p:bX}{w:bP}{k:Nat}{a:Option av}:∀{n:Nat}{s s':j1}{t:Thread},zqR tb p w k a n s t=ab s'->W.topRun tb p w k a n s.abs t=ab s'.abs
 |0,_,_,_,h=>by cases h
 |n+1,s,s',t,h=>by
  unfold zqR at h
  unfold W.topRun
  cases he:W.through t with
  |true=>rw[he] at h;cases h;rfl
  |false=>
   rw[he] at h
   cases hk:W.stepOk k a t with
   |false=>rw[hk] at h;cases h
   |true=>
    rw[hk] at h
    cases hs:W.stepT (denote tb) p w s t with
    |none=>rw[hs] at h;cases h
    |some r=>obtain⟨s₂,t₂⟩:=r;rw[hs] at h;rw[W.stepT_spec hs];exact zqT h
def zqb:List dP->W.BT->Nat->Option W.BT
 |[],t,_=>ab t
 |o::l,t,n=>match ((t.ins n o).get n).isSome with
  |true=>zqb l (t.ins n o) (n+1)
  |false=>af
theorem zqc {f:Life}:∀{l:List dP}{t t':W.BT}{n:Nat},zqb l t n=ab t'->(mv t' (n+l.length) f).objs.toList=(mv t n f).objs.toList++l
 |[],_,_,_,h=>by cases h;simp
 |o::l,t,t',n,h=>by
  unfold zqb at h
  cases e:((t.ins n o).get n).isSome with
  |false=>rw[e] at h;cases h
  |true=>
   rw[e] at h
   have k:=zqc (f:=f) h
   rw[W.absHeap_ins e] at k
   rw[List.length_cons,show n+(l.length+1)=n+1+l.length by omega,k]
   simp [Heap.push]
theorem zqd {s:aE}{t:W.BT}(h:zqb s.heap.objs.toList .nil 0=ab t):(⟨t,s.heap.objs.size,s.heap.life,s.gens,s.drawn,s.toks,s.os⟩:j1).abs=s:=by
 obtain⟨⟨o,f⟩,g,d,k,z⟩:=s
 have e:=zqc (f:=f) h
 have q:(mv t o.size f).objs=o:=Array.toList_inj.mp (by rw[show o.size=0+o.toList.length by simp];exact e.trans (by simp [mv,W.BT.list]))
 show Shared.mk ⟨(mv t o.size f).objs,f⟩ g d k z=_
 rw[q]
def zqE (p:bX) (w:bP) (N:Nat):Option j1:=(W.fencedOpening mo p w N).bind λs=>match s.heap.isNs bv&&s.gens.size==0 with
 |true=>(zqb s.heap.objs.toList .nil 0).bind λt=>(zqR mo p w s.heap.objs.size (s.heap.nsMap bv "__annotations__") N ⟨t,s.heap.objs.size,s.heap.life,s.gens,s.drawn,s.toks,s.os⟩ (W.topStub p)).bind λz=>match W.staticsOk (sx p.main.body) s.heap z.abs.heap&&W.namesBound p z.abs.heap&&W.gensDone z.abs&&W.laidKept s.heap z.abs.heap with
  |true=>ab z
  |false=>af
 |false=>af
theorem zqF {p:bX}{w:bP}{N:Nat}{z:j1}(h:zqE p w N=ab z):wh mo p w N=ab z.abs:=by
 obtain⟨s,a,h⟩:=Option.bind_eq_some_iff.mp h
 refine Option.bind_eq_some_iff.mpr ⟨s,a,?_⟩
 unfold W.topFrom
 split at h
 .rename_i q
  obtain⟨t,b,h⟩:=Option.bind_eq_some_iff.mp h
  obtain⟨x,c,h⟩:=Option.bind_eq_some_iff.mp h
  have c:=zqT c
  rw[zqd b] at c
  rw[q]
  refine Option.bind_eq_some_iff.mpr ⟨x.abs,c,?_⟩
  split at h
  .rename_i y
   cases h
   rw[y]
  .cases h
 .cases h
theorem zqL {p:bX}{w:bP}{N:Nat}{α:Type}{f:aE->α}{a:α}(h:(zqE p w N).map (λz=>f z.abs)=ab a):(wh mo p w N).map f=ab a:=by
 obtain⟨s,a,h⟩:=Option.map_eq_some_iff.mp h
 rw[zqF a]
 exact congrArg ab h
def zqO (w:bP):=wh mo (PySem.W.OpenLaw.row PySem.Challenge.rw_stationrow_k93_whole_most_even).prog w 4614
abbrev zqX (s:aE):Bool:=W.xlAt qv [] s&&W.recOk (W.RowW.records (PySem.W.OpenLaw.row PySem.Challenge.rw_stationrow_k93_whole_most_even).toRowW) s
def zqS (s:aE):=W.openSeen qv [] (sx (PySem.W.OpenLaw.row PySem.Challenge.rw_stationrow_k93_whole_most_even).prog.main.body) (λs=>zqX s) ag s
theorem zqM {b h p j k l e:Type}{o:Option b}{f:b->h × p × j × k × l}{g:b->e}{x:h}{y:p}{z:j}{u:k}{v:l}{d:e}(i:o.map (λs=>(f s).1)=ab x) (m:o.map (λs=>(f s).2.1)=ab y) (n:o.map (λs=>(f s).2.2.1)=ab z) (q:o.map (λs=>(f s).2.2.2.1)=ab u) (r:o.map (λs=>(f s).2.2.2.2)=ab v) (c:o.map g=ab d):o.map (λs=>(f s,g s))=ab ((x,y,z,u,v),d):=by
 cases o with
 |none=>cases i
 |some s=>have t:=@Option.some.inj; exact congrArg ab (eJ (eJ (t i) (eJ (t m) (eJ (t n) (eJ (t q) (t r))))) (t c))
theorem zq1 (w:bP):(zqO w).map (λs=>(zqS s).1)=ab (expectedOf qv):=zqL (by kernel_rfl)
theorem zq2 (w:bP):(zqO w).map (λs=>(zqS s).2.1)=ab bltViewBooted:=zqL (by kernel_rfl)
theorem zq4 (w:bP):(zqO w).map (λs=>(zqS s).2.2.1)=ab ag:=zqL (by kernel_rfl)
theorem zq5 (w:bP):(zqO w).map (λs=>(zqS s).2.2.2.1)=ab ag:=zqL (by kernel_rfl)
theorem zq6 (w:bP):(zqO w).map (λs=>(zqS s).2.2.2.2)=ab (pinGoodD (drecsOf qv),plainGoodE qv (W.looseW qv []),plainGoodD qv [],W.wideGood qv,W.clsGoodW qv []):=zqL (by kernel_rfl)
theorem zq3 (w:bP):(zqO w).map (W.Hook.obs HK)=ab (W.Hook.val HK w):=zqL (by kernel_rfl)
theorem left:W.LeftO (PySem.W.OpenLaw.row PySem.Challenge.rw_stationrow_k93_whole_most_even).prog qv [] (λs=>zqX s) (W.Hook.obs HK) (W.Hook.val HK) 4614:=λw=>zqM (o:=zqO w) (f:=zqS) (g:=W.Hook.obs HK) (zq1 w) (zq2 w) (zq4 w) (zq5 w) (zq6 w) (zq3 w)
def Zi:eB->kc->kc
 |.FunctionDef _ _ _ _ _ _ _ _ _ p,_=>p
 |_,p=>p
def dv:DefRec:=⟨"law",cV (yY 72),cH (yY 72),aA (yY 72),Zi (yY 72) default⟩
open PySem PySem.W PyProof.Rows in
set_option maxRecDepth 100000 in
set_option maxHeartbeats 0 in
theorem zqH (hc:PySem.W.WalkO qv [] (PySem.W.XL qv []) (PySem.W.Hook.says HK) (PySem.W.OpenLaw.row PySem.Challenge.rw_stationrow_k93_whole_most_even).toRowW dv [] (fun f vs=>PySem.call f vs)):PySem.Challenge.rw_stationrow_k93_whole_most_even.Holds:=by
 refine holds_law AR λsaid=>?_;refine holds_open (d:=dv) (kwd:=[]) (q:=qv) (loose:=[]) (Xt:=λs=>xlAt qv [] s&&recOk (RowW.records (PySem.W.OpenLaw.row PySem.Challenge.rw_stationrow_k93_whole_most_even).toRowW) s) (XP:=XL qv []) (Yf:=Hook.obs HK) (Ya:=Hook.val HK) (YP:=Hook.says HK) (N:=4614) left (Hook.of HK) (Hook.keeps HK) (λs e=>xl_of s (Bool.and_eq_true_iff.mp e).1) XL.keeps AR AR AR (λs e=>recFacts_of (Bool.and_eq_true_iff.mp e).2) AR (by first | assumption | kernel_rfl) AR ⟨rfl,rfl,rfl,rfl,rfl,Ap⟩ ?hw hc
 case hw=>w_witness2
end M
namespace L2
abbrev z5:=Sum Int ap
def qL:z5->av->Bool
 |.inl k,v=>Value.isInt k v
 |.inr x,v=>xi x v
def Zj (w:bP):z5->Int
 |.inl k=>hashInt k
 |.inr x=>hashStr w x
theorem bV:∀{k:z5}{v:av},qL k v=ag->(∃i t,k=cw i/\v=da i t)\/(∃x t,k=ca x/\v=rL x t)
 |.inl i,v,h=>by
  obtain⟨t,e⟩:=ip (k:=i) (v:=v) h
  exact .inl ⟨i,t,rfl,e⟩
 |.inr x,v,h=>by
  obtain⟨t,e⟩:=Value.isStrOf_shape (x:=x) (v:=v) h
  exact .inr ⟨x,t,rfl,e⟩
theorem Bk (i:Int) (t:Tok):qL (.inl i) (.int i t)=ag:=by simp [qL,Value.isInt]
theorem Bm (x:ap) (t:Tok):qL (.inr x) (.str x t)=ag:=by simp [qL,xi]
theorem Qv (a b:Int):decide ((cw a:z5)=cw b)=(a==b):=by
 by_cases e:a=b
 .subst e;simp
 have h:¬(cw a:z5)=cw b:=λq=>e (lS q);rw[I_ h];exact (IH.mpr e).symm
theorem Qw (a b:ap):decide ((ca a:z5)=ca b)=decide (a=b):=by
 by_cases e:a=b
 .subst e;simp
 have h:¬(ca a:z5)=ca b:=λq=>e (iq q);rw[I_ h,I_ e]
theorem Qx (a:Int) (b:ap):decide ((cw a:z5)=ca b)=am:=I_ (λq=>nomatch q)
theorem Qy (a:ap) (b:Int):decide ((ca a:z5)=cw b)=am:=I_ (λq=>nomatch q)
def bA (prog:bX) (w:bP):PySem.KeyKind prog w z5 where
 is:=qL
 hash:=Zj w
 inj:=λv a b f d=>by
  rcases bV f with ⟨i,t,rfl,rfl⟩ | ⟨x,t,rfl,rfl⟩
  ·
   rcases bV d with ⟨j,u,rfl,e⟩ | ⟨y,u,rfl,e⟩
   ·
    injection e with e1 _;rw[e1]
   ·
    exact nomatch e
  ·
   rcases bV d with ⟨j,u,rfl,e⟩ | ⟨y,u,rfl,e⟩
   ·
    exact nomatch e
   ·
    injection e with e1 _;rw[e1]
 byValue:=λk v h=>by
  rcases bV h with ⟨i,t,rfl,rfl⟩ | ⟨x,t,rfl,rfl⟩ <;> rfl
 pyHash:=λc h=>by
  rcases bV c with ⟨i,t,rfl,rfl⟩ | ⟨x,t,rfl,rfl⟩
  ·
   exact wpAny_pyHash_int h
  ·
   exact wpAny_pyHash_str h
 eqBool:=λg c h=>by
  rcases bV g with ⟨i,t,rfl,rfl⟩ | ⟨x,t,rfl,rfl⟩
  ·
   rcases bV c with ⟨j,u,rfl,rfl⟩ | ⟨y,u,rfl,rfl⟩
   ·
    rw[Qv] at h;exact wpAny_eqBool_int h
   ·
    rw[Qx] at h;exact SeqAt.EqAt.int_str i t y u _ _ _ _ h
  ·
   rcases bV c with ⟨j,u,rfl,rfl⟩ | ⟨y,u,rfl,rfl⟩
   ·
    rw[Qy] at h;exact SeqAt.EqAt.str_int x t j u _ _ _ _ h
   ·
    rw[Qw] at h;exact wpAny_eqBool_str h
 «strs»:=λk x t v h=>by
  rcases bV h with ⟨i,u,rfl,e⟩ | ⟨y,u,rfl,e⟩
  ·
   exact nomatch e
  ·
   injection e with e1 _
   subst e1
   cases v <;> rfl
theorem uH (prog:bX) (w:bP) (i:Int) (t:Tok):(bA prog w).is (.inl i) (.int i t)=ag:=Bk i t
theorem uI (prog:bX) (w:bP) (x:ap) (t:Tok):(bA prog w).is (.inr x) (.str x t)=ag:=Bm x t
inductive V where
 |non | bl (b:Bool) | int (i:Int) | str (x:ap) | byt (b:Array UInt8) | flt (b:UInt64) | ref (a:ah) | ty (n:String)
 deriving DecidableEq
def zh:V->av->Prop
 |.non,u=>u=bg
 |.bl b,u=>u=ff b
 |.int i,u=>∃t,u=da i t
 |.str x,u=>∃t,u=rL x t
 |.byt b,u=>∃t,u=Value.bytes b t
 |.flt b,u=>∃t,u=Value.float b t
 |.ref a,u=>u=a8 a
 |.ty n,u=>u=ci n
abbrev y7:List V->List av->Prop:=g9 zh
theorem y7.length (r:y7 xs us):xs.length=us.length:=FK r
theorem y7.get:∀{xs:List V}{us:List av}{i:Nat}{x:V},y7 xs us->xs[i]?=ab x->∃u,us[i]?=ab u/\zh x u
 |_,_,_,_,.nil,e=>by simp at e
 |_,_,0,_,.cons r _,e=>by simp at e;subst e;exact⟨_,rfl,r⟩
 |_,_,i+1,x,.cons _ t,e=>by
  obtain⟨u,b,a⟩:=y7.get (i:=i) (x:=x) t (by simpa using e)
  exact⟨u,by simpa using b,a⟩
theorem y7.set (r:zh x u):∀{xs:List V}{us:List av}(i:Nat),y7 xs us->y7 (xs.set i x) (us.set i u)
 |_,_,_,.nil=>.nil
 |_,_,0,.cons _ t=>.cons r t
 |_,_,i+1,.cons q t=>.cons q (y7.set r i t)
theorem y7.append:∀{xs a:List V}{us ws:List av},y7 xs us->y7 a ws->y7 (xs++a) (us++ws)
 |_,_,_,_,.nil,s=>s
 |_,_,_,_,.cons r t,s=>.cons r (y7.append t s)
theorem y7.take:∀{xs:List V}{us:List av}(n:Nat),y7 xs us->y7 (xs.take n) (us.take n)
 |_,_,0,_=>.nil
 |_,_,_+1,.nil=>.nil
 |_,_,n+1,.cons r t=>.cons r (y7.take n t)
theorem y7.drop:∀{xs:List V}{us:List av}(n:Nat),y7 xs us->y7 (xs.drop n) (us.drop n)
 |_,_,0,r=>r
 |_,_,_+1,.nil=>.nil
 |_,_,n+1,.cons _ t=>y7.drop n t
def C9:Option V->Option av->Prop
 |some v,ab u=>zh v u
 |none,af=>True
 |_,_=>False
def KV {a:Type}:List (a × V)->List (a × av)->Prop:=g9 λ(p:a × V) (q:a × av)=>p.1=q.1/\zh p.2 q.2
def kV:z5->V
 |.inl i=>.int i
 |.inr x=>.str x
inductive HO where
 |lst (xs:List V)
 |tup (xs:List V)
 |dK (kvs:List (z5 × V)) | dT (kvs:List (List z5 × V))
 |set (S:Int->Bool) (n:Nat)
 |ins (C dx:ah) (fs:List (ap × V))
 |own (x:ah)
 |xd (fs:List (ap × V))
 |met (f x:ah)
 |rng (lo hi:Int)
 |frz (o:dP) (u:HO)
 |tbl (ps:Array av)
 |ext (φ:cK->Prop)
abbrev Hp:=ah->Option HO
def zw (H:Hp) (a:ah) (o:HO):Hp:=λb=>if b=a then ab o else H b
theorem bR:zw H a o a=ab o:=by unfold zw;rw[zi rfl]
theorem aY (h:b≠a):zw H a o b=H b:=by unfold zw;rw[y9 h]
theorem VB {H:Hp} (h:H a=ab o) (h':H b=ab u) (d:o≠u):a≠b:=by
 intro e;subst e;rw[h] at h';exact d (T_ h')
theorem cF {H:Hp} (h:H a=ab o) (h':H b=af):a≠b:=by
 intro e;subst e;rw[h] at h';cases h'
def EO (h:cK) (a:ah) (b:Array av):Prop:=∃o,h.get? a=ab o/\o.cls=.type "tuple"/\∃n,o.data=.seq b n/\o.dict=af
theorem EO.is (x:EO h a b):x5 h a b:=by
 obtain⟨o,d,c,n,e,_⟩:=x;exact⟨o,d,c,n,e⟩
theorem EO.new (h:cK) (a:Array av):EO (h.push { cls:=.type "tuple",data:=.seq a}) h.objs.size a:=⟨_,t_ _ rfl,rfl,_,rfl,rfl⟩
section
variable (P:bX)(w:bP)
def Bz (H:Hp) (h:cK) (a:ah):HO->Prop
 |.lst xs=>xs.length<=ai/\∃(b:List av) (n:Nat),y7 xs b/\h.get? a=ab { cls:=.type "list",data:=.seq b.toArray n}
 |.tup xs=>xs.length<=ai/\∃b:List av,y7 xs b/\EO h a b.toArray
 |.dK kvs=>kvs.length<=ai/\(a==dE)=am/\∃vs,KV kvs vs/\h.DictOf (bA P w) a vs
 |.dT kvs=>kvs.length<=ai/\(a==dE)=am/\∃xs:List (List z5 × ah × av),
   g9 (λ(p:List z5 × V) (q:List z5 × ah × av)=>p.1=q.1/\H q.2.1=ab (.tup (p.1.map kV))/\zh p.2 q.2.2) kvs xs /\
   ∃o i ep,h.get? a=ab o/\o.ExactDict/\o.data=.dict i ep/\i.toList=xs.map (entryOfKey (mn (bA P w)))/\(xs.map (·.1)).Nodup
 |.set S n=>h.SetOf (d5 P w) a S n
 |.ins C e d=>H e=ab (.own a)/\d.length<=1000/\e≠a/\h.get? a=ab (io C e) /\
   ∃c,h.Ns1 e c/\(∀f,C9 (d.lookup f) (c f))/\kF c (d.map (·.1))
 |.own _=>∃o,h.get? a=ab o
 |.xd d=>∃c,h.Ns1 a c/\∀f,C9 (d.lookup f) (c f)
 |.rng m r=>∃t u v,h.get? a=ab { cls:=.type "range",data:=.fields #[.int m t,.int r u,.int 1 v]}
 |.frz o u=>h.get? a=ab o/\Bz H h a u
 |.tbl l=>h.get? a=ab { cls:=.none,data:=.fields l}
 |.met f x=>h.get? a=ab (re (.ref f) (.ref x))
 |.ext g=>g h/\(∃o,h.get? a=ab o)/\∀k j:cK,g k->(∀o,k.get? a=ab o->j.get? a=ab o)->g j
def A9 (H:Hp) (h:cK):Prop:=∀a o,H a=ab o->Bz P w H h a o
end
section
variable {P:bX}{w:bP}{a:ah}
theorem Bz.lt (x:Bz P w H h a o):a<h.objs.size:=by
 cases o with
 |lst xs=>obtain⟨_,_,_,_,e⟩:=x;exact C_ e
 |tup xs=>obtain⟨_,_,_,p⟩:=x;exact p.is.lt
 |dK kvs=>obtain⟨_,_,_,_,o,_,_,e,_⟩:=x;exact C_ e
 |dT kvs=>obtain⟨_,_,_,_,o,_,_,e,_⟩:=x;exact C_ e
 |set S n=>obtain⟨o,_,_,_,e,_⟩:=x;exact C_ e
 |ins C c b=>obtain⟨_,_,_,e,_⟩:=x;exact C_ e
 |own y=>obtain⟨_,e⟩:=x;exact C_ e
 |xd b=>obtain⟨_,⟨_,_,_,e,_⟩,_⟩:=x;exact C_ e
 |rng j g=>obtain⟨_,_,_,e⟩:=x;exact C_ e
 |frz k u=>obtain⟨e,_⟩:=x;exact C_ e
 |tbl d=>exact C_ (show h.get? a=ab _ from x)
 |met f y=>exact C_ (show h.get? a=ab _ from x)
 |ext i=>obtain⟨_,⟨_,e⟩,_⟩:=x;exact C_ e
theorem Paired.mapP:∀{d:List g}{c:List e},g9 F d c->(∀a b,F a b->G a b)->g9 G d c
 |_,_,.nil,_=>.nil
 |_,_,.cons r t,f=>.cons (f _ _ r) (Paired.mapP t f)
theorem Bz.stay (x:Bz P w H h a o) (k:∀b u,(b=a\/H b=ab (.own a))->h.get? b=ab u->h'.get? b=ab u)
  (B:∀b,H b=ab (.own a)->H' b=ab (.own a)) (E:∀b xs,H b=ab (.tup xs)->H' b=ab (.tup xs)):Bz P w H' h' a o:=by
 induction o with
 |lst xs=>obtain⟨z,j,n,r,e⟩:=x;exact⟨z,j,n,r,k _ _ (.inl rfl) e⟩
 |tup xs=>obtain⟨z,j,r,g,e,c⟩:=x;exact⟨z,j,r,g,k _ _ (.inl rfl) e,c⟩
 |dK kvs=>obtain⟨z,y,vs,r,g,i,ep,e,c⟩:=x;exact⟨z,y,vs,r,g,i,ep,k _ _ (.inl rfl) e,c⟩
 |dT kvs=>obtain⟨z,y,xs,r,g,i,ep,e,c⟩:=x;exact⟨z,y,xs,Paired.mapP r λp q z=>⟨z.1,E _ _ z.2.1,z.2.2⟩,g,i,ep,k _ _ (.inl rfl) e,c⟩
 |set S n=>obtain⟨g,i,ep,t,e,c⟩:=x;exact⟨g,i,ep,t,k _ _ (.inl rfl) e,c⟩
 |ins C I G=>obtain⟨d,z,A,e,m,⟨l,i,ep,F,c⟩,r⟩:=x;exact⟨B _ d,z,A,k _ _ (.inl rfl) e,m,⟨l,i,ep,k _ _ (.inr d) F,c⟩,r⟩
 |own y=>obtain⟨g,e⟩:=x;exact⟨g,k _ _ (.inl rfl) e⟩
 |xd G=>obtain⟨m,⟨l,i,ep,e,c⟩,r⟩:=x;exact⟨m,⟨l,i,ep,k _ _ (.inl rfl) e,c⟩,r⟩
 |rng L J=>obtain⟨t,u,v,e⟩:=x;exact⟨t,u,v,k _ _ (.inl rfl) e⟩
 |frz g u D=>obtain⟨e,q⟩:=x;exact⟨k _ _ (.inl rfl) e,D q⟩
 |tbl s =>
  have e:h.get? a=ab { cls:=.none,data:=.fields s}:=x
  show h'.get? a=ab { cls:=.none,data:=.fields s}
  exact k a _ (.inl rfl) e
 |met f y =>
  have e:h.get? a=ab (re (.ref f) (.ref y)):=x
  show h'.get? a=ab (re (.ref f) (.ref y))
  exact k a _ (.inl rfl) e
 |ext K=>obtain⟨p,⟨o,e⟩,st⟩:=x;exact⟨st _ _ p λo q=>k _ _ (.inl rfl) q,⟨o,k _ _ (.inl rfl) e⟩,st⟩
theorem A9.lt (x:A9 P w H h) (e:H a=ab o):a<h.objs.size:=(x a o e).lt
theorem A9.fresh (x:A9 P w H h) (e:h.objs.size<=a):H a=af:=by
 cases q:H a with
 |none=>rfl
 |some u=>exact As (V_ (x.lt q) e) (BS _)
theorem A9.kept (x:A9 P w H h) (k:∀b u,h.get? b=ab u->h'.get? b=ab u):A9 P w H h':=λa o e =>
 (x a o e).stay (λb u _ q=>k b u q) (λ_ q=>q) λ_ _ q=>q
theorem A9.laid (x:A9 P w H h) (k:∀b u,h.get? b=ab u->h'.get? b=ab u) (i:h.objs.size<=a) (d:Bz P w (zw H a o) h' a o):A9 P w (zw H a o) h':=λb u e=>by
 have g:=x.fresh i;by_cases f:b=a
 .subst f;rw[bR] at e;cases e;exact d
 rw[aY f] at e;exact (x b u e).stay (λc v _ q=>k c v q) (λc q=>by rw[aY (cF q g)];exact q) λc xs q=>by rw[aY (cF q g)];exact q
end
def Rd (H:Hp) (a:ah) (u:HO):Prop:=H a=ab u\/∃o,H a=ab (.frz o u)
theorem Rd.ok (r:Rd H a u) (x:A9 P w H h):Bz P w H h a u:=by
 rcases r with r | ⟨o,r⟩
 .exact x a u r
 obtain⟨_,q⟩:=x a _ r;exact q
def LU:Option HO->Prop
 |some (.lst _)=>True
 |some (.dK _)=>True
 |some (.dT _)=>True
 |some (.set _ _)=>True
 |some (.ins _ _ _)=>True
 |some (.ext _)=>True
 |_=>False
section
variable {P:bX}{w:bP}
theorem A9.write (p:A9 P w H h) (mu:LU (H x)) (m:e=x\/H e=ab (.own x)) (k:∀b u,b≠e->h.get? b=ab u->h'.get? b=ab u) (j:∃u,h'.get? e=ab u)
  (l:Bz P w (zw H x o') h' x o'):A9 P w (zw H x o') h':=λb u q=>by
 have d:∀c y,H c=ab (.own y)->c≠x:=λc y r z=>by subst z;rw[r] at mu;exact mu
 have f:∀c xs,H c=ab (.tup xs)->c≠x:=λc xs r z=>by subst z;rw[r] at mu;exact mu
 by_cases g:b=x
 .subst g;rw[bR] at q;cases q;exact l
 rw[aY g] at q;by_cases a:b=e
 .have n:H b=ab (.own x):=by
   rcases m with z | z
   .exact As (a.trans z) g
   rw[a];exact z
  rw[q] at n;cases n;obtain⟨v,o⟩:=j;exact⟨v,by rw[a];exact o⟩
 refine (p b u q).stay (λc v i r=>k c v ?_ r) (λc r=>by rw[aY (d c b r)];exact r) λc xs r=>by rw[aY (f c xs r)];exact r
 rcases i with rfl | i
 .exact a
 rintro rfl;rcases m with z | z
 .exact d c b i z
 rw[i] at z;cases z;exact g rfl
end
structure Un (fs ex:List ah) (H H':Hp) (h h':cK):Prop where
 keep:∀b o,h.get? b=ab o->H b=af->b∉fs->b∉ex->h'.get? b=ab o
 slot:∀b o,h.get? b=ab o->H b=af->b∈fs->b∉ex->∃sl,h'.get? b=ab { o with slots:=sl}
 free:∀b o,h.get? b=ab o->H b=af->b∉ex->H' b=af
 there:∀b o,h.get? b=ab o->b∉ex->∃o',h'.get? b=ab o'
 tups:∀b xs,H b=ab (.tup xs)->H' b=ab (.tup xs)
 frzs:∀b o u,H b=ab (.frz o u)->H' b=ab (.frz o u)
 tbls:∀b ps,H b=ab (.tbl ps)->∃more,H' b=ab (.tbl (ps++more))
section
variable {h h1 h2 h':cK}{a x e:ah}
theorem Un.any (u:Un fs ex H H1 h h1) (q:h.get? b=ab ob) (n:H b=af) (a:b∉ex):∃d,h1.get? b=ab { ob with slots:=d}:=by
 by_cases c:b∈fs
 .exact u.slot b ob q n c a
 exact⟨ob.slots,u.keep b ob q n c a⟩
theorem Un.kept (k:∀b u,h.get? b=ab u->h'.get? b=ab u):Un fs ex H H h h' :=
 ⟨λb a q _ _ _=>k b a q,λb a q _ _ _=>⟨a.slots,k b a q⟩,λ_ _ _ n _=>n,λb a q _=>⟨a,k b a q⟩,λ_ _ q=>q,λ_ _ _ q=>q,λ_ c q=>⟨#[],by rw[q];simp⟩⟩
theorem Un.refl:Un fs ex H H h h:=Un.kept λ_ _ q=>q
theorem Un.laid (k:∀b u,h.get? b=ab u->h'.get? b=ab u) (d:h.objs.size<=a) (c:H a=af):Un fs ex H (zw H a o) h h' where
 keep:=λb u q _ _ _=>k b u q
 slot:=λb u q _ _ _=>⟨u.slots,k b u q⟩
 free:=λb u q n _=>by rw[aY (P_ (V_ (C_ q) d))];exact n
 there:=λb u q _=>⟨u,k b u q⟩
 tups:=λb xs q=>by rw[aY (cF q c)];exact q
 frzs:=λb u xs q=>by rw[aY (cF q c)];exact q
 tbls:=λb e q=>⟨#[],by rw[aY (cF q c),q];simp⟩
theorem Un.write (mu:LU (H x)) (i:e=x\/H e=ab (.own x)) (k:∀b u,b≠e->h.get? b=ab u->h'.get? b=ab u) (c:∃u,h'.get? e=ab u):Un fs ex H (zw H x o) h h':=by
 have f:∀b,H b=af->b≠x:=λb n z=>by subst z;rw[n] at mu;exact mu
 have g:∀b,H b=af->b≠e:=λb n z=>by
  subst z;rcases i with r | r
  .exact f b n r
  rw[n] at r;cases r
 have d:∀b u,H b=ab u->¬LU (ab u)->b≠x:=λb u q nm z=>by subst z;rw[q] at mu;exact nm mu
 refine⟨λb u q n _ _=>k b u (g b n) q,λb u q n _ _=>⟨u.slots,k b u (g b n) q⟩,λb u q n _=>by rw[aY (f b n)];exact n,λb u q _=>?_,
  λb xs q=>by rw[aY (d b _ q λz=>z)];exact q,λb u xs q=>by rw[aY (d b _ q λz=>z)];exact q,λb j q=>⟨#[],by rw[aY (d b _ q λz=>z),q];simp⟩⟩
 by_cases a:b=e
 .subst a;exact c
 exact⟨u,k b u a q⟩
end
def O0 (h:cK) (H:Hp):List ah:=(ae h.objs.size).filter λa=>(H a).isSome
def sy (h:cK) (H:Hp):cK:=PySem.W.hideAll h (O0 h H)
theorem Bo (h:cK) (H:Hp):(sy h H).objs.size=h.objs.size:=PySem.W.hideAll_size _ _
theorem Du (e:h.get? b=ab o) (n:H b=af):(sy h H).get? b=ab o :=
 PySem.W.hideAll_get _ e λa=>by
  have q:(H b).isSome=ag:=(D_.mp a).2;rw[n] at q;simp at q
theorem Jl (e:(sy h H).get? b=ab o):h.get? b=ab o/\H b=af:=by
 have a:h.get? b=ab o:=PySem.W.of_hideAll (O0 h H) e;refine⟨a,?_⟩;cases q:H b with
 |none=>rfl
 |some x =>
  have c:b∈O0 h H:=D_.mpr ⟨K_.mpr (C_ a),by simp [q]⟩
  have z:(sy h H).get? b=af:=PySem.W.hideAll_none (O0 h H) c
  rw[z] at e;cases e
def Jm (g h : cK) (L : ah) : List (ah × dP):=(ae h.objs.size).filterMap λa => if a = L \/ (g.get? a).isSome = ag then af else (h.get? a).map λo => (a,o)
def zk (g h:cK) (L d:ah):List (ah × dP):=(Jm g h L).filter λp=>decide (p.1≠d)
structure Mod (K:a3) (mg:ap->Option av) (base:cK):Prop where
 kin:K.In base
 glob:base.Ns bv mg
 blt:∃mb,base.Ns nz mb/\∀x:ap,x≠"__name__"->mb x=ba x
 nolimit:base.NoLimit
structure Cx where
 prog:bX
 w:bP
 K:a3
 mg:ap->Option av
 base:cK
 A:eD
 N:List ap
 s₀:aE
 H₀:Hp
 env:x8
 outer:List x8
 stack:List x8
 ex:List ah
 fn:ap->Bool
 calm:Bool
 pn:List (ah × dP)
 xe:av->aE->Prop
def F4 (l : List x8) : List ah:=l.filterMap (·.frame)
abbrev Cx.fs (X:Cx):List ah:=F4 X.outer
def NI (a:Scope) (x:ap):Prop:=a.names.lookup x=ab .local\/a.names.lookup x=ab .cell\/a.names.lookup x=ab .free
def HM (a:Scope) (x:ap):Prop:=a.names.lookup x=ab .local\/a.names.lookup x=ab .cell
def SO (env:x8) (h:cK) (m:ap->Option av) (x:ap) (u:av):Prop :=
 (env.kindOf x=ab .local/\m x=ab u)\/((env.kindOf x=ab .cell\/env.kindOf x=ab .free)/\∃c,env.cells.lookup x=ab c/\h.IsCell c (ab u))
structure Cx.Ok (X:Cx):Prop where
 mod:Mod X.K X.mg X.base
 kind:X.env.scope.kind=.function
 glob:X.env.globals=bv
 blt:X.env.builtins=nz
 above:X.s₀.heap.objs.size<=X.env.locals
 inj:∀x y c,X.env.cells.lookup x=ab c->X.env.cells.lookup y=ab c->x=y
 has:∀x,(X.env.kindOf x=ab .cell\/X.env.kindOf x=ab .free)->∃c,X.env.cells.lookup x=ab c
 cab:∀x c,X.fn x=ag->X.env.cells.lookup x=ab c->X.s₀.heap.objs.size<=c
 hd:X.calm=ag->X.A.handled=af
 frames:X.A.frames=ab X.stack
 stk:X.stack=X.outer\/(X.stack=X.env::X.outer/\X.env.frame=ab X.env.locals)
 exf:∀b∈X.ex,b≠X.env.locals/\∀x c,X.env.cells.lookup x=ab c->c≠b
 bs:∀b o,X.base.get? b=ab o->X.s₀.heap.get? b=ab o/\X.H₀ b=af
 bsz:X.base.objs.size<=X.s₀.heap.objs.size
 noex:∀b o,X.base.get? b=ab o->b∉X.ex
 exfs:∀b∈X.ex,b∉X.fs
 funs:X.s₀.heap.FunFrames X.base X.outer
 frf:∀b∈X.fs,X.H₀ b=af
structure y4 (X:Cx) (pins:List (ah × dP)) (Z:List (Option V)) (H:Hp) (s:aE):Prop where
 ok:X.Ok
 os:s.os=X.s₀.os
 bare:iX s.gens
 base:Un X.fs X.ex X.H₀ H X.s₀.heap s.heap
 loc:∃m,s.heap.Ns X.env.locals m/\∀(i:Nat) (x:ap) (v:V),X.N[i]?=ab x->Z[i]?=ab (ab v)->NI X.env.scope x->∃u,zh v u/\SO X.env s.heap m x u
 cell:∀x c,X.env.cells.lookup x=ab c->∃v,s.heap.IsCell c v
 free:H X.env.locals=af
 freeC:∀x c,X.env.cells.lookup x=ab c->H c=af
 pin:∀p∈X.pn++pins,s.heap.get? p.1=ab p.2/\H p.1=af/\p.1≠X.env.locals/\p.1∉X.fs/\∀v,p.2.data≠.cell v
 hok:A9 X.prog X.w H s.heap
 len:Z.length=X.N.length
section
variable {X:Cx}{ZO:List (ah × dP)}
theorem Cx.Ok.nofr (a:X.Ok) (e:X.base.get? b=ab o):b∉X.fs:=λc=>by
 have:=(a.funs.mem c).1;rw[e] at this;cases this
theorem y4.bs (I:y4 X ZO Z H s):∀b o,X.base.get? b=ab o->s.heap.get? b=ab o/\H b=af:=λb o e =>
 ⟨I.base.keep b o (I.ok.bs b o e).1 (I.ok.bs b o e).2 (I.ok.nofr e) (I.ok.noex b o e),I.base.free b o (I.ok.bs b o e).1 (I.ok.bs b o e).2 (I.ok.noex b o e)⟩
theorem y4.bk (I:y4 X ZO Z H s):∀b o,X.base.get? b=ab o->s.heap.get? b=ab o:=λb o e=>(I.bs b o e).1
theorem y4.mod (I:y4 X ZO Z H s):Mod X.K X.mg X.base:=I.ok.mod
theorem y4.kIn (I:y4 X ZO Z H s):X.K.In s.heap:=I.ok.mod.kin.keeps I.bk
theorem y4.lt (I:y4 X ZO Z H s):X.env.locals<s.heap.objs.size:=let ⟨_,hn,_⟩:=I.loc;hn.lt
theorem y4.sz (I:y4 X ZO Z H s):X.s₀.heap.objs.size<=s.heap.objs.size:=U_ I.ok.above (D4 I.lt)
theorem y4.nofs (I:y4 X ZO Z H s) {a:ah}(h:s.heap.objs.size<=a):a∉X.fs:=λc=>by
 obtain⟨_,o,b,_⟩:=I.ok.funs.mem c;exact As (V_ (C_ b) (U_ I.sz h)) (BS _)
theorem y4.cne (I:y4 X ZO Z H s):∀x c,X.env.cells.lookup x=ab c->c≠X.env.locals:=λx c e z=>by
 obtain⟨v,o,d,f⟩:=I.cell x c e;obtain⟨m,⟨h,g,ep,b,a,_⟩,_⟩:=I.loc;rw[z,b] at d;cases d;rw[a] at f;cases f
theorem y4.funs (I:y4 X ZO Z H s):s.heap.FunFrames X.base X.outer:=by
 have d:∀(l:List x8),(∀b∈F4 l,b∈X.fs)->X.s₀.heap.FunFrames X.base l->s.heap.FunFrames X.base l:=by
  intro l;induction l with
  |nil=>intro _ _;trivial
  |cons env r i =>
  intro g n;obtain ⟨p,⟨L,o,c,j,h,k⟩,m⟩:=n;have f : L ∈ X.fs:=g L (by unfold F4; rw [f6,c]; exact n_);obtain ⟨q,e⟩:=I.base.slot L o h (I.ok.frf L f) f λz => I.ok.exfs L z f;exact ⟨p,⟨L,_,c,j,e,k⟩,i (λb a => g b (by unfold F4; rw [f6,c]; exact A_ _ a)) m⟩
 exact d X.outer (λ_ a=>a) I.ok.funs
theorem y4.stack (I:y4 X ZO Z H s):s.heap.FunFrames X.base X.stack:=by
 rcases I.ok.stk with e | ⟨e,b⟩
 .rw[e];exact I.funs
 rw[e];obtain⟨m,a,_⟩:=I.loc;refine .cons (by rw[I.ok.kind];decide) b a ?_ I.funs;exact Heap.get?_none_of_le (U_ I.ok.bsz I.ok.above)
theorem y4.stkSub (I:y4 X ZO Z H s):∀b∈F4 X.stack,b∈X.env.locals::X.fs:=λb a=>by
 rcases I.ok.stk with e | ⟨e,c⟩
 .rw[e] at a;exact A_ _ a
 rw [e] at a;unfold F4 at a;rw [f6,c] at a;exact a
theorem y4.stkFree (I:y4 X ZO Z H s):∀b∈F4 X.stack,H b=af:=λb a=>by
 rcases o_.mp (I.stkSub b a) with e | a
 .rw[e];exact I.free
 obtain⟨_,o,c,_⟩:=I.ok.funs.mem a;exact I.base.free b o c (I.ok.frf b a) λz=>I.ok.exfs b z a
theorem y4.step {ch:List ah} (I:y4 X ZO Z H s) (t:∀b∈ch,(b∈X.ex\/X.s₀.heap.objs.size<=b)/\b≠X.env.locals/\(∀x c,X.env.cells.lookup x=ab c->c≠b)/\∀p∈X.pn++ZO,p.1≠b) (g:∀b o,b≠X.env.locals->b∉X.fs->b∉ch->s.heap.get? b=ab o->H b=af->h'.get? b=ab o) (B:∀b o,b≠X.env.locals->b∈X.fs->b∉ch->s.heap.get? b=ab o->H b=af->∃P,h'.get? b=ab { o with slots:=P}) (f:∀b o,b∉ch->s.heap.get? b=ab o->H b=af->H' b=af) (D:∀b o,b∉ch->s.heap.get? b=ab o->∃M,h'.get? b=ab M) (G:∀b xs,H b=ab (.tup xs)->H' b=ab (.tup xs)) (K:∀b o u,H b=ab (.frz o u)->H' b=ab (.frz o u)) (L:∀b N,H b=ab (.tbl N)->∃more,H' b=ab (.tbl (N++more))) (ns:∀m,s.heap.Ns X.env.locals m->h'.Ns X.env.locals m) (R:A9 X.prog X.w H' h') (hg:iX g'):
  y4 X ZO Z H' { s with heap:=h',gens:=g',drawn:=d',toks:=t'}:=by
 have J:∀b o,X.s₀.heap.get? b=ab o->b≠X.env.locals:=λb o e=>P_ (V_ (C_ e) I.ok.above);have A:∀b o,X.s₀.heap.get? b=ab o->b∉X.ex->b∉ch:=λb o e a C=>by
  rcases (t b C).1 with z | z
  .exact a z
  exact As (V_ (C_ e) z) (BS _)
 have h:∀x c,X.env.cells.lookup x=ab c->∀v,s.heap.IsCell c v->h'.IsCell c v:=λx c e v ⟨o,E,O⟩=>by
  have j:c∉ch:=λz=>(t c z).2.2.1 x c e rfl;by_cases U:c∈X.fs
  .obtain⟨P,q⟩:=B c o (I.cne x c e) U j E (I.freeC x c e);exact⟨_,q,O⟩
  exact⟨o,g c o (I.cne x c e) U j E (I.freeC x c e),O⟩
 refine⟨I.ok,I.os,hg,⟨λb o e n C a=>?_,λb o e n C a=>?_,λb o e n a=>?_,λb o e a=>?_,λb xs e=>G b xs (I.base.tups b xs e),λb o xs e=>K b o xs (I.base.frzs b o xs e),λb N e=>?_⟩,?_,λx c e=>?_,?_,λx c e=>?_,λp T=>?_,R,I.len⟩
 .exact g b o (J b o e) C (A b o e a) (I.base.keep b o e n C a) (I.base.free b o e n a)
 .obtain⟨P,y⟩:=I.base.slot b o e n C a;obtain⟨Q,F⟩:=B b _ (J b o e) C (A b o e a) y (I.base.free b o e n a);exact⟨Q,F⟩
 .obtain⟨M,y⟩:=I.base.there b o e a;exact f b M (A b o e a) y (I.base.free b o e n a)
 .obtain⟨M,y⟩:=I.base.there b o e a;exact D b M (A b o e a) y
 .obtain⟨m1,y⟩:=I.base.tbls b N e;obtain⟨Y,F⟩:=L b _ y;exact⟨m1++Y,by rw[F,Array.append_assoc]⟩
 .obtain⟨m,W,hl⟩:=I.loc;refine⟨m,ns m W,λi x v y F e3=>?_⟩;obtain⟨u,r,l⟩:=hl i x v y F e3;refine⟨u,r,?_⟩;rcases l with l | ⟨k,c,e,z⟩
  .exact .inl l
  exact .inr ⟨k,c,e,h x c e _ z⟩
 .obtain⟨v,z⟩:=I.cell x c e;exact⟨v,h x c e v z⟩
 .obtain⟨m,⟨o,_,_,E,_⟩,_⟩:=I.loc;exact f _ o (λz=>(t _ z).2.1 rfl) E I.free
 .obtain⟨v,o,E,O⟩:=I.cell x c e;exact f c o (λz=>(t c z).2.2.1 x c e rfl) E (I.freeC x c e)
 obtain⟨e,n,S,V,d⟩:=I.pin p T;have j:p.1∉ch:=λz=>(t p.1 z).2.2.2 p T rfl;exact⟨g p.1 p.2 S V j e n,f p.1 p.2 j e n,S,V,d⟩
theorem y4.un (I:y4 X ZO Z H s) (u:Un X.fs [] H H' s.heap h') (f:A9 X.prog X.w H' h'):y4 X ZO Z H' { s with heap:=h',toks:=t'}:=by
 obtain⟨m,⟨o,l,ep,g,r⟩,_⟩:=id I.loc;obtain⟨p,i⟩:=u.any g I.free ze;exact I.step (g':=s.gens) (d':=s.drawn) (ch:=[]) (λ_ z=>nomatch z) (λb o _ c _ e n=>u.keep b o e n c ze) (λb o _ c _ e n=>u.slot b o e n c ze) (λb o _ e n=>u.free b o e n ze) (λb o _ e=>u.there b o e ze) u.tups u.frzs u.tbls (λk h=>by
  obtain⟨q,es',d,a,j⟩:=h
  rw[g] at a;cases a
  exact⟨_,es',d,i,j⟩) f I.bare
theorem y4.call (I:y4 X ZO Z H s) (u:Un (F4 X.stack) ch H H' s.heap h') (i:A9 X.prog X.w H' h') (t:iX g') (d:∀b∈ch,(b∈X.ex\/X.s₀.heap.objs.size<=b)/\b≠X.env.locals/\(∀x c,X.env.cells.lookup x=ab c->c≠b)/\∀p∈X.pn++ZO,p.1≠b):
  y4 X ZO Z H' { s with heap:=h',gens:=g',drawn:=d',toks:=t'}:=by
 obtain⟨m,⟨o,y,ep,j,r⟩,_⟩:=id I.loc;obtain⟨A,g⟩:=u.any j I.free λz=>(d _ z).2.1 rfl;exact I.step (ch:=ch) d (λb o g k a e n=>u.keep b o e n (λz=>(o_.mp (I.stkSub b z)).elim g k) a) (λb o _ _ a e n=>u.any e n a) (λb o a e n=>u.free b o e n a) (λb o a e=>u.there b o e a) u.tups u.frzs u.tbls (λv l=>by
  obtain⟨B,es',h,f,q⟩:=l
  rw[j] at f;cases f
  exact⟨_,es',h,g,q⟩) i t
theorem y4.turned (I:y4 X ZO Z H s) (k:∀b o,b≠it->s.heap.get? b=ab o->h'.get? b=ab o) (i:H it=af) (f:it≠X.env.locals) (w:it∈X.ex\/X.s₀.heap.objs.size<=it) (t:∀x c,X.env.cells.lookup x=ab c->c≠it) (y:∀p∈X.pn++ZO,p.1≠it):y4 X ZO Z H { s with heap:=h',toks:=t'}:=by
 have d:∀b u,H b=ab u->b≠it:=λb u e z=>by rw[z,i] at e;cases e
 refine I.step (g':=s.gens) (d':=s.drawn) (ch:=[it]) (λb h=>?_) (λb o _ _ a e _=>k b o (λz=>a (by simp [z])) e) (λb o _ _ a e _=>⟨o.slots,k b o (λz=>a (by simp [z])) e⟩) (λ_ _ _ _ n=>n)
  (λb o a e=>⟨o,k b o (λz=>a (by simp [z])) e⟩) (λ_ _ e=>e) (λ_ _ _ e=>e) (λb A e=>⟨#[],by rw[e];simp⟩) (λm j=>?_) (λb u e=>?_) I.bare
 .have e:b=it:=by simpa using h
  subst e;exact⟨w,f,t,y⟩
 .obtain⟨o,l,ep,g,r⟩:=j;exact⟨o,l,ep,k _ o (aS f) g,r⟩
 refine (I.hok b u e).stay (λc v a q=>k c v ?_ q) (λ_ q=>q) λ_ _ q=>q;rcases a with z | z
 .rw[z];exact d b u e
 exact d c _ z
theorem y4.tok (I:y4 X ZO Z H s) (t:Nat):y4 X ZO Z H { s with toks:=t}:=I.un (h':=s.heap) (t':=t) Un.refl I.hok
theorem y4.kept (I:y4 X ZO Z H s) (k:∀b u,s.heap.get? b=ab u->h'.get? b=ab u):y4 X ZO Z H { s with heap:=h',toks:=t'}:=I.un (Un.kept k) (I.hok.kept k)
theorem y4.laid {a:ah} (I:y4 X ZO Z H s) (k:∀b u,s.heap.get? b=ab u->h'.get? b=ab u) (c:s.heap.objs.size<=a) (d:Bz X.prog X.w (zw H a o) h' a o):
  y4 X ZO Z (zw H a o) { s with heap:=h',toks:=t'}:=I.un (Un.laid k c (I.hok.fresh c)) (I.hok.laid k c d)
theorem y4.write (I:y4 X ZO Z H s) (mu:LU (H x)) (d:e=x\/H e=ab (.own x)) (k:∀b u,b≠e->s.heap.get? b=ab u->h'.get? b=ab u) (a:∃u,h'.get? e=ab u) (c:Bz X.prog X.w (zw H x o) h' x o):y4 X ZO Z (zw H x o) { s with heap:=h',toks:=t'}:=I.un (Un.write mu d k a) (I.hok.write mu d k a c)
theorem y4.pins_of (I:y4 X ZO Z H s) (h:∀p∈pins',s.heap.get? p.1=ab p.2/\H p.1=af/\p.1≠X.env.locals/\p.1∉X.fs/\∀v,p.2.data≠.cell v):y4 X pins' Z H s :=
 ⟨I.ok,I.os,I.bare,I.base,I.loc,I.cell,I.free,I.freeC,λp a=>(F_.mp a).elim (λz=>I.pin p (Fa _ z)) (h p),I.hok,I.len⟩
theorem uJ {N:List ap} (c:N.Nodup) {i j:Nat} (a:N[i]?=ab x) (b:N[j]?=ab x):i=j:=by
 obtain⟨g,d⟩:=HV.mp a;obtain⟨f,e⟩:=HV.mp b;exact (r6 c).mp (d.trans e.symm)
theorem qM (I:y4 X ZO Z H s) (hN:X.N.Nodup) (R:X.N[i]?=ab x) (B:HM X.env.scope x) (r:zh v u) (h:∀s',y4 X ZO (Z.set i (ab v)) H s'->(∃a,dA a s.heap s'.heap/\(a=X.env.locals\/X.env.cells.lookup x=ab a))->Q () s') (hf:X.fn x=ag\/X.env.scope.names.lookup x=ab .local:=by first | exact .inl rfl | exact .inr rfl | assumption):ax M A (storeName X.env x u) Q E s:=by
 obtain⟨m,hn,hl⟩:=id I.loc;have W:(X.env.scope.kind==.class||(X.env.scope.kind==.module&&X.env.locals != X.env.globals))=am:=by rw[I.ok.kind];rfl
 have S:i<Z.length:=by rw[I.len];exact (HV.mp R).1
 have G:=I.cne;have g:∀{a:ah} {h':cK},(∃o,s.heap.get? a=ab o/\H a=af)->dA a s.heap h'->A9 X.prog X.w H h':=λ{a h'} ha f b ob e=>by
  obtain⟨_,_,C⟩:=ha;refine (I.hok b ob e).stay (λc w' t q=>(f.2 c ?_).trans q) (λ_ q=>q) λ_ _ q=>q;rintro rfl;rcases t with rfl | t
  .rw[C] at e;cases e
  rw[C] at t;cases t
 rcases B with F | F
 .refine wpAny_storeName_local F hn (λh' hn' f=>?_) W;obtain⟨oL,_,_,hoL,_⟩:=id hn;refine h _ ⟨I.ok,I.os,I.bare,⟨λb o e n K B=>?_,λb o e n K B=>?_,I.base.free,λb o e B=>?_,I.base.tups,I.base.frzs,I.base.tbls⟩,⟨_,hn',λj y v' l D e3=>?_⟩,λy c e=>?_,I.free,I.freeC,λp hp=>?_,g ⟨oL,hoL,I.free⟩ f,by simpa using I.len⟩ ⟨_,f,.inl rfl⟩
  .exact (f.2 b (P_ (V_ (C_ e) I.ok.above))).trans (I.base.keep b o e n K B)
  .obtain⟨sl,l⟩:=I.base.slot b o e n K B;exact⟨sl,(f.2 b (P_ (V_ (C_ e) I.ok.above))).trans l⟩
  .obtain⟨o',l⟩:=I.base.there b o e B;exact⟨o',(f.2 b (P_ (V_ (C_ e) I.ok.above))).trans l⟩
  .by_cases L:j=i
   .subst L;rw[R] at l;cases l;rw[OO S] at D;cases D;exact⟨u,r,.inl ⟨F,ze⟩⟩
   rw[NU (aS L)] at D;obtain⟨u',r',q⟩:=hl j y v' l D e3;refine⟨u',r',?_⟩;rcases q with ⟨k,e⟩ | ⟨k,c,e,z⟩
   .refine .inl ⟨k,?_⟩;have:y≠x:=λe=>L (uJ hN l (e▸R));simp [this,e]
   exact .inr ⟨k,c,e,z.sameBut f (G y c e)⟩
  .obtain⟨w',z⟩:=I.cell y c e;exact⟨w',z.sameBut f (G y c e)⟩
  obtain⟨e,n,Y,nf,d⟩:=I.pin p hp;exact⟨(f.2 p.1 Y).trans e,n,Y,nf,d⟩
 have J:X.fn x=ag:=by
  rcases hf with z | z
  .exact z
  rw[z] at F;cases F
 obtain⟨c,t⟩:=I.ok.has x (.inl F);obtain⟨w',z⟩:=I.cell x c t;refine wpAny_storeName_cell I.ok.kind F t z (λh' P f=>?_);obtain⟨oc,U,T⟩:=id z;refine h { s with heap:=h'} ⟨I.ok,I.os,I.bare,⟨λb o e n K B=>?_,λb o e n K B=>?_,I.base.free,λb o e B=>?_,I.base.tups,I.base.frzs,I.base.tbls⟩,⟨m,hn.sameBut f (aS (G x c t)),λj y v' l D e3=>?_⟩,λy c' e=>?_,I.free,I.freeC,λp hp=>?_,g ⟨oc,U,I.freeC x c t⟩ f,by simpa using I.len⟩ ⟨c,f,.inr t⟩
 .exact (f.2 b (P_ (V_ (C_ e) (I.ok.cab x c J t)))).trans (I.base.keep b o e n K B)
 .obtain⟨sl,l⟩:=I.base.slot b o e n K B;exact⟨sl,(f.2 b (P_ (V_ (C_ e) (I.ok.cab x c J t)))).trans l⟩
 .obtain⟨o',l⟩:=I.base.there b o e B;exact⟨o',(f.2 b (P_ (V_ (C_ e) (I.ok.cab x c J t)))).trans l⟩
 .by_cases L:j=i
  .subst L;rw[R] at l;cases l;rw[OO S] at D;cases D;exact⟨u,r,.inr ⟨.inl F,c,t,P⟩⟩
  rw[NU (aS L)] at D;obtain⟨u',r',q⟩:=hl j y v' l D e3;refine⟨u',r',?_⟩;rcases q with q | ⟨k,c',e,z'⟩
  .exact .inl q
  refine .inr ⟨k,c',e,z'.sameBut f ?_⟩;rintro rfl;exact L (uJ hN l (I.ok.inj _ _ _ e t▸R))
 .by_cases O:c'=c
  .subst O;exact⟨_,P⟩
  obtain⟨w2,z2⟩:=I.cell y c' e;exact⟨w2,z2.sameBut f O⟩
 obtain⟨e,n,Y,nf,d⟩:=I.pin p hp;refine⟨(f.2 p.1 ?_).trans e,n,Y,nf,d⟩;intro q;rw[q,U] at e;have q':oc=p.2:=T_ e;exact d w' (by rw[<- q'];exact T)
theorem uK (I:y4 X ZO Z H s) (b:X.N.Nodup) (e:X.N[i]?=ab x) (a:HM X.env.scope x) (r:zh v u) (h:∀s',y4 X ZO (Z.set i (ab v)) H s'->Q () s') (c:X.fn x=ag\/X.env.scope.names.lookup x=ab .local:=by first | exact .inl rfl | exact .inr rfl | assumption):ax M A (storeName X.env x u) Q E s :=
 qM I b e a r (λs' d _=>h s' d) c
theorem y4.call' (I:y4 X ZO Z H s) (f:s'.os=s.os) (u:Un (F4 X.stack) ch H H' s.heap s'.heap) (d:A9 X.prog X.w H' s'.heap) (h:iX s'.gens) (a:∀b∈ch,(b∈X.ex\/X.s₀.heap.objs.size<=b)/\b≠X.env.locals/\(∀x c,X.env.cells.lookup x=ab c->c≠b)/\∀p∈X.pn++ZO,p.1≠b):y4 X ZO Z H' s':=by
 obtain⟨h',g',d',t',g⟩:=s';have e:g=s.os:=f;subst e;exact I.call (g':=g') (t':=t') (d':=d') u d h a
end
abbrev XK:=av->Option ah->Hp->Prop
abbrev St:=List (Option V)
abbrev VK:=V->Hp->Prop
abbrev TE:=St->Hp->VK->Prop
abbrev TT:=St->Hp->(Bool->Hp->Prop)->Prop
abbrev TA:=St->Hp->(List V->Hp->Prop)->Prop
structure IN where
 nx:St->Hp->Prop
 rt:VK
 bk:St->Hp->Prop:=λ_ _=>False
 ct:St->Hp->Prop:=λ_ _=>False
abbrev TS:=IN->St->Hp->Prop
def EP (X:Cx) (a:List (ah × dP)) (Z:St) (Q:VK) (u:av) (s':aE):Prop:=∃v H',y4 X a Z H' s'/\zh v u/\Q v H'
def TP (X:Cx) (a:List (ah × dP)) (Z:St) (Q:Bool->Hp->Prop) (b:Bool) (s':aE):Prop:=∃H',y4 X a Z H' s'/\Q b H'
def AP (X:Cx) (a:List (ah × dP)) (Z:St) (Q:List V->Hp->Prop) (us:List av) (s':aE):Prop:=∃vs H',y4 X a Z H' s'/\y7 vs us/\Q vs H'
def SP (X:Cx) (a:List (ah × dP)) (D:IN) (f:Flow) (s':aE):Prop :=
 match f with
 |.next=>∃b H',y4 X a b H' s'/\D.nx b H'
 |.brk=>∃b H',y4 X a b H' s'/\D.bk b H'
 |.cont=>∃b H',y4 X a b H' s'/\D.ct b H'
 |.ret u=>∃v b H',y4 X a b H' s'/\zh v u/\D.rt v H'
def PE (X:Cx) (e:Expr) (t:TE):Prop :=
 ∀(a:List (ah × dP)) (s:aE) (Z:St) (H:Hp) (Q:VK),y4 X a Z H s->t Z H Q->ax (aI X.prog X.w) X.A (bo e X.env) (EP X a Z Q) X.xe s
def PT (X:Cx) (e:Expr) (t:TT):Prop :=
 ∀(a:List (ah × dP)) (s:aE) (Z:St) (H:Hp) (Q:Bool->Hp->Prop),y4 X a Z H s->t Z H Q->ax (aI X.prog X.w) X.A (isTrue e X.env (bo e X.env)) (TP X a Z Q) X.xe s
def PW (X:Cx) (e:Expr) (t:TT):Prop :=
 ∀(b:Sem av) (a:List (ah × dP)) (s:aE) (Z:St) (H:Hp) (Q:Bool->Hp->Prop),y4 X a Z H s->t Z H Q->ax (aI X.prog X.w) X.A (isTrue e X.env b) (TP X a Z Q) X.xe s
theorem PW.pt (h:PW X e t):PT X e t:=h _
def PA (X:Cx) (c:List Expr) (t:TA):Prop :=
 ∀(b:kc) (a:List (ah × dP)) (s:aE) (Z:St) (H:Hp) (Q:List V->Hp->Prop),y4 X a Z H s->t Z H Q->ax (aI X.prog X.w) X.A (eK (bb b (aw c X.env))) (AP X a Z Q) X.xe s
def PS (X:Cx) (st:eB) (t:TS):Prop :=
 ∀(a:List (ah × dP)) (s:aE) (Z:St) (H:Hp) (D:IN),y4 X a Z H s->t D Z H->ax (aI X.prog X.w) X.A (exec st X.env) (SP X a D) X.xe s
def CD (X:Cx) (st:List eB) (t:TS):Prop :=
 ∀(a:List (ah × dP)) (s:aE) (Z:St) (H:Hp) (D:IN),y4 X a Z H s->t D Z H->ax (aI X.prog X.w) X.A (execs st X.env) (SP X a D) X.xe s
theorem z3 {t:Sem c}{Q b:c->aE->Prop} (h:ax M A t Q E s) (d:∀a s,Q a s->b a s):ax M A t b E s:=Cn h d λ_ _ x=>x
section
variable {X:Cx}
def VD (i:Nat):TE:=λZ H Q=>∃v,Z[i]?=ab (ab v)/\Q v H
def tC (v:V):TE:=λ_ H Q=>Q v H
theorem Qz {j:kc} (o:X.N[i]?=ab x) (w:NI X.env.scope x) (k:(x==("__debug__":ap))=am:=by decide) (g:(x==("__classdict__":ap))=am:=by decide):PE X (.Name x j) (VD i):=by
 intro f s Z H Q I h;obtain⟨v,e,h⟩:=h;obtain⟨m,p,q⟩:=I.loc;obtain⟨u,r,l⟩:=q i x v o e w;have b:EP X f Z Q u s:=⟨v,H,I,r,h⟩;rcases l with ⟨d,t⟩ | ⟨d,c,n,a⟩
 .exact tf (wpAny_loadName_local I.ok.kind d p t b) k
 rcases d with d | d
 .exact tf (wpAny_loadName_cell I.ok.kind d n a b) k
 exact tf (wpAny_loadName_free I.ok.kind d n a b g) k
theorem QB:PE X (.Constant (.int i) j ZT) (tC (.int i)):=λ_ _ _ H _ I h=>wpAny_Constant_int ⟨.int i,H,I.tok _,⟨_,rfl⟩,h⟩
theorem VF:PE X (.Constant (.bool b) j ZT) (tC (.bl b)):=λ_ _ _ H _ I h=>Constant_bool ⟨.bl b,H,I,rfl,h⟩
theorem QC:PE X (.Constant .none j ZT) (tC .non):=λ_ _ _ H _ I h=>Constant_none ⟨.non,H,I,rfl,h⟩
theorem QD:PE X (.Constant (.str x) j ZT) (tC (.str x)):=λ_ _ _ H _ I h=>Calls.Constant_str ⟨.str x,H,I.tok _,⟨_,rfl⟩,h⟩
def Gl (X:Cx) (x:ap):Prop:=X.env.kindOf x=ab .globalImplicit
theorem yZ {Z:St} (I:y4 X a Z H s) (e:Gl X x) (d:X.mg x=ab u) (h:Q u s) (c:(x==("__debug__":ap))=am:=by decide):ax (aI X.prog X.w) X.A (bo (.Name x b) X.env) Q E s :=
 hZ I.ok.kind e (Calls.loadGlobal_global (by rw[I.ok.glob];exact I.mod.glob.keeps I.bk) d h) c
theorem dq {E:av->aE->Prop}{Z:St}{b:kc} (I:y4 X a Z H s) (i:Gl X x) (d:X.mg x=af) (f:ba x=ab u) (h:Q u s) (c:x≠"__name__":=by decide) (e:(x==("__debug__":ap))=am:=by decide):ax (aI X.prog X.w) X.A (bo (.Name x b) X.env) Q E s:=by
 obtain⟨k,j,g⟩:=I.mod.blt;exact hZ I.ok.kind i (Calls.loadGlobal_builtin (by rw[I.ok.glob];exact I.mod.glob.keeps I.bk) d (by rw[I.ok.blt];exact j.keeps I.bk) ((g x c).trans f) h) e
variable {ta tb:TE}
def PC (X:Cx) (f:yk) (a b:Expr) (t:TE):Prop :=
 ∀(c:List (ah × dP)) (s:aE) (Z:St) (H:Hp) (Q:VK),y4 X c Z H s->t Z H Q ->
  ax (aI X.prog X.w) X.A (bo a X.env) (λv e=>ax (aI X.prog X.w) X.A (bo b X.env) (λu d=>ax (aI X.prog X.w) X.A (be f v u) (EP X c Z Q) X.xe d) X.xe e) X.xe s
theorem Dv (b:Expr) {a:yk}(h:a≠.In) (c:a≠.NotIn):cr a b=am:=by
 have e:(a==CmpOp.In)=am:=by cases a <;> first | rfl | exact As rfl h
 have d:(a==CmpOp.NotIn)=am:=by cases a <;> first | rfl | exact As rfl c
 cases b <;> simp [cr,e,d]
def tB (t:TE):TT:=λZ H Q=>t Z H λx a=>∃c,x=.bl c/\Q c a
theorem xf (h:PC X f a b t) (g:cr f b=am:=by first | exact Dv _ y6 y6 | rfl):PT X (.Compare a [f] [b] ZT) (tB t):=by
 intro e s Z H Q I j;refine k5 (z3 (h e s Z H _ I j) λv r g=>z3 g λu p k=>z3 k λc o ⟨x,i,n,m,l⟩=>?_) g;obtain⟨d,rfl,q⟩:=l;cases m;exact L6 ⟨i,n,q⟩
theorem QF (h:PE X e t) (f:∀whole,isTrue e X.env whole=(do let v <- whole;oy e.pos;eS [v] (truthy v)):=by intro _;rfl):PT X e (tB t):=by
 intro a s Z H Q I c;refine isTrue_plain (z3 (h a s Z H _ I c) λv k ⟨x,b,j,i,g⟩=>?_) (f _);obtain⟨d,rfl,q⟩:=g;cases i;exact L6 ⟨b,j,q⟩
variable {zk:List Expr}
def Zk (t u:TT):TT:=λZ H Q=>t Z H λc a=>if c=ag then u Z a Q else Q am a
def XO (t u:TT):TT:=λZ H Q=>t Z H λc a=>if c=ag then Q ag a else u Z a Q
def Zm (t:TT):TT:=λZ H Q=>t Z H λc a=>Q (!c) a
theorem Jo (d:PT X a tA):PW X (.BoolOp .And [a] ZT) tA:=by
 intro g b s Z H Q I h;refine isTrue_and (z3 (d b s Z H Q I h) λc f e=>?_);cases c with
 |true=>exact isTrue_and_nil e
 |false=>exact e
theorem QG (d:PT X a tA):PW X (.BoolOp .Or [a] ZT) tA:=by
 intro g b s Z H Q I h;refine isTrue_or (z3 (d b s Z H Q I h) λc f e=>?_);cases c with
 |false=>exact isTrue_or_nil e
 |true=>exact e
theorem QH (l:PT X a tA) (i:PW X (.BoolOp .And (b::zk) ZT) tB'):PW X (.BoolOp .And (a::b::zk) ZT) (Zk tA tB'):=by
 intro k d s Z H Q I h;refine isTrue_and (z3 (l d s Z H _ I h) λc j ⟨e,g,f⟩=>?_);cases c with
 |true=>exact i k d j Z e Q g f
 |false=>exact⟨e,g,f⟩
theorem VG (l:PT X a tA) (i:PW X (.BoolOp .Or (b::zk) ZT) tB'):PW X (.BoolOp .Or (a::b::zk) ZT) (XO tA tB'):=by
 intro k d s Z H Q I h;refine isTrue_or (z3 (l d s Z H _ I h) λc j ⟨e,g,f⟩=>?_);cases c with
 |true=>exact⟨e,g,f⟩
 |false=>exact i k d j Z e Q g f
theorem QJ (d:PT X a tA):PT X (.UnaryOp .Not a ZT) (Zm tA):=by
 intro b s Z H Q I h;exact isTrue_not (d b s Z H (λc e=>Q (!c) e) I h)
def VH (b d:TE):TE:=λZ H Q=>b Z H λx a=>∃c,x=.bl c/\if c=ag then d Z a Q else Q (.bl am) a
def Zn (b d:TE):TE:=λZ H Q=>b Z H λx a=>∃c,x=.bl c/\if c=ag then Q (.bl ag) a else d Z a Q
theorem QK (h:PE X a t):PE X (.BoolOp op [a] ZT) t:=λb s Z H Q I c=>BoolOp_one (h b s Z H Q I c)
theorem QL (k:PE X a ta) (i:PE X (.BoolOp .And (b::zk) ZT) tb):PE X (.BoolOp .And (a::b::zk) ZT) (VH ta tb):=by
 intro d s Z H Q I h;refine BoolOp_and (z3 (k d s Z H _ I h) λv j ⟨x,f,g,l,e⟩=>?_);obtain⟨c,rfl,e⟩:=e;cases l;refine L6 ?_;cases c with
 |true=>exact i d j Z f Q g e
 |false=>exact⟨.bl am,f,g,rfl,e⟩
theorem VJ (k:PE X a ta) (i:PE X (.BoolOp .Or (b::zk) ZT) tb):PE X (.BoolOp .Or (a::b::zk) ZT) (Zn ta tb):=by
 intro d s Z H Q I h;refine BoolOp_or (z3 (k d s Z H _ I h) λv j ⟨x,f,g,l,e⟩=>?_);obtain⟨c,rfl,e⟩:=e;cases l;refine L6 ?_;cases c with
 |false=>exact i d j Z f Q g e
 |true=>exact⟨.bl ag,f,g,rfl,e⟩
end
def A8 (K:a3) (H:Hp) (a:ah) (xs:List V):Prop :=
 Rd H a (.lst xs) \/
  ∃(o:dP) (b:Array av) (n:Nat),K.lookup a=ab o/\o.cls=.type "list"/\o.dict=af/\o.data=.seq b n/\b.size<=ai/\y7 xs b.toList
def A0 (K:a3) (H:Hp) (a:ah) (xs:List V):Prop :=
 Rd H a (.tup xs) \/
  ∃(o:dP) (b:Array av) (n:Nat),K.lookup a=ab o/\o.cls=.type "tuple"/\o.dict=af/\o.data=.seq b n/\b.size<=ai/\y7 xs b.toList
def Zo:av->Option V
 |.none=>ab .non
 |.bool b=>ab (.bl b)
 |.int i _=>ab (.int i)
 |.str x _=>ab (.str x)
 |.bytes b _=>ab (.byt b)
 |.float b _=>ab (.flt b)
 |.ref a=>ab (.ref a)
 |.type n=>ab (.ty n)
 |_=>af
theorem zh.abs (r:zh x u):Zo u=ab x:=by
 cases x with
 |non=>cases r;rfl
 |bl _=>cases r;rfl
 |int _=>obtain⟨t,rfl⟩:=r;rfl
 |str _=>obtain⟨t,rfl⟩:=r;rfl
 |byt _=>obtain⟨t,rfl⟩:=r;rfl
 |flt _=>obtain⟨t,rfl⟩:=r;rfl
 |ref _=>cases r;rfl
 |ty _=>cases r;rfl
theorem zh.inj (r:zh x u) (q:zh y u):x=y:=T_ (r.abs.symm.trans q.abs)
theorem y7.inj (h:y7 xs us) (h':y7 a us):xs=a:=by
 induction h generalizing a with
 |nil=>cases h';rfl
 |cons r t b =>
 cases h' with
 |cons c t'=>rw[r.inj c,b t']
section
variable {X:Cx}{ZO:List (ah × dP)}{Z:St}
theorem A8.of {K:a3}(h:H a=ab (.lst xs)):A8 K H a xs:=.inl (.inl h)
theorem A0.of {K:a3}(h:H a=ab (.tup xs)):A0 K H a xs:=.inl (.inl h)
theorem y4.list (I:y4 X ZO Z H s) (h:A8 X.K H a xs):∃b:List av,y7 xs b/\PlainL s.heap a b.toArray/\xs.length<=ai:=by
 rcases h with h | ⟨o,b,n,g,f,c,d,hz,r⟩
 .obtain⟨z,b,n,r,e⟩:=h.ok I.hok;exact⟨b,r,⟨_,n,e,rfl,rfl,rfl⟩,z⟩
 refine⟨b.toList,r,⟨o,n,I.kIn a o g,f,c,by simpa using d⟩,?_⟩;have e:=r.length;simp only[C3] at e;omega
theorem y4.tuple (I:y4 X ZO Z H s) (h:A0 X.K H a xs):∃b:List av,y7 xs b/\x5 s.heap a b.toArray/\xs.length<=ai:=by
 rcases h with h | ⟨o,b,n,d,c,_,f,hz,r⟩
 .obtain⟨z,b,r,p⟩:=h.ok I.hok;exact⟨b,r,p.is,z⟩
 refine⟨b.toList,r,⟨o,I.kIn a o d,c,n,by simpa using f⟩,?_⟩;have e:=r.length;simp only[C3] at e;omega
theorem y4.list_inj (I:y4 X ZO Z H s) (h:A8 X.K H a xs) (h':A8 X.K H a ys):xs=ys:=by
 obtain⟨b,r,⟨o,n,e,_,_,d⟩,_⟩:=I.list h;obtain⟨its',f,⟨i,g,c,_,_,d'⟩,_⟩:=I.list h';rw[e] at c;cases c;rw[d] at d';injection d' with d1 _;have:b=its':=by simpa using Q_ Array.toList d1
 subst this;exact r.inj f
theorem y4.tuple_inj (I:y4 X ZO Z H s) (h:A0 X.K H a xs) (h':A0 X.K H a ys):xs=ys:=by
 obtain⟨b,r,⟨o,e,_,n,d⟩,_⟩:=I.tuple h;obtain⟨its',f,⟨i,c,_,g,d'⟩,_⟩:=I.tuple h';rw[e] at c;cases c;rw[d] at d';injection d' with d1 _;have:b=its':=by simpa using Q_ Array.toList d1
 subst this;exact r.inj f
end
abbrev Cx.wish (X:Cx) (E:av->aE->Prop):Cx:={ X with xe:=E}
abbrev Cx.nox (X:Cx):Cx:=X.wish λ_ _=>False
theorem Cx.Ok.wish {X:Cx}(a:X.Ok) (E:av->aE->Prop):(X.wish E).Ok :=
 ⟨a.mod,a.kind,a.glob,a.blt,a.above,a.inj,a.has,a.cab,a.hd,a.frames,a.stk,a.exf,a.bs,a.bsz,a.noex,a.exfs,a.funs,a.frf⟩
theorem Cx.Ok.unwish {X:Cx} (a:(X.wish E).Ok):X.Ok :=
 ⟨a.mod,a.kind,a.glob,a.blt,a.above,a.inj,a.has,a.cab,a.hd,a.frames,a.stk,a.exf,a.bs,a.bsz,a.noex,a.exfs,a.funs,a.frf⟩
section
variable {X:Cx}{ZO:List (ah × dP)}{Z:St}
theorem y4.wish (I:y4 X ZO Z H s) (E:av->aE->Prop):y4 (X.wish E) ZO Z H s:=⟨I.ok.wish E,I.os,I.bare,I.base,I.loc,I.cell,I.free,I.freeC,I.pin,I.hok,I.len⟩
theorem y4.unwish (I:y4 (X.wish E) ZO Z H s):y4 X ZO Z H s:=⟨I.ok.unwish,I.os,I.bare,I.base,I.loc,I.cell,I.free,I.freeC,I.pin,I.hok,I.len⟩
theorem SP.unwish (h:SP (X.wish E) ZO D f s'):SP X ZO D f s':=by
 cases f with
 |next=>obtain⟨a,H',I,q⟩:=h;exact⟨a,H',I.unwish,q⟩
 |brk=>obtain⟨a,H',I,q⟩:=h;exact⟨a,H',I.unwish,q⟩
 |cont=>obtain⟨a,H',I,q⟩:=h;exact⟨a,H',I.unwish,q⟩
 |ret u=>obtain⟨v,a,H',I,r,q⟩:=h;exact⟨v,a,H',I.unwish,r,q⟩
theorem CD.nox {st:List eB} (h:CD X.nox st t):CD X st t:=λa s Z H D I b =>
 Cn (h a s Z H D (I.wish _) b) (λ_ _ q=>q.unwish) λ_ _ z=>c9 z
variable {st:eB}{zk:List eB}{t u:TS}
def VL:TS:=λD Z H=>D.nx Z H
def Zq (t u:TS):TS:=λD Z H=>t { D with nx:=u D} Z H
theorem Jp:CD X [] VL:=λ_ _ Z H _ I h=>fv ⟨Z,H,I,h⟩
theorem Dw (h1:PS X st t) (e:CD X zk u):CD X (st::zk) (Zq t u):=by
 intro a s Z H D I h;refine qS (z3 (h1 a s Z H { D with nx:=u D} I h) λf c q=>?_);cases f with
 |next=>obtain⟨d,H',b,q⟩:=q;exact e a c d H' D b q
 |ret v=>exact q
 |brk=>exact q
 |cont=>exact q
theorem Jq (b:PS X st t):CD X [st] t:=by
 intro a s Z H D I h;refine qS (z3 (b a s Z H D I h) λf c q=>?_);cases f with
 |next=>exact fv q
 |ret v=>exact q
 |brk=>exact q
 |cont=>exact q
theorem y4.quiet (I:y4 X a Z H s):interactive X.env=am:=by simp [interactive,I.ok.kind]
def VM (te:TE):TS:=λD Z H=>te Z H λ_ a=>D.nx Z a
theorem Jr (d:PE X e te) (c:d6 e af ZT.line X.env=bE am:=by rfl):PS X (.Expr e ZT) (VM te):=by
 intro a s Z H D I h;exact wpAny_Expr_any (z3 (d a s Z H _ I h) λv i ⟨x,b,g,j,f⟩=>⟨Z,b,g,f⟩) I.quiet c
def Zr (te:TE):TS:=λD Z H=>te Z H D.rt
theorem QM (c:PE X e te):PS X (.Return (ab e) ZT) (Zr te):=by
 intro a s Z H D I h;exact wpAny_Return_some (z3 (c a s Z H _ I h) λv i ⟨x,b,g,f,d⟩=>⟨x,Z,b,g,f,d⟩)
def Zt (c:TT) (t u:TS):TS:=λD Z H=>c Z H λb a=>if b=ag then t D Z a else u D Z a
theorem VN (n:PT X c g) (m:CD X a t) (l:CD X b u):PS X (.If c a b ZT) (Zt g t u):=by
 intro e s Z H D I h;refine wpAny_If (z3 (n e s Z H _ I h) λd i ⟨f,k,j⟩=>?_);cases d with
 |true=>exact m e i Z f D k j
 |false=>exact l e i Z f D k j
end
abbrev TG:=V->St->Hp->(St->Hp->Prop)->Prop
abbrev MR:=List V->St->Hp->(St->Hp->Prop)->Prop
def PG (X:Cx) (a:Expr) (t:TG):Prop :=
 ∀(b:List (ah × dP)) (s:aE) (Z:St) (H:Hp) (v:V) (u:av) (Q:St->Hp->Prop),y4 X b Z H s->zh v u->t v Z H Q ->
  ax (aI X.prog X.w) X.A (gX a X.env u) (λ_ s'=>∃c H',y4 X b c H' s'/\Q c H') X.xe s
def GL (X:Cx) (ts:List Expr) (t:MR):Prop :=
 ∀(a:List (ah × dP)) (s:aE) (Z:St) (H:Hp) (vs:List V) (us:List av) (Q:St->Hp->Prop),y4 X a Z H s->y7 vs us->t vs Z H Q ->
  ax (aI X.prog X.w) X.A (assignInOrder ((dL ts X.env).map (·.2)) us) (λ_ s'=>∃b H',y4 X a b H' s'/\Q b H') X.xe s
abbrev Dy:=V->V->V->Hp->(Hp->Prop)->Prop
def LM (X:Cx) (t:Dy):Prop :=
 ∀(a:List (ah × dP)) (s:aE) (Z:St) (H:Hp) (o i v:V) (b c u:av) (Q:Hp->Prop),y4 X a Z H s->zh o b->zh i c->zh v u->t o i v H Q ->
  ax (aI X.prog X.w) X.A (xC b c u) (λ_ s'=>∃H',y4 X a Z H' s'/\Q H') X.xe s
section
variable {ZT:kc}
def Nr (i:Nat):TG:=λv Z H Q=>Q (Z.set i (ab v)) H
theorem Js (c:X.N.Nodup) (f:X.N[i]?=ab x) (b:HM X.env.scope x) (d:X.fn x=ag\/X.env.scope.names.lookup x=ab .local:=by first | exact .inl rfl | exact .inr rfl | assumption):PG X (.Name x ZT) (Nr i):=by
 intro a s Z H v u Q I r h;exact ow (uK I c f b r (λs' e=>⟨_,H,e,h⟩) d)
def Zu:MR:=λvs Z H Q=>vs=[]/\Q Z H
def VP (t:TG) (u:MR):MR:=λvs Z H Q=>∃v r,vs=v::r/\t v Z H λa H'=>u r a H' Q
theorem Jt:GL X [] Zu:=by
 intro a s Z H vs us Q I r h;obtain⟨e,h⟩:=h;subst e;cases r;exact assignInOrder_nil ⟨Z,H,I,h⟩
theorem Dz (g:PG X e t) (l:GL X b u) (i:(dL (e::b) X.env).map (·.2)=gX e X.env::(dL b X.env).map (·.2):=by rfl):GL X (e::b) (VP t u):=by
 intro a s Z H vs us Q I r h;obtain⟨v,o,d,h⟩:=h;subst d;cases r with
 |cons r k =>
 rw[i];refine assignInOrder_cons (z3 (g a s Z H _ _ _ I r h) λ_ f ⟨j,c,n,m⟩=>?_);exact l a f j c _ _ Q n k m
def Zv (K:a3) (n:Nat) (t:MR):TG:=λv Z H Q=>∃a xs,v=.ref a/\A0 K H a xs/\xs.length=n/\t xs Z H Q
theorem QQ {k:Nat} (y:X.calm=ag) (h:GL X d t) (l:(dL d X.env).length=n:=by rfl) (f:(dL d X.env).findIdx? (·.1)=af:=by rfl):PG X (.Tuple d k ZT) (Zv X.K n t):=by
 intro c s Z H v u Q I r g;obtain⟨a,xs,p,q,w,g⟩:=g;subst p;cases r;obtain⟨z,i,m,hz⟩:=I.tuple q;refine assign_Tuple_tuple (I.ok.hd y) m (by simp [l,<- w,i.length]) f λh' j=>?_;have x:y4 X c Z H { s with heap:=h'}:=I.kept (t':=s.toks) λb o e=>j b o (P_ (C_ e)) e;exact h c _ Z H xs _ Q x (by simpa using i) g
def Zw (b c:TE) (t:Dy):TG:=λv Z H Q=>b Z H λo d=>c Z d λi a=>t o i v a λH3=>Q Z H3
theorem QR (w:PE X o e) (p:PE X i d) (B:LM X t) (D:∀v,gX (.Subscript o i ZT) X.env v=(do
   let b <- eS [v] (bo o X.env)
   let c <- eS [v,b] (bo i X.env)
   oy ZT
   eS [v,b,c] (xC b c v)
   release [v,b,c] []):=by intro _;rfl):PG X (.Subscript o i ZT) (Zw e d t):=by
 intro a s Z H v u Q I r h;rw[D];refine a_ (DF (z3 (w a s Z H _ I h) λb A ⟨x,f,n,m,l⟩=>?_));refine a_ (DF (z3 (p a A Z f _ n l) λc g ⟨y,C,k,q,E⟩=>?_));refine a_ (mP (a_ (DF (z3 (B a g Z C x y v b c u _ k m q r E) λ_ F ⟨H3,j,z⟩=>?_))));exact wpAny_release ⟨Z,H3,j,z⟩
def VR (te:TE) (g:TG):TS:=λD Z H=>te Z H λx a=>g x Z a D.nx
theorem QS (n:PE X e te) (m:PG X b g) (j:wT [b] e ZT.line X.env=bE am:=by rfl) (f:w_ [b] e X.env=bE af:=by rfl) (o:(dL [b] X.env).map (·.2)=[gX b X.env]:=by rfl):PS X (.Assign [b] e ZT) (VR te g):=by
 intro a s Z H D I h;refine wpAny_Assign_stores (z3 (n a s Z H _ I h) λv d ⟨x,c,i,l,k⟩=>?_) j f;rw[o];exact z3 (m a d Z c x v _ i l k) λ_ p q=>q
theorem QT (d:X.N.Nodup) (o:X.N[i]?=ab x) (c:HM X.env.scope x) (k:PE X e te) (j:d6 e (ab (.Name x a)) ZT.line X.env=bE am:=by rfl) (g:X.fn x=ag\/X.env.scope.names.lookup x=ab .local:=by first | exact .inl rfl | exact .inr rfl | assumption):
  PS X (.Assign [.Name x a] e ZT) (VR te (Nr i)):=by
 intro b s Z H D I h;refine wpAny_Assign_Name (z3 (k b s Z H _ I h) λv r ⟨y,f,n,m,l⟩=>?_) j;exact uK n d o c m (λq p=>⟨_,f,p,l⟩) g
def QV (c:TT) (f:TS):TS:=λD Z H=>∃W:Nat->St->Hp->Prop,(∃m,W m Z H)/\∀m Z H,W m Z H ->
 c Z H λb d=>if b=ag then ∃N:St->Hp->Prop,(∀e H',N e H'->∃a,a<m/\W a e H')/\f { D with nx:=N,ct:=N,bk:=D.nx} Z d else D.nx Z d
theorem DG (x:rS (aI X.prog X.w) X.A X.env X.xe) (J:PT X c z) (K:CD X d C):PS X (.While c d [] ZT) (QV z C):=by
 intro a s Z H D I h;obtain⟨W,⟨L,M⟩,g⟩:=h;refine wpAny_While (codeAny_whileLoop (λn s'=>∃y H',y4 X a y H' s'/\W n y H') ?_ L ⟨Z,H,I,M⟩);rintro n O ⟨j,r,G,F⟩;refine LX x (z3 (J a O j r _ G (g n j r F)) λb E ⟨B,t,k⟩=>?_);cases b with
 |true =>
  obtain⟨N,u,k⟩:=k;rw[zi rfl];refine LX x (z3 (K a E j B _ t k) λf P i=>?_);cases f with
  |next=>obtain⟨e,H3,l,m⟩:=i;obtain⟨p,o,q⟩:=u e H3 m;exact⟨p,o,e,H3,l,q⟩
  |cont=>obtain⟨e,H3,l,m⟩:=i;obtain⟨p,o,q⟩:=u e H3 m;exact⟨p,o,e,H3,l,q⟩
  |brk=>exact i
  |ret v=>exact i
 |false =>
 rw[y9 B_];exact fv ⟨j,B,t,k⟩
end
structure It where
 go:Nat->Hp->Prop
 yld:Nat->Hp->V->Hp->Prop
 stop:Nat->Hp->Prop
def qd (X:Cx) (a:List (ah × dP)) (H:Hp) (b:ah):Prop :=
 H b=af/\b≠X.env.locals/\b∉X.fs/\(b∈X.ex\/X.s₀.heap.objs.size<=b)/\(∀x c,X.env.cells.lookup x=ab c->c≠b)/\∀p∈X.pn++a,p.1≠b
theorem y4.fpOk {Z:St}{b:ah} (I:y4 X a Z H s) (d:s.heap.objs.size<=b) (g:H' b=af):qd X a H' b:=by
 refine⟨g,EN (V_ I.lt d),I.nofs d,.inr (U_ I.sz d),λx c e z=>?_,λp f z=>?_⟩
 .obtain⟨v,q⟩:=I.cell x c e;exact As (V_ q.lt (by rw[z];exact d)) (BS _)
 exact As (V_ (C_ (I.pin p f).1) (by rw[z];exact d)) (BS _)
structure Ch (P:bX) (w:bP) (K:a3) (tg:Expr) (J:It) (fp:List ah) (it:ah) (tn:Nat->cK->Prop):Prop where
 mem:it∈fp
 obj:∀i h,tn i h->∀b∈fp,∃o,h.get? b=ab o/\∀v,o.data≠.cell v
 keep:∀i h h',tn i h->(∀b∈fp,∀o,h.get? b=ab o->h'.get? b=ab o)->tn i h'
 item:∀(X:Cx),X.prog=P->X.w=w->X.K=K->X.calm=ag->∀(i:Nat) (pins:List (ah × dP)) (s:aE) (Z:St) (H:Hp) (E:av->aE->Prop),y4 X pins Z H s->(∀b∈fp,qd X pins H b)->tn i s.heap->J.go i H ->
  ax (aI P w) X.A (eR (.ref it)) (λr s1=>∃u,r=ab u /\
   ax (aI P w) X.A (fy tg (.ref it) u) (λ_ s2=>∃x H',y4 X pins Z H' s2/\zh x u/\J.yld i H x H'/\tn (i+1) s2.heap/\∀b∈fp,H' b=af) E s1) E s
 done:∀(X:Cx),X.prog=P->X.w=w->X.K=K->X.calm=ag->∀(i:Nat) (pins:List (ah × dP)) (s:aE) (Z:St) (H:Hp) (E:av->aE->Prop),y4 X pins Z H s->(∀b∈fp,qd X pins H b)->tn i s.heap->J.stop i H ->
  ax (aI P w) X.A (eR (.ref it)) (λr s1=>r=af/\y4 X pins Z H s1) E s
 self:∀(A:eD) (i:Nat) (s:aE) (Q:av->aE->Prop) (E:av->aE->Prop),tn i s.heap->Q (.ref it) s->ax (aI P w) A (ra (.ref it)) Q E s
abbrev TI:=St->Hp->(It->Hp->Prop)->Prop
def UU (X:Cx) (a:List (ah × dP)) (Z:St) (g:Expr) (R:It->Hp->Prop) (c:av) (e:aE):Prop :=
 ∃(it:ah) (d:List ah) (f:Nat->cK->Prop) (J:It) (H':Hp),c=.ref it/\y4 X a Z H' e/\Ch X.prog X.w X.K g J d it f/\f 0 e.heap/\(∀b∈d,qd X a H' b)/\R J H'
def PI (X:Cx) (e b:Expr) (d:TI):Prop :=
 ∀(a:List (ah × dP)) (s:aE) (Z:St) (H:Hp) (R:It->Hp->Prop),y4 X a Z H s->d Z H R ->
  ax (aI X.prog X.w) X.A (bo b X.env) (λv c=>ax (aI X.prog X.w) X.A (ra v) (UU X a Z e R) X.xe c) X.xe s
theorem uL (c:s.heap.get? it=ab o) (f:o.cls=.type n) (e:o.data=.fields vs) (d:["enumerate","zip","dict_itemiterator","dict_reverseitemiterator","odict_iterator","itertools.zip_longest","itertools.pairwise"].contains n=am) (a:Q () s):ax M A (fy b (.ref it) u) Q E s:=by
 unfold fy;cases b <;> first
  |exact h_ a
  | (cases u <;> first
    |exact h_ a
    | (refine a_ (L1 c ?_)
       rw[f,e]
       show ax M A (if (["enumerate","zip","dict_itemiterator","dict_reverseitemiterator","odict_iterator","itertools.zip_longest","itertools.pairwise"].contains n&&vs[0]?==ab (cq _))=ag then _ else _) Q E s
       rw[y9 (by intro h;rw[d,h9] at h;cases h)]
       exact h_ a))
def Ta (K:a3) (a:ah):It :=
 ⟨λi H=>∃xs x,A8 K H a xs/\xs[i]?=ab x,λi H x H'=>H'=H/\∀xs,A8 K H a xs->xs[i]?=ab x,λi H=>∃xs,A8 K H a xs/\xs.length<=i⟩
def SA (K:a3) (a:ah):It :=
 ⟨λi H=>∃xs x,A0 K H a xs/\xs[i]?=ab x,λi H x H'=>H'=H/\∀xs,A0 K H a xs->xs[i]?=ab x,λi H=>∃xs,A0 K H a xs/\xs.length<=i⟩
def OT (a:Int) (n:Nat):It:=⟨λi _=>i<n,λi H x H'=>H'=H/\x=.int (a+i),λi _=>n<=i⟩
theorem Bp {K:a3} (a it:ah):Ch P w K S (Ta K a) [it] it (λi h=>h.IsListIter it a i) where
 mem:=by simp
 obj:=λi h st b g=>by
  have e:b=it:=by simpa using g
  subst e
  obtain⟨o,e,c,d⟩:=st
  exact⟨o,e,λv z=>by rw[d] at z;cases z⟩
 keep:=λi h h' st k=>st.at λo e=>k it ze o e
 item:=by
  intro X q D r L i f s Z H E I l st B
  subst q D r
  obtain⟨xs,x,m,F⟩:=B
  obtain⟨C,J,p,hz⟩:=I.list m
  obtain⟨u,N,M⟩:=J.get F
  obtain⟨y,t,U,G,n,A⟩:=l it ze
  refine wpAny_pyNext_list_item st p.isList (x:=u) (by simpa using N) λh' j R=>?_
  have O:y4 X f Z H { s with heap:=h'}:=I.turned (t':=s.toks) (λb o g e=>(R.2 b g).trans e) y t G n A
  obtain⟨o,e,c,d⟩:=id j
  exact⟨u,rfl,uL (s:={ s with heap:=h'}) e c d y6 ⟨x,H,O,M,⟨rfl,λW Q=>by rw[I.list_inj Q m];exact F⟩,j,λb g=>(l b g).1⟩⟩
 done:=by
  intro X q D r L i f s Z H E I l st B
  subst q D r
  obtain⟨xs,m,F⟩:=B
  obtain⟨C,J,p,hz⟩:=I.list m
  obtain⟨y,t,U,G,n,A⟩:=l it ze
  have V:=J.length
  exact wpAny_pyNext_list_end (I.ok.hd L) st p.isList (by simp;omega) λh' T=>⟨rfl,I.turned (t':=s.toks) (λb o g e=>T b o g e) y t G n A⟩
 self:=λ_ _ _ _ _ st h=>wpAny_pyIter_listiter st h
theorem xg {K:a3} (a it:ah):Ch P w K S (SA K a) [it] it (λi h=>h.IsTupleIter it a i) where
 mem:=by simp
 obj:=λi h st b j=>by
  have e:b=it:=by simpa using j
  subst e
  obtain⟨o,e,c,d⟩:=st
  exact⟨o,e,λv z=>by rw[d] at z;cases z⟩
 keep:=λi h h' st k=>st.at λo e=>k it ze o e
 item:=by
  intro X r D t L i f s Z H E I m st C
  subst r D t
  obtain⟨xs,x,n,F⟩:=C
  obtain⟨g,J,p,hz⟩:=I.tuple n
  obtain⟨u,N,M⟩:=J.get F
  obtain⟨A,y,U,G,q,B⟩:=m it ze
  refine wpAny_pyNext_tuple_item st (show s.heap.IsTuple a g.toArray from p) (x:=u) (by simpa using N) λh' l R=>?_
  have O:y4 X f Z H { s with heap:=h'}:=I.turned (t':=s.toks) (λb o j e=>(R.2 b j).trans e) A y G q B
  obtain⟨o,e,c,d⟩:=id l
  exact⟨u,rfl,uL (s:={ s with heap:=h'}) e c d y6 ⟨x,H,O,M,⟨rfl,λW Q=>by rw[I.tuple_inj Q n];exact F⟩,l,λb j=>(m b j).1⟩⟩
 done:=by
  intro X r D t L i f s Z H E I m st C
  subst r D t
  obtain⟨xs,n,F⟩:=C
  obtain⟨g,J,p,hz⟩:=I.tuple n
  obtain⟨A,y,U,G,q,B⟩:=m it ze
  have V:=J.length
  exact wpAny_pyNext_tuple_end (I.ok.hd L) st (show s.heap.IsTuple a g.toArray from p) (by simp;omega) λh' T=>⟨rfl,I.turned (t':=s.toks) (λb o j e=>T b o j e) A y G q B⟩
 self:=λ_ _ _ _ _ st h=>wpAny_pyIter_tupleiter st h
theorem xj {K:a3} (it:ah) (f:Int) (n:Nat):Ch P w K F (OT f n) [it] it (λi h=>IsRangeIter h it (f+(i:Nat)*1) ((n:Int) - (i:Nat)) 1) where
 mem:=by simp
 obj:=λi h st b c=>by
  have e:b=it:=by simpa using c
  subst e
  exact⟨_,st,λv z=>by
   have L:Data.fields _=Data.cell v:=z
   cases L⟩
 keep:=λi h h' st k=>k it ze _ st
 item:=by
  intro X l y m x i a s Z H E I g st u
  subst l y m
  obtain⟨q,p,J,A,j,r⟩:=g it ze
  have W:=Walks.range (prog:=X.prog) (w:=X.w) (I.ok.hd x) it f 1 n
  refine W.item i s _ _ u st λv h' tk C d B=>?_
  obtain⟨t,rfl⟩:=C
  have D:y4 X a Z H { s with heap:=h',toks:=tk}:=I.turned (λb o c e=>B b o (by simpa using c) e) q p A j r
  refine⟨_,rfl,uL (s:={ s with heap:=h',toks:=tk}) (n:="range_iterator") d rfl rfl y6 ⟨.int (f+i),H,D,⟨t,?_⟩,⟨rfl,rfl⟩,d,λb c=>(g b c).1⟩⟩
  rw[Int.mul_one]
 done:=by
  intro X l y m x i a s Z H E I g st u
  subst l y m
  obtain⟨q,p,J,A,j,r⟩:=g it ze
  exact wpAny_pyNext_range_end (I.ok.hd x) st (by have:n<=i:=u;omega) λh' G=>⟨rfl,I.turned (t':=s.toks) (λb o c e=>G b o c e) q p A j r⟩
 self:=λ_ _ _ _ _ st h=>wpAny_pyIter_rangeiter st h
section
variable {X:Cx}{tg:Expr}
def V0 (K:a3) (c:TE):TI:=λZ H R=>c Z H λx b=>∃a,x=.ref a/\(∃xs,A8 K b a xs)/\R (Ta K a) b
def Zx (K:a3) (c:TE):TI:=λZ H R=>c Z H λx b=>∃a,x=.ref a/\(∃xs,A0 K b a xs)/\R (SA K a) b
theorem Ju (m:PE X l g):PI X tg l (V0 X.K g):=by
 intro c s Z H R I h;refine z3 (m c s Z H _ I h) λv d ⟨x,j,f,r,n⟩=>?_;obtain⟨a,e,⟨xs,k⟩,q⟩:=n;subst e;cases r;obtain⟨t,u,p,hz⟩:=f.list k;refine P8 p.isList ?_;refine⟨d.heap.objs.size,[d.heap.objs.size],_,_,j,rfl,f.kept (t':=d.toks) λb o e=>e_ _ e,Bp a _,⟨_,t_ _ rfl,rfl,rfl⟩,λb i=>?_,q⟩;have e:b=d.heap.objs.size:=by simpa using i
 subst e;exact f.fpOk (l_ _) (f.hok.fresh (l_ _))
theorem QW (n:PE X l i):PI X tg l (Zx X.K i):=by
 intro c s Z H R I h;refine z3 (n c s Z H _ I h) λv d ⟨x,k,f,t,r⟩=>?_;obtain⟨a,e,⟨xs,m⟩,q⟩:=r;subst e;cases t;obtain⟨g,u,p,hz⟩:=f.tuple m;refine OY (show d.heap.IsTuple a g.toArray from p) ?_;refine⟨d.heap.objs.size,[d.heap.objs.size],_,_,k,rfl,f.kept (t':=d.toks) λb o e=>e_ _ e,xg a _,⟨_,t_ _ rfl,rfl,rfl⟩,λb j=>?_,q⟩;have e:b=d.heap.objs.size:=by simpa using j
 subst e;exact f.fpOk (l_ _) (f.hok.fresh (l_ _))
theorem uM {Z:St} (I:y4 X d Z H s) (l : -(2^62)<=a) (j:a<2^62) (m : -(2^62)<=c) (k:c<2^62) (q:R (OT a (c - a).toNat) H):ax (aI X.prog X.w) X.A (ra (.ref s.heap.objs.size)) (UU X d Z tg R) E { s with heap:=s.heap.push { cls:=.type "range",data:=.fields #[.int a t,.int c u,.int 1 v]},toks:=tk}:=by
 refine wpAny_pyIter_range (IsRange.new ..) (small_one l j m k) ?_;have f:y4 X d Z H { s with heap:=s.heap.push { cls:=.type "range",data:=.fields #[.int a t,.int c u,.int 1 v]},toks:=tk}:=I.kept λb o e=>e_ _ e;refine⟨(s.heap.push { cls:=.type "range",data:=.fields #[.int a t,.int c u,.int 1 v]}).objs.size,[(s.heap.push { cls:=.type "range",data:=.fields #[.int a t,.int c u,.int 1 v]}).objs.size],_,_,H,rfl,
  f.kept (t':=tk) λb o e=>e_ _ e,xj _ a (c - a).toNat,?_,λb g=>?_,q⟩
 .have h:a+((0:Nat):Int)*1=a:=ze
  have i:(((c - a).toNat:Nat):Int) - ((0:Nat):Int)=Builtin.Range.rangeSize a c 1:=by rw[xa];split <;> omega
  show IsRangeIter _ _ (a+((0:Nat):Int)*1) ((((c - a).toNat:Nat):Int) - ((0:Nat):Int)) 1;rw[h,i];exact t_ _ rfl
 have e:b=(s.heap.push { cls:=.type "range",data:=.fields #[.int a t,.int c u,.int 1 v]}).objs.size:=by simpa using g
 subst e;exact f.fpOk (l_ _) (f.hok.fresh (l_ _))
def V1 (a:TA):TI:=λZ H R=>a Z H λvs b=>∃j:Int,vs=[.int j] /\ -(2^62)<=j/\j<2^62/\R (OT 0 j.toNat) b
def V2 (a:TA):TI:=λZ H R=>a Z H λvs b=>∃i j:Int,vs=[.int i,.int j]/\(-(2^62)<=i/\i<2^62 /\ -(2^62)<=j/\j<2^62)/\R (OT i (j - i).toNat) b
theorem Bq (o:Gl X "range") (i:X.mg "range"=af) (m:PA X [a] f) (k:aw [a] X.env=[(am,bo a X.env)]:=by rfl):PI X tg (.Call (.Name "range" p) [a] [] b) (V1 f):=by
 intro c s Z H R I h;refine Call_ (dq I o i vE (Z_ (z3 (m b c s Z H _ I h) λus w ⟨vs,v,u,n,d⟩=>?_) k rfl));obtain⟨j,e,d,g,q⟩:=d;subst e;cases n with
 |cons r l =>
 cases l;obtain⟨t,rfl⟩:=r;exact call_range_1 (uM u yT yT d g (by simpa using q))
theorem Br {p c:kc} (A:Gl X "range") (o:X.mg "range"=af) (x:PA X [a,b] l) (v:aw [a,b] X.env=[(am,bo a X.env),(am,bo b X.env)]:=by rfl) (f:aw [b] X.env=[(am,bo b X.env)]:=by rfl):
  PI X tg (.Call (.Name "range" p) [a,b] [] c) (V2 l):=by
 intro d s Z H R I h;refine Call_ (dq I A o vE (Z_ (z3 (x c d s Z H _ I h) λus C ⟨vs,B,z,y,k⟩=>?_) (by rw[v,f]) (by rw[f];rfl)));obtain⟨i,j,e,⟨k,n,m,w⟩,q⟩:=k;subst e;cases y with
 |cons r g =>
 cases g with
 |cons u g =>
 cases g;obtain⟨t,rfl⟩:=r;obtain⟨t',rfl⟩:=u;exact call_range_2 (uM z k n m w q)
def Zy (d:TI) (g:TG) (f:TS):TS:=λD Z H=>d Z H λJ c=>∃W:Nat->Nat->St->Hp->Prop,(∃m,W 0 m Z c)/\∀i m Z H,W i m Z H ->
 (J.stop i H/\D.nx Z H)\/(J.go i H/\∃N:St->Hp->Prop,(∀b H',N b H'->∃a,a<m/\W (i+1) a b H')/\∀x H',J.yld i H x H'->g x Z H' λh e=>f { D with nx:=N,ct:=N,bk:=D.nx} h e)
def nP (a : List ah) (h : cK) : List (ah × dP):=a.filterMap λb => (h.get? b).map λo => (b,o)
theorem gU (c : b ∈ a) (e : h.get? b = ab o): (b,o) ∈ nP a h:=List.mem_filterMap.mpr ⟨b,c,by rw [e]; rfl⟩
theorem Bs (d:p∈nP a h):p.1∈a/\h.get? p.1=ab p.2:=by
 obtain ⟨b,c,e⟩:=List.mem_filterMap.mp d;cases q : h.get? b with
 |none=>rw[q] at e;cases e
 |some o =>
 rw[q] at e;have f:(b,o)=p:=T_ e;subst f;exact⟨c,q⟩
theorem y4.pinned {Z:St} (I:y4 X a Z H s) (i:∀b∈c,qd X a H b) (h:∀b∈c,∃o,s.heap.get? b=ab o/\∀v,o.data≠.cell v):y4 X (a++nP c s.heap) Z H s :=
 I.pins_of λp j=>(F_.mp j).elim (λz=>I.pin p (Da _ z)) λz=>by
  obtain⟨f,e⟩:=Bs z;obtain⟨l,k,m,_⟩:=i p.1 f;obtain⟨o,g,d⟩:=h p.1 f;rw[e] at g;cases g;exact⟨e,l,k,m,d⟩
theorem y4.unpinned {Z:St} (I:y4 X (a++pl) Z H s):y4 X a Z H s:=I.pins_of λp b=>I.pin p (Da _ (Fa _ b))
theorem QX {V:kc} (F:rS (aI X.prog X.w) X.A X.env X.xe) (hc:X.calm=ag) (hi:PI X tg t wi) (hg:PG X tg g) (p:CD X z tb) (hs:∀x,dr t X.env x=bE x:=by intro _;rfl):PS X (.For tg t z [] V) (Zy wi g tb):=by
 intro a s Z H D I h;refine wpAny_For (z3 (hi a s Z H _ I h) λv s1 h1=>z3 h1 λitv s2 h2=>?_) hs;obtain⟨it,P,tn,J,H2,e,I2,T,st2,f2,W,⟨m0,w0⟩,Q⟩:=h2;subst e
 have k:∀{H':Hp},(∀b∈P,H' b=af)->∀b∈P,qd X a H' b:=λhn b p=>⟨hn b p,(f2 b p).2⟩;refine codeAny_forLoop_any (λn s'=>∃i K H',y4 X a K H' s'/\tn i s'.heap/\(∀b∈P,H' b=af)/\W i n K H') ?_ m0 ⟨0,Z,H2,I2,st2,λb p=>(f2 b p).1,w0⟩;rintro n s3 ⟨i,E,H3,I3,G,M,w3⟩;rcases Q i n E H3 w3 with ⟨L,qn⟩ | ⟨go,N,hN,C⟩
 .refine LX F (z3 (T.done X rfl rfl rfl hc i a s3 E H3 X.xe I3 (k M) G L) λr s4 ⟨Y,I4⟩=>?_);subst Y;exact fv ⟨E,H3,I4,qn⟩
 refine LX F (z3 (T.item X rfl rfl rfl hc i a s3 E H3 X.xe I3 (k M) G go) λr s4 ⟨u,Y,h4⟩=>?_);subst Y;refine LX F (z3 h4 λ_ s5 ⟨x,H5,I5,r5,y5,B,U⟩=>?_);have S:=I5.pinned (k U) (T.obj _ _ B);refine LX F (z3 (hg _ s5 E H5 x u _ S r5 (C x H5 y5)) λ_ s6 ⟨Z6,H6,I6,q6⟩=>?_);refine LX F (z3 (p _ s6 Z6 H6 _ I6 q6) λf R y=>?_);have j:∀{q:St} {l:Hp},y4 X (a++nP P s5.heap) q l R->N q l->∃m,m<n/\∃i K H',y4 X a K H' R/\tn i R.heap/\(∀b∈P,H' b=af)/\W i m K H':=λ{q l} c O=>by obtain⟨m',hm,w7⟩:=hN q l O;refine⟨m',hm,i+1,q,l,c.unpinned,T.keep _ _ _ B λb p o e=>(c.pin (b,o) (Da _ (Da _ (gU p e)))).1,λb p=>?_,w7⟩;obtain⟨o,e,d⟩:=T.obj _ _ B b p;exact (c.pin (b,o) (Da _ (Da _ (gU p e)))).2.1
 cases f with
 |next=>obtain⟨q,l,c,O⟩:=y;exact j c O
 |cont=>obtain⟨q,l,c,O⟩:=y;exact j c O
 |brk=>obtain⟨q,l,c,y⟩:=y;exact⟨q,l,c.unpinned,y⟩
 |ret v=>obtain⟨x7,q,l,c,r7,y⟩:=y;exact⟨x7,q,l,c.unpinned,r7,y⟩
end
abbrev R2:=V->V->Hp->VK->Prop
def AO (X:Cx) (f:av->av->Sem av) (r:R2):Prop :=
 ∀(a:List (ah × dP)) (s:aE) (Z:St) (H:Hp) (x y:V) (v u:av) (Q:VK),y4 X a Z H s->zh x v->zh y u->r x y H Q ->
  ax (aI X.prog X.w) X.A (f v u) (EP X a Z Q) X.xe s
def Re (X:Cx) (f:av->Sem av) (r:V->Hp->VK->Prop):Prop :=
 ∀(a:List (ah × dP)) (s:aE) (Z:St) (H:Hp) (x:V) (v:av) (Q:VK),y4 X a Z H s->zh x v->r x H Q ->
  ax (aI X.prog X.w) X.A (f v) (EP X a Z Q) X.xe s
def Cf (X:Cx) (f:av) (r:List V->Hp->VK->Prop):Prop :=
 ∀(a:List (ah × dP)) (s:aE) (Z:St) (H:Hp) (xs:List V) (us:List av) (Q:VK),y4 X a Z H s->y7 xs us->r xs H Q ->
  ax (aI X.prog X.w) X.A (jS f us) (EP X a Z Q) X.xe s
def Zz (X:Cx) (r:V->Hp->(Bool->Hp->Prop)->Prop):Prop :=
 ∀(a:List (ah × dP)) (s:aE) (Z:St) (H:Hp) (x:V) (v:av) (Q:Bool->Hp->Prop),y4 X a Z H s->zh x v->r x H Q ->
  ax (aI X.prog X.w) X.A (truthy v) (TP X a Z Q) X.xe s
def OA (r:R2) (a b:TE):TE:=λZ H Q=>a Z H λx c=>b Z c λy d=>r x y d Q
def WA (r:V->Hp->VK->Prop) (a:TE):TE:=λZ H Q=>a Z H λx b=>r x b Q
def rI (C:Int->Int->Prop) (g:Int->Int->V):R2:=λx y H Q=>∃i j,x=.int i/\y=.int j/\C i j/\Q (g i j) H
def FY (g:Int->Int->V):R2:=λx y H Q=>∃i j,x=.int i/\y=.int j/\Q (g i j) H
def rU (g:Int->V):V->Hp->VK->Prop:=λx H Q=>∃i,x=.int i/\Q (g i) H
section
variable {X:Cx}{a b c:Expr}
theorem QZ (o:PE X a ta) (k:PE X b tb) {c:List (ah × dP)}{Z:St}{R:V->V->Hp->Prop} (I:y4 X c Z H s) (h:ta Z H λx j=>tb Z j λy d=>R x y d) {f:av->av->Sem av} (l:∀v u i x y d,y4 X c Z d i->zh x v->zh y u->R x y d->ax (aI X.prog X.w) X.A (f v u) Q X.xe i):
  ax (aI X.prog X.w) X.A (bo a X.env) (λv e=>ax (aI X.prog X.w) X.A (bo b X.env) (λu g=>ax (aI X.prog X.w) X.A (f v u) Q X.xe g) X.xe e) X.xe s:=by
 refine z3 (o c s Z H _ I h) λv m ⟨x,j,n,q,p⟩=>?_;refine z3 (k c m Z j _ n p) λu i ⟨y,d,z,t,r⟩=>?_;exact l v u i x y d z q t r
theorem V3 (e:AO X (br d) r) (l:PE X a ta) (f:PE X b tb):PE X (.BinOp a d b ZT) (OA r ta tb):=by
 intro c s Z H Q I h;exact wpAny_BinOp (QZ l f I h λv u g x y j m k i q=>e c g Z j x y v u Q m k i q)
theorem V4 {c:UnaryOp} (d:Re X (unaryOp c) r) (g:PE X a ta):PE X (.UnaryOp c a ZT) (WA r ta):=by
 intro b s Z H Q I h;exact UnaryOp_ (z3 (g b s Z H _ I h) λv f ⟨x,e,k,j,i⟩=>d b f Z e x v Q k j i)
theorem Kx {g:Int->Int->Int} (a:∀(i j:Int) (t u:Tok) (s:aE) (Q:av->aE->Prop) (E:av->aE->Prop),C i j->Q (.int (g i j) s.toks) { s with toks:=s.toks+1}->ax (aI X.prog X.w) X.A (f (.int i t) (.int j u)) Q E s):
  AO X f (rI C λi j=>.int (g i j)):=by
 intro b s Z H x y v u Q I d c h;obtain⟨i,j,rfl,rfl,e,q⟩:=h;obtain⟨t,rfl⟩:=d;obtain⟨t',rfl⟩:=c;exact a i j t t' s _ _ e ⟨.int (g i j),H,I.tok _,⟨_,rfl⟩,q⟩
theorem Jv {g:Int->Int->Int} (a:∀(i j:Int) (t u:Tok) (s:aE) (Q:av->aE->Prop) (E:av->aE->Prop),Q (.int (g i j) s.toks) { s with toks:=s.toks+1}->ax (aI X.prog X.w) X.A (f (.int i t) (.int j u)) Q E s):
  AO X f (FY λi j=>.int (g i j)):=by
 intro b s Z H x y v u Q I d c h;obtain⟨i,j,rfl,rfl,q⟩:=h;obtain⟨t,rfl⟩:=d;obtain⟨t',rfl⟩:=c;exact a i j t t' s _ _ ⟨.int (g i j),H,I.tok _,⟨_,rfl⟩,q⟩
theorem Jw {g:Int->Int->Bool} (a:∀(i j:Int) (t u:Tok) (s:aE) (Q:av->aE->Prop) (E:av->aE->Prop),Q (.bool (g i j)) s->ax (aI X.prog X.w) X.A (f (.int i t) (.int j u)) Q E s):
  AO X f (FY λi j=>.bl (g i j)):=by
 intro b s Z H x y v u Q I d c h;obtain⟨i,j,rfl,rfl,q⟩:=h;obtain⟨t,rfl⟩:=d;obtain⟨t',rfl⟩:=c;exact a i j t t' s _ _ ⟨.bl (g i j),H,I,rfl,q⟩
def Jx (i j:Int):Prop:=0<=j/\j<=1000000/\i.natAbs<2^64
def Lv (i j:Int):Prop:=(-(2^64)<i/\i<2^64)\/(-(2^64)<j/\j<2^64)
theorem Lv.ok (h:Lv i j):x6 i j:=by
 rcases h with ⟨b,a⟩ | ⟨b,a⟩
 .exact .of_left (xb b a)
 exact .of_right (xb b a)
theorem xm (k:Nat):(0:Int)<=2^k:=by
 rw[two_pow_cast];exact Lc _
theorem ZI:AO X (br .Add) (FY λi j=>.int (i+j)):=Jv λ_ _ _ _ _ _ _ q=>add_int q
theorem Q0:AO X (br .Sub) (FY λi j=>.int (i - j)):=Jv λ_ _ _ _ _ _ _ q=>sub_int q
theorem Q4:AO X (br .Mult) (rI Lv λi j=>.int (i*j)):=Kx λ_ _ _ _ _ _ _ a q=>mul_int q a.ok
theorem Q5:AO X (br .Mod) (rI (λ_ j=>0<j) λi j=>.int (i%j)):=Kx λi j _ _ _ _ _ a q=>by
 have b:(0:Int)<j:=a;exact mod_int' yT (by rw[Int.fmod_eq_emod_of_nonneg i yT];exact q)
theorem Q6:AO X (br .Pow) (rI Jx λi j=>.int (i^j.toNat)):=Kx λ_ _ _ _ _ _ _ a q=>pow_int_small a.1 a.2.1 a.2.2 q
theorem Q7:AO X (br .LShift) (rI Jx λi j=>.int (i*2^j.toNat)):=Kx λ_ _ _ _ _ _ _ a q=>lshift_int_small a.1 a.2.1 a.2.2 q
theorem Q8:AO X (br .RShift) (rI (λ_ j=>0<=j) λi j=>.int (i / 2^j.toNat)):=Kx λi j _ _ _ _ _ a q =>
 rshift_int a (by rw[hU i (xm _)];exact q)
theorem Q9:AO X (br .BitAnd) (FY λi j=>.int (a5 i j)):=Jv λ_ _ _ _ _ _ _ q=>and_int q
theorem V5:AO X (br .BitOr) (FY λi j=>.int (eg i j)):=Jv λ_ _ _ _ _ _ _ q=>or_int q
theorem WG {g:Int->Int} (a:∀(i:Int) (t:Tok) (s:aE) (Q:av->aE->Prop) (E:av->aE->Prop),Q (.int (g i) s.toks) { s with toks:=s.toks+1}->ax (aI X.prog X.w) X.A (f (.int i t)) Q E s):
  Re X f (rU λi=>.int (g i)):=by
 intro b s Z H x v Q I c h;obtain⟨i,rfl,q⟩:=h;obtain⟨t,rfl⟩:=c;exact a i t s _ _ ⟨.int (g i),H,I.tok _,⟨_,rfl⟩,q⟩
theorem Ra:Re X (unaryOp .USub) (rU λi=>.int (-i)):=WG λ_ _ _ _ _ q=>neg_int q
end
def nQ:V->V->Bool
 |.non,.non=>ag | .non,.int _=>ag | .int _,.non=>ag | .non,.bl _=>ag | .bl _,.non=>ag | .non,.str _=>ag | .str _,.non=>ag
 |.int _,.int _=>ag | .bl _,.bl _=>ag | .str _,.str _=>ag | .byt _,.byt _=>ag
 |.int _,.str _=>ag | .str _,.int _=>ag | .bl _,.str _=>ag | .str _,.bl _=>ag
 |_,_=>am
section
variable {X:Cx}{a b c:Expr}
theorem nR {a:List (ah × dP)}{Z:St}{k b:Bool} (I:y4 X a Z H s) (q:Q (.bl k) H) (e:k=b):EP X a Z Q (.bool b) s:=by
 subst e;exact⟨.bl k,H,I,rfl,q⟩
theorem V6:AO X (be .Lt) (FY λi j=>.bl (decide (i<j))):=Jw λ_ _ _ _ _ _ _ q=>lt_int q
theorem V7:AO X (be .LtE) (FY λi j=>.bl (decide (i<=j))):=Jw λ_ _ _ _ _ _ _ q=>le_int q
theorem V8:AO X (be .Gt) (FY λi j=>.bl (decide (j<i))):=Jw λ_ _ _ _ _ _ _ q=>gt_int q
theorem V9:AO X (be .GtE) (FY λi j=>.bl (decide (j<=i))):=Jw λ_ _ _ _ _ _ _ q=>ge_int q
theorem Bt:AO X (be .In) (λx y H Q=>∃i j,x=.str i/\y=.str j/\Q (.bl (!(bp j i 0 j.length 1).isEmpty)) H):=by
 intro a s Z H x y v u Q I c b h;obtain⟨i,j,rfl,rfl,q⟩:=h;obtain⟨t,rfl⟩:=c;obtain⟨t',rfl⟩:=b;exact in_str (nR I q rfl)
theorem Rb:AO X (be .Is) (λx y H Q=>y=.non/\Q (.bl (decide (x=.non))) H):=by
 intro b s Z H x y v u Q I a c h;obtain⟨rfl,q⟩:=h;cases c;refine is_none_gen (nR I q ?_);cases x <;> first
  | (cases a;rfl)
  | (obtain⟨t,rfl⟩:=a;rfl)
theorem Jy:AO X (be .IsNot) (λx y H Q=>y=.non/\Q (.bl (!decide (x=.non))) H):=by
 intro b s Z H x y v u Q I a c h;obtain⟨rfl,q⟩:=h;cases c;refine isnot_none_gen (nR I q ?_);cases x <;> first
  | (cases a;rfl)
  | (obtain⟨t,rfl⟩:=a;rfl)
theorem sE:AO X (be .NotIn) (λx y H Q=>∃i j,x=.str i/\y=.str j/\Q (.bl (!(!(bp j i 0 j.length 1).isEmpty))) H):=by
 intro a s Z H x y v u Q I c b h;obtain⟨i,j,rfl,rfl,q⟩:=h;obtain⟨t,rfl⟩:=c;obtain⟨t',rfl⟩:=b;exact notIn_str (nR I q rfl)
theorem AO.or (h:AO X f r) (h':AO X f d):AO X f (λx y H Q=>r x y H Q\/d x y H Q):=by
 intro a s Z H x y v u Q I c b q;rcases q with q | q
 .exact h a s Z H x y v u Q I c b q
 exact h' a s Z H x y v u Q I c b q
theorem DK (b:Expr) {a:yk}(h:a≠.In:=by decide) (c:a≠.NotIn:=by decide):cr a b=am:=by
 have e:(a==CmpOp.In)=am:=by cases a <;> first | rfl | exact As rfl h
 have d:(a==CmpOp.NotIn)=am:=by cases a <;> first | rfl | exact As rfl c
 cases b <;> simp [cr,e,d]
theorem Jz (e:AO X (be d) r) (m:PE X a ta) (f:PE X b tb) (i:cr d b=am):PE X (.Compare a [d] [b] ZT) (OA r ta tb):=by
 intro c s Z H Q I h;exact wpAny_Compare1 (QZ m f I h λv u g x y k n l j q=>e c g Z k x y v u Q n l j q) i
def Wa (t:TE):TT:=λZ H Q=>t Z H λx H'=>∃k,x=.bl k/\Q k H'
theorem JB (A:AO X (be f) r) (E:PE X a ta) (t:PE X b tb) (n:cr f b=am):PT X (.Compare a [f] [b] ZT) (Wa (OA r ta tb)):=by
 intro d s Z H Q I h;refine k5 (z3 (E d s Z H _ I h) λv C ⟨x,g,q,p,o⟩=>z3 (t d C Z g _ q o) λu i ⟨y,D,m,w,F⟩ =>
  z3 (A d i Z D x y v u _ m p w F) λc G ⟨z,H3,l,j,k,e,B⟩=>?_) n
 subst e;cases j;exact L6 ⟨H3,l,B⟩
def Wb (K:a3) (x:V) (H:Hp) (k:Bool):Prop :=
 match x with
 |.non=>k=am
 |.bl b=>k=b
 |.int i=>k=(i != 0)
 |.str y=>y.length<=ai/\k=((y.length:Int) != 0)
 |.byt y=>y.size<=ai/\k=((y.size:Int) != 0)
 |.ref p=>(∃xs,A8 K H p xs/\k=!xs.isEmpty)\/(∃xs,A0 K H p xs/\k=!xs.isEmpty)\/∃kvs,H p=ab (.dK kvs)/\k=!kvs.isEmpty
 |_=>False
theorem xn {a:Type}{kvs:List (a × V)}{vs:List (a × av)}(r:KV kvs vs):(!vs.isEmpty)=!kvs.isEmpty:=by
 cases r <;> rfl
theorem nT {a:List av} (r:y7 xs a):(!a.toArray.isEmpty)=!xs.isEmpty:=by
 cases r <;> simp
theorem eV:(ai:Nat)<2^63:=by rw[Ll];decide
theorem Rc:Zz X (λx H Q=>∃k,Wb X.K x H k/\Q k H):=by
 intro j s Z H x v Q I d h;obtain⟨k,e,q⟩:=h;have o:=eV;have u:ai=16777216:=Ll;cases x with
 |non=>cases d;have a:k=am:=e;subst a;exact truthy_none ⟨H,I,q⟩
 |bl b=>cases d;have a:k=b:=e;subst a;exact L6 ⟨H,I,q⟩
 |int i=>obtain⟨t,rfl⟩:=d;have a:k=(i != 0):=e;subst a;exact PySem.P.truthy_int ⟨H,I,q⟩
 |str y=>obtain⟨t,rfl⟩:=d;obtain⟨l,a⟩:y.length<=ai/\k=((y.length:Int) != 0):=e;subst a;exact PySem.P.truthy_str yT ⟨H,I.tok _,q⟩
 |byt y=>obtain⟨t,rfl⟩:=d;obtain⟨l,a⟩:y.size<=ai/\k=((y.size:Int) != 0):=e;subst a;exact PySem.W.truthy_bytes yT ⟨H,I.tok _,q⟩
 |ref p =>
  cases d;have a:(∃xs,A8 X.K H p xs/\k=!xs.isEmpty)\/(∃xs,A0 X.K H p xs/\k=!xs.isEmpty)\/∃kvs,H p=ab (.dK kvs)/\k=!kvs.isEmpty:=e;rcases a with ⟨xs,f,a⟩ | ⟨xs,f,a⟩ | ⟨kvs,f,a⟩
  .subst a;obtain⟨g,r,pl,hz⟩:=I.list f;have c:=r.length;exact wpAny_truthy_list pl.isList (by simp only[p_];omega) ⟨H,I.tok _,by rw[nT r];exact q⟩
  .subst a;obtain⟨g,r,pl,hz⟩:=I.tuple f;have c:=r.length;exact truthy_tuple pl (by simp only[p_];omega) ⟨H,I.tok _,by rw[nT r];exact q⟩
  subst a;obtain⟨hz,n,vs,r,m⟩:kvs.length<=ai/\(p==dE)=am/\∃vs,KV kvs vs/\s.heap.DictOf (bA X.prog X.w) p vs:=I.hok p _ f;have c:kvs.length=vs.length:=FK r;exact wpAny_truthy_dict n m yT ⟨H,I.tok _,by rw[xn r];exact q⟩
 |_=>exact (show False from e).elim
theorem XG:AO X (br .Add) (λx y H Q=>∃i j,x=.str i/\y=.str j/\i.length+j.length<=ai/\Q (.str (i++j)) H):=by
 intro a s Z H x y v u Q I c b h;obtain⟨i,j,rfl,rfl,hz,q⟩:=h;obtain⟨t,rfl⟩:=c;obtain⟨t',rfl⟩:=b;exact add_str (λt' tk=>⟨.str (i++j),H,I.tok _,⟨_,rfl⟩,q⟩) hz
theorem AQ (r:y7 [x] us):∃u,us=[u]/\zh x u:=by
 cases r with
 |cons b a=>cases a;exact⟨_,rfl,b⟩
theorem JJ (r:y7 [x,y] us):∃u a,us=[u,a]/\zh x u/\zh y a:=by
 cases r with
 |cons d e =>
 cases e with
 |cons b c=>cases c;exact⟨_,_,rfl,d,b⟩
theorem Bu:Cf X (.type "int") (λxs H Q=>(∃i,xs=[.int i]/\Q (.int i) H)\/∃k,xs=[.bl k]/\Q (.int (if k then 1 else 0)) H):=by
 intro a s Z H xs us Q I r h;rcases h with ⟨i,rfl,q⟩ | ⟨k,rfl,q⟩
 .obtain⟨u,rfl,t,rfl⟩:=AQ r;exact call_int_int ⟨.int i,H,I,⟨_,rfl⟩,q⟩
 obtain⟨u,rfl,b⟩:=AQ r;cases b;exact call_int_bool ⟨.int (if k then 1 else 0),H,I.tok _,⟨_,rfl⟩,q⟩
end
structure LI (h:cK) (x dx C:ah) (mA:ap->Option av):Prop where
 obj:h.get? x=ab (io C dx)
 ns:h.Ns1 dx mA
 ne:dx≠x
theorem Bv {h:cK} (n:h.Ns1 c g):∃f,h.get? c=ab f/\∀name,xD name f=ab (g name):=by
 obtain⟨o,d,ep,i,j,p,_,k⟩:=n;refine⟨o,i,λname=>?_⟩;have e:=k name;unfold nsFind findBy at e;rw[<- Array.find?_toList] at e;unfold xD;rw[j];dsimp only;split
 .rename_i y q;rw[q] at e;exact Q_ ab e
 rename_i q;rw[q] at e;have a:d.toList.any (·.refKey)=am:=by rw[List.any_eq_false];intro y l;obtain⟨z,t,b⟩:=p y (Array.mem_toList_iff.mp l);simp [DictEntry.refKey,b]
 have m:¬d.toList.any (·.refKey)=ag:=by rw[a];exact B_
 rw[y9 m];exact Q_ ab e
theorem LI.look (I:LI h x b C c):∃a,InstAt h x (io C b) C (ab a)/\∀name,xD name a=ab (c name) :=
 let ⟨a,ho,hl⟩:=Bv I.ns
 ⟨a,⟨I.obj,rfl,rfl,ho⟩,hl⟩
section
variable {s:aE}{K:a3}
theorem JC (X:K.In s.heap) (I:LI s.heap x dx C mA) (g:oI K C name=ag) (c:rf K C=ag) (f:i5 K (.ref C) name=ab af) (e:mA name=ab v) (b:x4 v=ag) (h:Q v { s with toks:=s.toks+1}):
  ax (aI prog w) A (getAttr (.ref x) name a) Q E s:=by
 obtain⟨i,J,d⟩:=I.look;exact PySem.W.get_value X J (lp g).1 (PySem.W.findObj_own c f rfl (by rw[d,e])) b h
theorem DN (X:K.In s.heap) (I:LI s.heap x dx C mA) (a:oI K C name=ag) (b:i5 K (.ref C) name=ab (ab (.ref f))) (c:isFn K (.ref f)=ag) (g:mA name=af) (h:Q (.ref f,[.ref x]) s):
  ax (aI prog w) A (rh (.ref x) name pl) Q E s:=by
 obtain⟨e,J,d⟩:=I.look;exact PySem.W.method_fn X J (lp a).1 (lp a).2 b (Gc.mp c) (by show (xD name e).map (·.isSome)=ab am;rw[d,g];rfl) h
theorem JD (X:K.In s.heap) (I:LI s.heap x dx C mA) (p:i5 K (.ref C) "__setattr__"=ab (ab (.builtin "object.__setattr__"))) (m:xw K C=ag) (n:xB K C name=ab af) (k:rf K C=ag) (o:kF mA ns) (hsz:ns.length<=ai) (h:∀h',LI h' x dx C (λy=>if y=name then ab v else mA y)->dA dx s.heap h'->Q () { s with heap:=h',toks:=s.toks+2}):
  ax (aI prog w) A (setAttr (.ref x) name v) Q E s:=by
 obtain⟨z,J,u⟩:=I.look;refine PySem.W.set_plain X J p (PySem.W.osa_open (s:={ s with toks:=s.toks+1}) (r:=af) X J m n λb=>?_);obtain⟨B,t,f⟩:=PySem.W.any_some k;have j:s.heap.get? x=ab ⟨.ref C,ab dx,.plain,#[]⟩:=I.obj;refine a_ (h_ (a_ (a_ (wpAny_loadPart j (a_ (PySem.W.Looks.here (s:={ s with toks:=s.toks+1}) (PySem.W.looks_clsIn X t) ?_))))));rw[f];refine h_ (a:=ab dx) (a_ (h_ (a_ ?_)));refine wpAny_nsSet1 (s:={ s with toks:=s.toks+1}) I.ns λh' c d=>?_;obtain⟨oD,q,l,g,e,i⟩:=c.count (PySem.Within.cons name v o);refine a_ (wpAny_lookBehind g (by rw[e];exact pastItsLine_dict (U_ i (by rw[j_];omega))) ?_);exact h_ (h _ ⟨(d.2 _ (aS I.ne)).trans I.obj,c,I.ne⟩ d)
theorem DP (X:K.In s.heap) (e:makesIn K C=ag) (i:i5 K (.ref C) "__init__"=ab (ab (.ref f))) (c:typeIn K (.ref f)=ab (.type "function")) (h:dy (aI prog w) (A.under (.builtin "type.__call__" ⟨.ref C::vs,b⟩)) (.call (.ref f) ⟨.ref (s.heap.objs.size+1)::vs,b⟩) (PySem.W.InitBack (s.heap.objs.size+1) R)
   { s with heap:=(s.heap.push eA).push (io C s.heap.objs.size)}):
  dy (aI prog w) A (.call (.ref C) ⟨vs,b⟩) R s:=by
 obtain⟨j,g,d,t,k⟩:=s;exact PySem.W.make_core (PySem.W.makes_of X e) (PySem.W.looks_findIn X i) (λa=>PySem.W.bind_fn X a c) (.inl rfl) h
end
def gW (f:ap) (v:V):List (ap × V)->List (ap × V)
 |[]=>[(f,v)]
 | (g,x)::r=>if g=f then (g,v)::r else (g,x)::gW f v r
theorem lN (f g:ap) (v:V):∀c:List (ap × V),(gW f v c).lookup g=if g=f then ab v else c.lookup g
 |[]=>by
  show ey g [(f,v)]=_
  by_cases h:g=f
  ·
   have a:(g==f)=ag:=Gc.mpr h
   simp only[ey,a,zi h]
  ·
   have a:(g==f)=am:=IH.mpr h
   simp only[ey,a,y9 h]
 | (k,x)::r=>by
  have d:=lN f g v r
  rw[show gW f v ((k,x)::r)=(if k=f then (k,v)::r else (k,x)::gW f v r) from rfl]
  by_cases b:k=f
  ·
   rw[zi b]
   by_cases h:g=k
   ·
    have a:(g==k)=ag:=Gc.mpr h
    simp only[ey,a,zi (h.trans b)]
   ·
    have a:(g==k)=am:=IH.mpr h
    simp only[ey,a,y9 (λe:g=f=>h (e.trans b.symm))]
  ·
   rw[y9 b]
   by_cases h:g=k
   ·
    have a:(g==k)=ag:=Gc.mpr h
    simp only[ey,a,y9 (λe:g=f=>b (h.symm.trans e))]
   ·
    have a:(g==k)=am:=IH.mpr h
    simp only[ey,a]
    exact d
theorem kW (f:ap) (v:V):∀a:List (ap × V),f∈(gW f v a).map (·.1)/\∀g,g∈a.map (·.1)->g∈(gW f v a).map (·.1)
 |[]=>⟨by simp [gW],λg h=>by simp at h⟩
 | (k,x)::r=>by
  obtain⟨c,d⟩:=kW f v r
  rw[show gW f v ((k,x)::r)=(if k=f then (k,v)::r else (k,x)::gW f v r) from rfl]
  by_cases b:k=f
  ·
   rw[zi b]
   subst b
   exact⟨ze,λg h=>by simpa using h⟩
  ·
   rw[y9 b]
   refine⟨?_,λg h=>?_⟩
   ·
    rw[z_]
    exact A_ _ c
   ·
    rw[z_] at h |-
    rcases o_.mp h with e | e
    ·
     exact o_.mpr (.inl e)
    ·
     exact A_ _ (d g e)
theorem lO (f:ap) (v:V):∀a:List (ap × V),(gW f v a).length<=a.length+1
 |[]=>by simp [gW]
 | (k,x)::r=>by
  have c:=lO f v r
  rw[show gW f v ((k,x)::r)=(if k=f then (k,v)::r else (k,x)::gW f v r) from rfl]
  by_cases b:k=f
  ·
   rw[zi b,j_,j_];omega
  ·
   rw[y9 b,j_,j_];omega
theorem C9.some_of (r:C9 (ab v) o):∃u,o=ab u/\zh v u:=by
 cases o with
 |none=>exact (show False from r).elim
 |some u=>exact⟨u,rfl,r⟩
theorem C9.none_of (r:C9 af o):o=af:=by
 cases o with
 |none=>rfl
 |some u=>exact (show False from r).elim
theorem Bw (r:zh v u):x4 u=ag:=by
 cases v with
 |non=>cases (show u=bg from r);rfl
 |bl b=>cases (show u=ff b from r);rfl
 |int i=>obtain⟨t,e⟩:=(show ∃t,u=da i t from r);cases e;rfl
 |str x=>obtain⟨t,e⟩:=(show ∃t,u=rL x t from r);cases e;rfl
 |byt b=>obtain⟨t,e⟩:=(show ∃t,u=Value.bytes b t from r);cases e;rfl
 |flt b=>obtain⟨t,e⟩:=(show ∃t,u=Value.float b t from r);cases e;rfl
 |ref a=>cases (show u=a8 a from r);rfl
 |ty n=>cases (show u=ci n from r);rfl
section
variable {P:bX}{w:bP}
theorem sG (c:A9 P w H h) (e:H a=ab (.ins C dx fs)):∃b,LI h a dx C b/\(∀f,C9 (fs.lookup f) (b f))/\kF b (fs.map (·.1))/\fs.length<=1000/\H dx=ab (.own a):=by
 obtain⟨d,z,g,i,b,n,r,q⟩:=(show Bz P w H h a (.ins C dx fs) from c a _ e);exact⟨b,⟨i,n,g⟩,r,q,z,d⟩
end
structure FO (K:a3) (C:ah):Prop where
 pg:oI K C Str.empty=ag
 hd:rf K C=ag
 po:xw K C=ag
 sa:i5 K (.ref C) "__setattr__"=ab (ab (.builtin "object.__setattr__"))
theorem FO.get {K:a3} (c:FO K C) (f:ap):oI K C f=ag:=c.pg
def L4 (K:a3) (C:ah) (f:ap):Prop:=i5 K (.ref C) f=ab af
theorem L4.taker {K:a3} (n:L4 K C f):xB K C f=ab af:=by
 unfold xB;rw[show i5 K (.ref C) f=ab af from n];rfl
structure IT (K:a3) (C:ah) (m:ap) (f:ah):Prop where
 at_:i5 K (.ref C) m=ab (ab (.ref f))
 fn:isFn K (.ref f)=ag
 kp:kx K (.ref f)=ag
section
variable {X:Cx}{ZO:List (ah × dP)}{Z:St}
theorem xq (I:y4 X ZO Z H s) (e:H a=ab (.ins C dx fs)) (c:FO X.K C) (n:L4 X.K C f) (l:fs.lookup f=ab v) (h:∀u s',y4 X ZO Z H s'->zh v u->Q u s'):ax (aI X.prog X.w) A (getAttr (.ref a) f b) Q E s:=by
 obtain⟨g,O,r,_,_,_⟩:=sG I.hok e;obtain⟨u,i,d⟩:=C9.some_of (v:=v) (o:=g f) (by rw[<- l];exact r f);exact JC I.kIn O (c.get f) c.hd n i (Bw d) (h u _ (I.tok _) d)
theorem xu (I:y4 X ZO Z H s) (e:H a=ab (.ins C dx fs)) (c:FO X.K C) (k:IT X.K C m g) (l:fs.lookup m=af) (h:Q (.ref g,[.ref a]) s):ax (aI X.prog X.w) A (rh (.ref a) m pl) Q E s:=by
 obtain⟨d,O,r,_,_,_⟩:=sG I.hok e;have b:d m=af:=C9.none_of (by rw[<- l];exact r m);exact DN I.kIn O (c.get m) k.at_ k.fn b h
theorem xx (I:y4 X ZO Z H s) (e:H a=ab (.ins C dx fs)) (c:FO X.K C) (n:L4 X.K C f) (B:fs.length<1000) (p:zh y u) (h:∀s',y4 X ZO Z (zw H a (.ins C dx (gW f y fs))) s'->Q () s'):ax (aI X.prog X.w) A (setAttr (.ref a) f u) Q E s:=by
 obtain⟨k,O,r,j,_,i⟩:=sG I.hok e;have hz:(fs.map (·.1)).length<=ai:=by rw[d_,Ll];omega
 refine JD I.kIn O c.sa c.po n.taker c.hd j hz λh' d v=>h _ ?_;have m:∃o,h'.get? dx=ab o:=let ⟨o,_,_,e',_⟩:=d.ns;⟨o,e'⟩;refine I.write (x:=a) (e:=dx) (by rw[e];exact eu) (.inr i) (λb q l z=>(v.2 b l).trans z) m ?_;refine⟨by rw[aY O.ne];exact i,?_,O.ne,d.obj,_,d.ns,λg=>?_,λg t=>?_⟩
 .have:=lO f y fs;omega
 .show C9 ((gW f y fs).lookup g) (if g=f then ab u else k g);rw[lN];by_cases q:g=f
  .rw[zi q,zi q];exact p
  rw[y9 q,y9 q];exact r g
 by_cases q:g=f
 .rw[q];exact (kW f y fs).1
 refine (kW f y fs).2 g (j g λz=>t ?_);show (if g=f then ab u else k g)=af;rw[y9 q];exact z
theorem y4.made (I:y4 X ZO Z H s):y4 X ZO Z (zw (zw H s.heap.objs.size (.own (s.heap.objs.size+1))) (s.heap.objs.size+1) (.ins C s.heap.objs.size []))
  { s with heap:=(s.heap.push eA).push (io C s.heap.objs.size)}:=by
 have d:(s.heap.push eA).get? s.heap.objs.size=ab eA:=t_ s.heap rfl;have g:((s.heap.push eA).push (io C s.heap.objs.size)).get? (s.heap.objs.size+1)=ab (io C s.heap.objs.size):=by
  have:=t_ (s.heap.push eA) (o:=io C s.heap.objs.size) rfl
  rwa [GB] at this
 have f:(s.heap.push eA).Ns s.heap.objs.size (λ_=>af):=⟨eA,#[],_,d,rfl,(λe i=>As i ze),λ_=>rfl⟩;have h:=I.laid (a:=s.heap.objs.size) (o:=.own (s.heap.objs.size+1)) (h':=s.heap.push eA) (t':=s.toks) (λb u q=>e_ _ q) (l_ _) ⟨_,d⟩;refine h.laid (a:=s.heap.objs.size+1) (o:=.ins C s.heap.objs.size []) (t':=s.toks) (λb u q=>e_ _ q) (EQ (GB _ _)) ?_;have c:s.heap.objs.size≠s.heap.objs.size+1:=P_ (IL _);refine⟨by rw[aY c,bR],B6 _,c,g,λ_=>af,(Heap.Ns1.of_empty f).at λo q=>e_ _ q,λ_=>eu,λy j=>As rfl j⟩
theorem JF {a:kc} (b:cS e f env (bo e env)=bo e env) (h:ax (aI prog w) A (bo e env) (λo s₁=>ax (aI prog w) A (getAttr o f ag) Q E s₁) E s):ax (aI prog w) A (bo (.Attribute e f a) env) Q E s :=
 Attribute_any_ h (by rw[arm_eval_Attribute,b])
end
def ZC (K:a3) (d:TE) (f:ap):TE:=λZ H Q=>d Z H λx b=>∃a C e c v,x=.ref a/\b a=ab (.ins C e c)/\FO K C/\L4 K C f/\c.lookup f=ab v/\Q v b
def ZD (K:a3) (h g:TE) (f:ap):TS:=λD Z H=>g Z H λy e=>h Z e λx d=>∃a C c b,x=.ref a/\d a=ab (.ins C c b)/\FO K C/\L4 K C f/\b.length<1000 /\
 D.nx Z (zw d a (.ins C c (gW f y b)))
theorem Rf (o:PE X e ta) (d:cS e f X.env (bo e X.env)=bo e X.env):PE X (.Attribute e f ZT) (ZC X.K ta f):=by
 intro b s Z H Q I h;refine JF d (z3 (o b s Z H _ I h) λu y ⟨x,i,k,m,a,C,t,z,v,j,g,c,n,l,q⟩=>?_);subst j;obtain rfl:u=a8 a:=m;exact xq k g c n l λA w r p=>⟨v,i,r,p,q⟩
theorem Rg (z:PE X o ta) (m:PE X value tv) (w:d6 value (ab (.Attribute o f b')) ZT.line X.env=bE am):PS X (.Assign [.Attribute o f b'] value ZT) (ZD X.K ta tv f):=by
 intro b s Z H D I h;refine plainObj_wpAny_Assign_Attribute (z3 (m b s Z H _ I h) λu v ⟨y,d,p,t,q⟩=>z3 (z b v Z d _ p q) λj B ⟨x,J,k,i,a,C,E,F,r,e,c,n,l,A⟩=>?_) w;subst r;obtain rfl:j=a8 a:=i;exact xx k e c n l t λG g=>⟨Z,_,g,A⟩
structure Pr (k:Nat) (A:eD):Prop where
 hd:A.handled=af
 dp:A.depth+3*k+5<tP
 un:A.units+16*k+200<db
 gd:A.guards=ab []
theorem Pr.mono (r:Pr k A) (h:j<=k):Pr j A:=⟨r.hd,by have:=r.dp;omega,by have:=r.un;omega,r.gd⟩
theorem Pr.deeper (r:Pr (k+1) A) (env:x8):Pr k (A.deeper env) :=
 ⟨r.hd,by have:=r.dp;show A.depth+1+3*k+5<_;omega,by have:=r.un;show A.units+3+16*k+200<_;omega,r.gd⟩
theorem xF {A:eD}:(A.under (.builtin "type.__call__" ⟨.ref C::us,a⟩)).depth=A.depth+1:=by
 first | rfl | simp [kM,Code.weight,Code.isCreation,Code.isGuard,Code.isCaller,Code.frames,qr,guardIds]
theorem xG {A:eD}:(A.under (.builtin "type.__call__" ⟨.ref C::us,a⟩)).units=A.units+1:=by
 first | rfl | simp [kM,Code.cUnits,Code.frames,qr]
theorem Pr.make (r:Pr (k+1) A) (C:ah) (us:List av) (a:List (ap × av)):Pr k (A.under (.builtin "type.__call__" ⟨.ref C::us,a⟩)) :=
 ⟨r.hd,by have:=r.dp;rw[xF];omega,by have:=r.un;rw[xG];omega,by first | exact r.gd | (simp [kM,Code.guards,Code.isGuard,guardIds,pushGuards,r.gd])⟩
theorem Pr.depth (r:Pr k A):A.depth<tP:=by have:=r.dp;omega
def ZF:TA:=λ_ H Q=>Q [] H
def Wc (a:TE) (c:TA):TA:=λZ H Q=>a Z H λx b=>c Z b λxs d=>Q (x::xs) d
theorem Rh:PA X [] ZF:=λ_ _ _ _ H Q I h=>FA ⟨[],H,I,.nil,h⟩
theorem JG (k:PE X e te) (d:PA X es t) (i:aw (e::es) X.env=(am,bo e X.env)::aw es X.env:=by rfl):PA X (e::es) (Wc te t):=by
 intro b a s Z H Q I h;rw[i];show ax _ _ (eK ((am,bo e X.env)::bb b (aw es X.env))) _ _ s;refine ES (z3 (k a s Z H _ I h) λu f ⟨x,c,g,m,l⟩=>?_);exact z3 (d b a f Z c _ g l) λus q ⟨xs,j,p,o,n⟩=>⟨x::xs,j,p,.cons m o,n⟩
def ZG (t:TA):TE:=λZ H Q=>t Z H λxs a=>xs.length<=ai/\∀p,a p=af->Q (.ref p) (zw a p (.tup xs))
def ZJ (t:TA):TE:=λZ H Q=>t Z H λxs a=>xs.length<=ai/\∀p,a p=af->Q (.ref p) (zw a p (.lst xs))
theorem Ri (h:PA X es t):PE X (.Tuple es x1 ZT) (ZG t):=by
 intro a s Z H Q I i;refine wpAny_Tuple_spliced (z3 (h ZT a s Z H _ I i) λus c ⟨xs,d,f,r,z,q⟩=>⟨by rw[<- r.length];exact z,?_⟩);have g:d c.heap.objs.size=af:=f.hok.fresh (l_ _);refine⟨.ref c.heap.objs.size,zw d c.heap.objs.size (.tup xs),f.laid (t':=c.toks) (λb u e=>e_ _ e) (l_ _) ?_,rfl,q _ g⟩;exact⟨z,us,r,⟨_,t_ _ rfl,rfl,_,rfl,rfl⟩⟩
theorem Rj (h:PA X es t):PE X (.List es ZT) (ZJ t):=by
 intro a s Z H Q I i;refine wpAny_List_spliced (z3 (h ZT a s Z H _ I i) λus c ⟨xs,d,f,r,z,q⟩=>⟨by rw[<- r.length];exact z,?_⟩);have g:d c.heap.objs.size=af:=f.hok.fresh (l_ _);refine⟨.ref c.heap.objs.size,zw d c.heap.objs.size (.lst xs),f.laid (t':=c.toks) (λb u e=>e_ _ e) (l_ _) ?_,rfl,q _ g⟩;exact⟨z,us,0,r,t_ _ rfl⟩
abbrev Sp:=List V->Hp->VK->XK->Prop
abbrev LH:=List x8->Hp->aE->XK->av->aE->Prop
structure LW (P:bX) (w:bP) (K:a3) (mg:ap->Option av) (base:cK) (A:eD) (outer:List x8) (s:aE) (H:Hp):Prop where
 frames:A.frames=ab outer
 mod:Mod K mg base
 bs:∀b o,base.get? b=ab o->s.heap.get? b=ab o/\H b=af
 bsz:base.objs.size<=s.heap.objs.size
 funs:s.heap.FunFrames base outer
 frf:∀b∈F4 outer,H b=af
 hok:A9 P w H s.heap
 bare:iX s.gens
def CE (a:List x8) (P:bX) (w:bP) (H:Hp) (s:aE) (Q:VK) (u:av) (s':aE):Prop :=
 ∃v H',s'.os=s.os/\iX s'.gens/\Un (F4 a) [] H H' s.heap s'.heap/\A9 P w H' s'.heap/\zh v u/\Q v H'
def CR (CX:LH) (a:List x8) (P:bX) (w:bP) (H:Hp) (s:aE) (Q:VK) (E:XK) (r:yb) (s':aE):Prop :=
 match r with
 |.ok (.ret u)=>CE a P w H s Q u s'
 |.ok _=>False
 |.error e=>CX a H s E e s'
structure EE (P:bX) (w:bP) (K:a3) (mg:ap->Option av) (base:cK) (CX:LH) (k:Nat) (f:ah) (fd:de) (ps:List ap) (sp:Sp):Prop where
 len:∀vs H Q E,sp vs H Q E->vs.length=ps.length
 run:∀(A:eD) (outer:List x8) (s:aE) (H:Hp) (args:Args) (us:List av) (vs:List V) (Q:VK) (E:XK),Pr k A->LW P w K mg base A outer s H->qB s fd args (ps.zip us)->y7 vs us->sp vs H Q E ->
  dy (aI P w) A (.call (.ref f) args) (CR CX outer P w H s Q E) s
theorem EE.imp {K:a3} (F:EE P w K g base CX k f e d sp) (h:∀vs H Q E,b vs H Q E->sp vs H Q E):EE P w K g base CX k f e d b :=
 ⟨λvs H Q E q=>F.len vs H Q E (h _ _ _ _ q),λA a s H c us vs Q E j n i l m=>F.run A a s H c us vs Q E j n i l (h _ _ _ _ m)⟩
theorem LW.make {K:a3} (e:LW P w K b base A a s H) (C:ah) (us:List av) (c:List (ap × av)):
  LW P w K b base (A.under (.builtin "type.__call__" ⟨.ref C::us,c⟩)) a s H:=⟨by first | exact e.frames | (simpa [kM,Code.envs,qr,pushEnvs] using e.frames),e.mod,e.bs,e.bsz,e.funs,e.frf,e.hok,e.bare⟩
section
variable {X:Cx}{ZO:List (ah × dP)}{Z:St}
theorem y4.env0 (I:y4 X ZO Z H s):LW X.prog X.w X.K X.mg X.base X.A X.stack s H :=
 ⟨I.ok.frames,I.ok.mod,I.bs,U_ I.ok.bsz I.sz,I.stack,I.stkFree,I.hok,I.bare⟩
theorem y4.after (I:y4 X ZO Z H s) (h:CE X.stack X.prog X.w H s Q u s'):EP X ZO Z Q u s':=by
 obtain⟨v,H',j,a,i,e,r,q⟩:=h;obtain⟨f,g,d,t,c⟩:=s';obtain rfl:c=s.os:=j;exact⟨v,H',I.call (h':=f) (g':=g) (d':=d) (t':=t) (ch:=[]) i e a (λb z=>As z ze),r,q⟩
end
def Wd (sp:Sp) (dvs:List V) (E:XK) (t:TA):TE:=λZ H Q=>t Z H λvs a=>sp (vs++dvs) a Q E
def We (C:ah) (m:ap) (sp:Sp) (dvs:List V) (E:XK) (e:TE) (t:TA):TE:=λZ H Q=>e Z H λx b=>∃a d c,x=.ref a/\b a=ab (.ins C d c)/\c.lookup m=af /\
 t Z b λvs f=>sp (x::(vs++dvs)) f Q E
def Wf (C:ah) (sp:Sp) (dvs:List V) (E:XK) (t:TA):TE:=λZ H Q=>t Z H λvs b=>∀x a,b x=af->b a=af->a≠x ->
 sp (.ref x::(vs++dvs)) (zw (zw b a (.own x)) x (.ins C a [])) (λv c=>v=.non/\Q (.ref x) c) E
def AS (K:a3) (c:de) (b:List ap) (a:List av):Prop :=
 ∀(s:aE) (us:List av),K.In s.heap->(us++a).length=b.length->qB s c ⟨us,[]⟩ (b.zip (us++a))
theorem AS.all {K:a3} (h:∀us:List av,us.length=a.length->dc b ⟨us,[]⟩=bE (a.zip us)):AS K b a []:=λs us _ c=>by
 rw[X_] at c |-;exact .of_eq (h us c)
def kY (CX:LH) (X:Cx) (E:XK):Prop:=∀(a:List (ah × dP)) (Z:St) (H:Hp) (s:aE) (e:av) (s':aE),y4 X a Z H s->CX X.stack H s E e s'->X.xe e s'
section
variable {X:Cx}{CX:LH}{p ZT ZY:kc}
theorem DQ {Z:St} (F:EE X.prog X.w X.K X.mg X.base CX k f fd ps sp) (l:Pr k X.A) (i:AS X.K fd ps ds) (j:y7 dvs ds) (g:kY CX X E) (I:y4 X a Z H s) (r:y7 vs us) (h:sp (vs++dvs) H Q E):ax (aI X.prog X.w) X.A (jS (.ref f) us) (EP X a Z Q) X.xe s:=by
 have c:y7 (vs++dvs) (us++ds):=r.append j;have m:(us++ds).length=ps.length:=by rw[<- c.length];exact F.len _ _ _ _ h
 refine s_ (HG (F.run X.A X.stack s H ⟨us,[]⟩ (us++ds) (vs++dvs) Q E l I.env0 (i s us I.kIn m) c h) λr s' b=>?_);cases r with
 |error e=>exact g a Z H s e s' I b
 |ok d =>
 cases d with
 |ret u=>exact I.after b
 |next=>exact c9 b
 |brk=>exact c9 b
 |cont=>exact c9 b
theorem JH (F:EE X.prog X.w X.K X.mg X.base CX k f fd ps sp) (l:Pr k X.A) (o:Gl X x) (m:X.mg x=ab (.ref f)) (v:kx X.K (.ref f)=ag) (i:AS X.K fd ps ds) (j:y7 dvs ds) (g:kY CX X E)
  (n:PA X (e::es) t) (c:(x==("__debug__":ap))=am:=by decide) (u:aw (e::es) X.env=(am,bo e X.env)::aw es X.env:=by rfl) (b:(bb ZT (aw es X.env)).any (·.1)=am:=by rfl) :
  PE X (.Call (.Name x p) (e::es) [] ZT) (Wd sp dvs E t):=by
 intro a s Z H Q I h;refine Ee (yZ I o m ?_ c);refine ny (h₀:=X.base) I.ok.mod.kin v (z3 (n ZT a s Z H _ I h) λus z ⟨vs,y,d,r,q⟩=>⟨d.kIn,?_⟩) u b;exact DQ F l i j g d r q
theorem JK {pl:Sem Bool}(L:PE X o ta) (c:FO X.K C) (j:IT X.K C m f) (F:EE X.prog X.w X.K X.mg X.base CX k f fd ps sp) (G:Pr k X.A) (B:AS X.K fd ps ds) (y:y7 dvs ds) (M:kY CX X E) (O:PA X (e::es) t)
  (d:aw (e::es) X.env=(am,bo e X.env)::aw es X.env:=by rfl) (g:(bb ZT (aw es X.env)).any (·.1)=am:=by rfl)
  (D:bo (.Call (.Attribute o m ZY) (e::es) [] ZT) X.env=(do
   let ov <- bo o X.env
   oy ZY.atName
   let (f,first) <- eS [ov] (rh ov m pl)
   callWith ZT f first (bb ZT (aw (e::es) X.env)) (pa ZT (im [] X.env))):=by rfl) :
  PE X (.Call (.Attribute o m ZY) (e::es) [] ZT) (We C m sp dvs E ta t):=by
 intro b s Z H Q I h;refine PySem.W.methodCall_KW (pl:=pl) (z3 (L b s Z H _ I h) λu N ⟨x,p,n,z,a,S,T,J,v,l,q⟩=>?_) D;subst J;obtain rfl:u=a8 a:=z;refine xu n v c j l ?_;refine ny (first:=[.ref a]) (h₀:=X.base) I.ok.mod.kin j.kp (z3 (O ZT b N Z p _ n q) λus R ⟨vs,U,i,r,P⟩=>⟨i.kIn,?_⟩) d g;exact DQ (us:=.ref a::us) (vs:=.ref a::vs) F G B y M i (.cons rfl r) P
structure Mk (K:a3) (C f:ah):Prop where
 makes:makesIn K C=ag
 init:i5 K (.ref C) "__init__"=ab (ab (.ref f))
 fn:isFn K (.ref f)=ag
 kp:kx K (.ref C)=ag
theorem DR {Z:St} (M:Mk X.K C f) (F:EE X.prog X.w X.K X.mg X.base CX k f fd ps sp) (o:Pr (k+1) X.A) (m:AS X.K fd ps ds) (n:y7 dvs ds) (j:kY CX X E) (I:y4 X a Z H s) (r:y7 vs us) (h:∀x dx,H x=af->H dx=af->dx≠x->sp (.ref x::(vs++dvs)) (zw (zw H dx (.own x)) x (.ins C dx [])) (λv H2=>v=.non/\Q (.ref x) H2) E):
  ax (aI X.prog X.w) X.A (jS (.ref C) us) (EP X a Z Q) X.xe s:=by
 have d:=h (s.heap.objs.size+1) s.heap.objs.size (I.hok.fresh (ID _)) (I.hok.fresh (l_ _)) (P_ (IL _));have c:=y4.made (C:=C) I;have g:y7 (V.ref (s.heap.objs.size+1)::(vs++dvs)) (a8 (s.heap.objs.size+1)::(us++ds)):=.cons rfl (r.append n);have q:(a8 (s.heap.objs.size+1)::us++ds).length=ps.length:=by have e:=g.length;rw[F.len _ _ _ _ d] at e;exact e.symm
 refine s_ (DP (f:=f) I.kIn M.makes M.init (Gc.mp M.fn) (HG (F.run _ X.stack _ _ ⟨a8 (s.heap.objs.size+1)::us,[]⟩ (a8 (s.heap.objs.size+1)::(us++ds)) _ _ E (o.make C us [])
  (c.env0.make C us []) (m _ (a8 (s.heap.objs.size+1)::us) c.kIn q) g d) λr s' b=>?_))
 cases r with
 |error e=>exact j a Z _ _ e s' c b
 |ok i =>
 cases i with
 |ret u=>obtain⟨v,H',t,p,y,l⟩:=c.after b;subst y;exact⟨p,⟨V.ref (s.heap.objs.size+1),H',t,rfl,l⟩⟩
 |next=>exact c9 b
 |brk=>exact c9 b
 |cont=>exact c9 b
theorem JL (M:Mk X.K C f) (F:EE X.prog X.w X.K X.mg X.base CX k f fd ps sp) (l:Pr (k+1) X.A) (o:Gl X x) (m:X.mg x=ab (.ref C)) (i:AS X.K fd ps ds) (j:y7 dvs ds) (g:kY CX X E)
  (n:PA X (e::es) t) (c:(x==("__debug__":ap))=am:=by decide) (u:aw (e::es) X.env=(am,bo e X.env)::aw es X.env:=by rfl) (b:(bb ZT (aw es X.env)).any (·.1)=am:=by rfl) :
  PE X (.Call (.Name x p) (e::es) [] ZT) (Wf C sp dvs E t):=by
 intro a s Z H Q I h;refine Ee (yZ I o m ?_ c);refine ny (h₀:=X.base) I.ok.mod.kin M.kp (z3 (n ZT a s Z H _ I h) λus y ⟨vs,v,d,r,q⟩=>⟨d.kIn,?_⟩) u b;exact DR M F l i j g d r q
end
structure fY (N P:List ap) (sc:Scope):Prop where
 kind:sc.kind=.function
 co:sc.isCoroutine=am
 gen:sc.isGenerator=am
 nd:N.Nodup
 pre:N.take P.length=P
 par:∀x∈P,sc.names.lookup x=ab .local\/sc.names.lookup x=ab .cell
 nofree:∀y∈sc.names,y.2≠.free
theorem qN:∀{a:List (ap × av)}{m:ap->Option av},(∀v,(x,v)∉a)->vF b a m x=m x
 |[],_,_=>rfl
 | (n,v)::r,m,h=>by
  unfold vF
  rw[qN λw c=>h w (A_ _ c)]
  split
  ·
   have:x≠n:=by rintro rfl;exact h v n_
   simp [this]
  ·
   rfl
theorem qO:∀{a:List (ap × av)}{m:ap->Option av},(∀v,(x,v)∉a)->vS b a m x=m x
 |[],_,_=>rfl
 | (n,v)::r,m,h=>by
  unfold vS
  rw[qO λw c=>h w (A_ _ c)]
  split
  ·
   rfl
  ·
   have:x≠n:=by rintro rfl;exact h v n_
   simp [this]
theorem qP:∀{P:List ap}{vs:List av}{i:Nat}{m:ap->Option av},P.Nodup->P[i]?=ab x->vs[i]?=ab v->a x=ab .local ->
  vF a (P.zip vs) m x=ab v
 |[],_,_,_,_,h,_,_=>by simp at h
 |_::_,[],_,_,_,_,h,_=>by simp at h
 |p::P,w::vs,0,m,nd,h1,h2,hk=>by
  simp at h1 h2;subst h1;subst h2
  show vF a ((p,w)::P.zip vs) m p=_
  unfold vF
  rw[qN λv b=>(DJ.mp nd).1 (kT b).1,zi hk]
  simp
 |p::P,w::vs,i+1,m,nd,h1,h2,hk=>by
  show vF a ((p,w)::P.zip vs) m x=_
  unfold vF
  exact qP (i:=i) (DJ.mp nd).2 (by simpa using h1) (by simpa using h2) hk
theorem qQ:∀{P:List ap}{vs:List av}{i:Nat}{m:ap->Option av},P.Nodup->P[i]?=ab x->vs[i]?=ab v->a x≠ab .local ->
  vS a (P.zip vs) m x=ab v
 |[],_,_,_,_,h,_,_=>by simp at h
 |_::_,[],_,_,_,_,h,_=>by simp at h
 |p::P,w::vs,0,m,nd,h1,h2,hk=>by
  simp at h1 h2;subst h1;subst h2
  show vS a ((p,w)::P.zip vs) m p=_
  unfold vS
  rw[qO λv b=>(DJ.mp nd).1 (kT b).1,y9 hk]
  simp
 |p::P,w::vs,i+1,m,nd,h1,h2,hk=>by
  show vS a ((p,w)::P.zip vs) m x=_
  unfold vS
  exact qQ (i:=i) (DJ.mp nd).2 (by simpa using h1) (by simpa using h2) hk
def start (N:List ap) (vs:List V):St:=vs.map ab++a4 (N.length - vs.length) af
def xH (CX:LH) (P:bX) (w:bP) (K:a3) (mg:ap->Option av) (base:cK) (N:List ap) (a:ap) (scope:Scope) (f:ah) (c:av) (A:eD) (f':List x8) (s:aE) (H:Hp) (E:XK):Cx where
 prog:=P
 w:=w
 K:=K
 mg:=mg
 base:=base
 A:=A.deeper (i7 a scope s.heap.objs.size f c)
 N:=N
 s₀:=s
 H₀:=H
 env:=i7 a scope s.heap.objs.size f c
 outer:=f'
 stack:=i7 a scope s.heap.objs.size f c::f'
 ex:=[]
 calm:=ag
 fn:=λ_=>ag
 pn:=[]
 xe:=λe s'=>ax (aI P w) (A.deeper (i7 a scope s.heap.objs.size f c)) (leaving (i7 a scope s.heap.objs.size f c) e) (λ_ b=>CX f' H s E e b) (λd b=>CX f' H s E d b) s'
theorem jL {a:Scope} (h:a.names.lookup x=ab .cell):∃c,(a9 n a.names []).lookup x=ab c:=by
 have q:=lI a.names n [] (.inl h);exact Option.isSome_iff_exists.mp q
theorem Bx {K:a3} (S:fY N m scope) (O:A.handled=af) (l:LW P w K I base A d s H) (W:vs.length=m.length) (r:y7 vs us) (x:InCallC s s.heap.objs.size (vF (i7 g scope s.heap.objs.size f D).kindOf (m.zip us) λ_=>af) (a9 (s.heap.objs.size+1) scope.names []) (vS (i7 g scope s.heap.objs.size f D).kindOf (m.zip us) λ_=>af) L):
  y4 (xH CX P w K I base N g scope f D A d s H E) [] (start N vs) H L:=by
 have R:m.length<=N.length:=by have:=Q_ aT S.pre;rw[FG] at this;omega
 obtain⟨G,tk,rfl,M⟩:=x.done;have o:∀b:ah,b∉(xH CX P w K I base N g scope f D A d s H E).ex:=λb z=>As (show b∈([]:List ah) from z) ze;refine⟨⟨l.mod,S.kind,rfl,rfl,l_ _,λy z c G j=>?_,λy t=>?_,λy c _ h=>?_,λ_=>O,Around.frames_deeper l.frames,.inr ⟨rfl,rfl⟩,λb z=>As z (o b),l.bs,l.bsz,λb _ _=>o b,λb z=>As z (o b),l.funs,l.frf⟩,
  rfl,l.bare,Un.kept M,⟨_,x.toInCall.ns,λi y v G j U=>?_⟩,λy c h=>⟨_,x.cell y c h⟩,l.hok.fresh (l_ _),λy c h=>?_,λp B=>As (show p∈([]:List (ah × dP)) from B) ze,l.hok.kept M,?_⟩
 .exact name_of_addr x.apart (mem_of_lookup G) (mem_of_lookup j)
 .have t:scope.names.lookup y=ab .cell\/scope.names.lookup y=ab .free:=t;rcases t with t | t
  .exact jL t
  exact As rfl (S.nofree _ (mem_of_lookup t))
 .exact D4 (x.above y c (mem_of_lookup h))
 .have F:i<vs.length:=by
   unfold start at j;by_cases F:i<vs.length
   .exact F
   rw[M_ (by simpa using F)] at j;rw[OX] at j;split at j <;> cases j
  have T:vs[i]?=ab v:=by
   unfold start at j;rw[FV (by simpa using F),u_] at j;cases e:vs[i]? with
   |none=>rw[e] at j;cases j
   |some a=>rw[e] at j;cases j;rfl
  obtain⟨u,J,Q⟩:=r.get T;have B:m[i]?=ab y:=by rw[<- S.pre,List.getElem?_take_of_lt yT];exact G
  have C:m.Nodup:=by rw[<- S.pre];exact S.nd.sublist (pS _ _)
  refine⟨u,Q,?_⟩;rcases S.par y (EW B) with k | k
  .exact .inl ⟨k,qP C B J k⟩
  obtain⟨c,e⟩:=jL (n:=s.heap.objs.size+1) k;refine .inr ⟨.inl k,c,e,?_⟩;have q:=x.cell y c e;rw[qQ C B J (by show scope.names.lookup y≠_;rw[k];decide)] at q;exact q
 .exact l.hok.fresh (D4 (x.above y c (mem_of_lookup h)))
 unfold start;show _=N.length;rw[b_,d_,Pe];omega
theorem Wg {K:a3}{dV kV p X d Z oc:av} (lk:K.lookup f=ab ⟨oc,od,.func (nv name c g h scope dV kV p X an d Z),M⟩) (O:rp K d c=ag) (S:fY N D scope) (z:∀vs H Q E,sp vs H Q E->vs.length=D.length) (i:∀(A:eD) (a:List x8) (s:aE) (H:Hp) (vs:List V) (Q:VK) (E:XK),Pr k (A.deeper (i7 c scope s.heap.objs.size f d))->sp vs H Q E ->
   ∃t,CD (xH CX P w K G base N c scope f d A a s H E) h t/\t { nx:=λ_ H'=>Q .non H',rt:=Q} (start N vs) H):
  EE P w K G base CX (k+1) f (nv name c g h scope dV kV p X an d Z) D sp:=by
 refine⟨z,λA a s H Y us vs Q E R B hb r m=>?_⟩;have hl:=z _ _ _ _ m;have U:K.In s.heap:=B.mod.kin.keeps λb o e=>(B.bs b o e).1;have L:s.heap.NoLimit:=B.mod.nolimit.keeps λb o e=>(B.bs b o e).1;have j:∀y∈D.zip us,scope.names.lookup y.1=ab .local\/(scope.names.lookup y.1=ab .cell/\((a9 (s.heap.objs.size+1) scope.names []).lookup y.1).isSome=ag):=λ⟨n,v⟩ hy=>by
  rcases S.par n (kT hy).1 with q | q
  .exact .inl q
  exact .inr ⟨q,lI _ _ _ (.inl q)⟩
 refine codeAny_call_function R.depth (U _ _ lk) rfl S.co S.gen rfl (PySem.W.codeRec_of U O) (hb _ _ _ _ ?_);refine wpAny_newFunctionEnv_cells S.kind j λenv he s1 x=>?_;subst he;refine⟨L.keeps x.toInCall.keep,codeAny_func ?_⟩;obtain⟨t,ht,hq⟩:=i A a s H vs Q E (R.deeper _) m;have I:y4 (xH CX P w K G base N c scope f d A a s H E) [] (start N vs) H s1:=Bx S R.hd B hl r x;refine Cn (ht [] s1 (start N vs) H _ I hq) (λfl s' l=>?_) λe s' l=>l;have C:∀{F:St} {H':Hp} {v:V} {u:av},y4 (xH CX P w K G base N c scope f d A a s H E) [] F H' s'->zh v u->Q v H'->CE a P w H s Q u s' :=
  λ{F H' v u} J T q=>⟨v,H',J.os,J.bare,J.base,J.hok,T,q⟩
 cases fl with
 |ret u=>obtain⟨v,F,H',J,T,q⟩:=l;exact C J T q
 |next=>obtain⟨F,H',J,q⟩:=l;exact C (v:=V.non) (u:=bg) J rfl q
 |brk=>obtain⟨_,_,_,q⟩:=l;exact c9 q
 |cont =>
 obtain⟨_,_,_,q⟩:=l;exact c9 q
section
variable {p ZT:kc}{id T:String}
def UN (r:List V->Hp->VK->Prop) (t:TA):TE:=λZ H Q=>t Z H λvs a=>r vs a Q
theorem DW (u:Cf X (.builtin id) r) (o:Gl X x) (g:X.mg x=af) (j:ba x=ab (.builtin id)) (l:PA X (e::es) t) (f:x≠"__name__":=by decide) (c:(x==("__debug__":ap))=am:=by decide)
  (q:aw (e::es) X.env=(am,bo e X.env)::aw es X.env:=by rfl) (b:(bb ZT (aw es X.env)).any (·.1)=am:=by rfl):PE X (.Call (.Name x p) (e::es) [] ZT) (UN r t):=by
 intro a s Z H Q I h;refine Ee (dq I o g j ?_ f c);exact fg (z3 (l ZT a s Z H _ I h) λus i ⟨vs,d,k,n,m⟩=>u a i Z d vs us Q k n m) q b
theorem By (u:Cf X (.type T) r) (o:Gl X x) (g:X.mg x=af) (j:ba x=ab (.type T)) (l:PA X (e::es) t) (f:x≠"__name__":=by decide) (c:(x==("__debug__":ap))=am:=by decide)
  (q:aw (e::es) X.env=(am,bo e X.env)::aw es X.env:=by rfl) (b:(bb ZT (aw es X.env)).any (·.1)=am:=by rfl):PE X (.Call (.Name x p) (e::es) [] ZT) (UN r t):=by
 intro a s Z H Q I h;refine Ee (dq I o g j ?_ f c);exact Z_ (z3 (l ZT a s Z H _ I h) λus i ⟨vs,d,k,n,m⟩=>u a i Z d vs us Q k n m) q b
end
end L2
namespace HT
open PySem PyProof.Rows
section
open PySem.SeqAt
open PySem.AutoSeq1 (wpAny_loadPart')
open PySem.MeetsSeq PySem.MeetsSeq2 PySem.MeetsSeq3
theorem ag7 (x:x5 s.heap t vs.toArray) (v:x5 s.heap b ws.toArray) (m:vs≠[]) (y:ws=[]->Q (.ref t) s) (u:ws≠[]->Q (.ref s.heap.objs.size) { s with heap:=s.heap.push { cls:=.type "tuple",data:=.seq (vs++ws).toArray}}) (hsz:vs.length+ws.length<=ai):ax (aI prog w) A (br .Add (.ref t) (.ref b)) Q E s:=by
 obtain⟨⟨cls,r,data,l⟩,i,o,n,k⟩:=id x;obtain⟨⟨q,c,j,f⟩,a,g,p,d⟩:=id v;simp only at o k g d;subst o k g d;have e:vs.toArray++ws.toArray=(vs++ws).toArray:=ze
 by_cases h:ws=[]
 .exact o0 ⟨_,i,rfl⟩ ⟨_,a,rfl⟩ jI mT eW eM (SU _ _)
   (tuple_addW1 t b vs.toArray ws.toArray n p r c l f (by simpa using m) (by simp [h])) ⟨i,a,y h⟩
 refine o0 ⟨_,i,rfl⟩ ⟨_,a,rfl⟩ jI mT eW eM (SU _ _)
  (tuple_addW2 t b vs.toArray ws.toArray n p r c l f (by simpa using m) (by simpa using h) (by rw[p_,p_];exact hsz)) ⟨i,a,?_⟩
 rw[e];exact u h
def sIx (n d:Nat):Option Int->Nat
 |none=>d
 |some v=>if v<0 then (v+(n:Int)).toNat else min v.toNat n
theorem agy (n d:Nat):sIx n d af=d:=rfl
theorem af5 (n d k:Nat):sIx n d (ab (k:Int))=min k n:=by
 show (if (k:Int)<0 then ((k:Int)+(n:Int)).toNat else min (k:Int).toNat n)=min k n;rw[y9 yT,F3]
theorem Rk (n d:Nat) (b:d<=n) (o:Option Int):sIx n d o<=n:=by
 cases o with
 |none=>exact b
 |some v =>
  show (if v<0 then (v+(n:Int)).toNat else min v.toNat n)<=n
  by_cases a:v<0
  ·
   rw[zi a];omega
  ·
   rw[y9 a];exact Nat.min_le_right _ _
theorem za (v:Int) (n d:Nat):(if v<0 then max (v+(n:Int)) 0 else min v (n:Int))=((sIx n d (ab v):Nat):Int):=by
 show (if v<0 then max (v+(n:Int)) 0 else min v (n:Int))=(((if v<0 then (v+(n:Int)).toNat else min v.toNat n):Nat):Int);by_cases a:v<0
 .simp only[zi a];omega
 simp only[y9 a];omega
theorem xJ (b a:Option Int) (n:Nat):cf b a 1 (n:Int)=(((sIx n 0 b:Nat):Int),((sIx n n a:Nat):Int)):=by
 have c:¬((1:Int)<0):=yT
 unfold cf;simp only[c,Y_];refine eJ ?_ ?_
 .cases b with
  |none=>rfl
  |some v=>exact za v n 0
 cases a with
 |none=>rfl
 |some v=>exact za v n n
theorem xK (i j:Nat):bt (i:Int) (j:Int) 1=j - i:=by
 unfold bt;have a:(1:Int)>0:=yT
 simp only[a,if_true,Int.ediv_one];split <;> omega
theorem jy (p:kK v o) (h:Q o s):ax (aI prog w) A (Builtin.Slice.slicePartIndex v) Q E s:=by
 cases p with
 |none=>exact gN h
 |int i t=>exact slicePart_int h
theorem kZ {Q:Int × Int × Nat->aE->Prop} (j:s.heap.IsSliceOf g e f .none) (pl:kK e a) (k:kK f d) (h:Q (((sIx n 0 a:Nat):Int),1,sIx n n d - sIx n 0 a) s):ax (aI prog w) A (df (.ref g) (bE (n:Int))) Q E s:=by
 obtain⟨l,c,i,b⟩:=id j;unfold df ij;refine a_ (a_ (C5 c b (x:=e) rfl (a_ (C5 c b (x:=f) rfl (a_ (C5 c b (x:=.none) rfl (h_ ?_)))))));refine a_ (gN ?_);show ax _ _ (if ((1:Int)==0)=ag then _ else _) _ _ s;rw[y9 y6];refine a_ (jy pl (a_ (jy k (a_ (h_ ?_)))));show ax _ _ (match cf a d 1 (n:Int) with | (a,d)=>bE (a,(1:Int),bt a d 1)) _ _ s;rw[xJ a d n];show ax _ _ (bE (((sIx n 0 a:Nat):Int),(1:Int),bt ((sIx n 0 a:Nat):Int) ((sIx n n d:Nat):Int) 1)) _ _ s;rw[xK];exact h_ h
theorem DX (xs : Array av) (i k : Nat) : ((ae k).filterMap λ(m : Nat) => xs[((i : Int) + (m : Int) * 1).toNat]?).toArray = ((xs.toList.drop i).take k).toArray:=by
 have e:(λ(m:Nat)=>xs[((i:Int)+(m:Int)*1).toNat]?)=λm=>xs[i+m]?:=by
  funext m;have:((i:Int)+(m:Int)*1).toNat=i+m:=by omega
  rw[this]
 rw [e];have:=pick_run xs i k;rw [hH] at this;have a : ((λx => xs[x]?) ∘ λx => i + x) = λm => xs[i + m]?:=rfl;rw [a] at this;rw [this]
theorem aeI (e:x5 s.heap t a) (o:s.heap.IsSliceOf f n l .none) (pl:kK n c) (u:kK l d) (r:¬(sIx a.size 0 c=0/\sIx a.size a.size d=a.size)) (h:Q (.ref s.heap.objs.size) { s with heap:=s.heap.push { cls:=.type "tuple",data:=.seq ((a.toList.drop (sIx a.size 0 c)).take (sIx a.size a.size d - sIx a.size 0 c)).toArray}}) (hsz:a.size<=ai):ax (aI prog w) A (f_ (.ref t) (.ref f)) Q E s:=by
 have b:sizeOk (.seq ((a.toList.drop (sIx a.size 0 c)).take (sIx a.size a.size d - sIx a.size 0 c)).toArray):=by show ((a.toList.drop (sIx a.size 0 c)).take (sIx a.size a.size d - sIx a.size 0 c)).toArray.size<=ai;rw[p_,FG,KM,C3];omega
 have y:sIx a.size a.size d<=a.size:=Rk _ _ (l_ _) d;obtain⟨v,j,i,p⟩:=id o;have k:s.TypeIs (.ref f) "slice":=⟨v,j,i⟩;unfold f_;try with_reducible refine DF ?_
 first | refine a_ (h_ ?_) | skip
 refine a_ (om e.typeIs y6 ?_);refine a_ (Kn (name:=cx "__getitem__") e.typeIs MD
  (DS MD e.typeIs mw ?_ (nE _ _)))
 show ax _ _ (h7 (.ref t) >>= _) _ _ s;refine a_ (wS e ?_);refine a_ (GA k ?_);rw[zi y6];refine a_ (kZ o pl u ?_);have g:¬((((sIx a.size 0 c:Nat):Int)==0&&(1:Int)==1&&(sIx a.size a.size d - sIx a.size 0 c)==a.size)=ag):=by intro q;rw[CL,CL] at q;have x:((sIx a.size 0 c:Nat):Int)=0:=eq_of_beq q.1.1;have z:sIx a.size a.size d - sIx a.size 0 c=a.size:=eq_of_beq q.2;exact r ⟨yT,yT⟩
 show ax _ _ (if (((sIx a.size 0 c:Nat):Int)==0&&(1:Int)==1&&(sIx a.size a.size d - sIx a.size 0 c)==a.size)=ag then _ else _) _ _ s;rw[y9 g,DX];first
  |exact a_ (m:=a6 _) (B9 (h_ ⟨_,rfl,h_ h⟩) b)
  |exact a_ (m:=a6 _) (B9 (a_ (h_ (h_ ⟨_,rfl,h_ h⟩))) b)
  |exact a_ (a_ (m:=a6 _) (B9 (h_ (h_ ⟨_,rfl,h_ h⟩)) b))
  |exact a_ (a_ (m:=a6 _) (B9 (h_ ⟨_,rfl,h_ h⟩) b))
end
end HT
namespace L2
abbrev TO:=St->Hp->(Option Int->Hp->Prop)->Prop
def PO (X:Cx) (e:Option Expr) (t:TO):Prop :=
 ∀(a:List (ah × dP)) (s:aE) (Z:St) (H:Hp) (Q:Option Int->Hp->Prop),y4 X a Z H s->t Z H Q ->
  ax (aI X.prog X.w) X.A (evalPart e X.env) (λu s'=>∃o H',y4 X a Z H' s'/\kK u o/\Q o H') X.xe s
def JM:TO:=λ_ H Q=>Q af H
def Wh (t:TE):TO:=λZ H Q=>t Z H λx a=>∃i,x=.int i/\Q (ab i) a
section
variable {lo hi:Option Expr}
theorem JN:PO X af JM:=by
 intro a s Z H Q I h;rw[i6];exact h_ ⟨af,H,I,.none,h⟩
theorem JP (h:PE X e te):PO X (ab e) (Wh te):=by
 intro a s Z H Q I c;rw[evalPart_some];refine z3 (h a s Z H _ I c) λu j ⟨x,b,g,f,d⟩=>?_;obtain⟨i,rfl,q⟩:=d;obtain⟨t,rfl⟩:=f;exact⟨ab i,b,g,.int i t,q⟩
def KO (X:Cx) (r:V->Option Int->Option Int->Hp->VK->Prop):Prop :=
 ∀(a:List (ah × dP)) (s:aE) (Z:St) (H:Hp) (x:V) (v d f:av) (c e:Option Int) (b:ah) (Q:VK),y4 X a Z H s->zh x v->s.heap.IsSliceOf b d f .none->kK d c->kK f e->r x c e H Q ->
  ∃T id,fb (.type T) "__getitem__"=bE (ab (.builtin id))/\s.TypeIs v T/\ax (aI X.prog X.w) X.A (f_ v (.ref b)) (EP X a Z Q) X.xe s
theorem KO.or (h:KO X r) (h':KO X d):KO X (λx c b H Q=>r x c b H Q\/d x c b H Q):=by
 intro a s Z H x v i k c b e Q I g f pl j q;rcases q with q | q
 .exact h a s Z H x v i k c b e Q I g f pl j q
 exact h' a s Z H x v i k c b e Q I g f pl j q
def X2 (r:V->Option Int->Option Int->Hp->VK->Prop) (te:TE) (c d:TO):TE:=λZ H Q=>te Z H λx b=>c Z b λl a=>d Z a λu H3=>r x l u H3 Q
theorem DY (z:KO X r) (C:PE X e te) (F:PO X lo tl) (m:PO X hi th):PE X (.Subscript e (.Slice lo hi af p2) ZT) (X2 r te tl th):=by
 intro a s Z H Q I h;refine kB (z3 (C a s Z H _ I h) λv G ⟨x,f,t,o,n⟩=>?_);refine sg (z3 (F a G Z f _ t n) λd g ⟨l,J,k,pl,K⟩=>z3 (m a g Z J _ k K) λc s3 ⟨u,H3,i,D,E⟩=>?_);rw[i6];refine h_ ?_;have y:y4 X a Z H3 { s3 with heap:=s3.heap.push { cls:=.type "slice",data:=.fields #[d,c,.none]}}:=i.kept (t':=s3.toks) λb L q=>e_ _ q;obtain⟨T,id,j,B,p⟩:=z a { s3 with heap:=s3.heap.push { cls:=.type "slice",data:=.fields #[d,c,.none]}} Z H3 x v d c l u s3.heap.objs.size Q y o (hV ..) pl D E;show ax (aI X.prog X.w) X.A (fm e (.Slice lo hi af p2) v (.ref s3.heap.objs.size)) (EP X a Z Q) X.xe { s3 with heap:=s3.heap.push { cls:=.type "slice",data:=.fields #[d,c,.none]}};exact tr (ops:=[.ref s3.heap.objs.size,v]) B j p (by with_unfolding_all rfl)
def uN (xs:List V) (a b:Option Int):List V:=(xs.drop (HT.sIx xs.length 0 a)).take (HT.sIx xs.length xs.length b - HT.sIx xs.length 0 a)
theorem lQ (xs:List V) (a b:Option Int):(uN xs a b).length<=xs.length:=by
 unfold uN;rw[FG,KM];omega
def ZK (K:a3):V->Option Int->Option Int->Hp->VK->Prop:=λx c b H Q=>∃a xs,x=.ref a/\A0 K H a xs /\
 ¬(HT.sIx xs.length 0 c=0/\HT.sIx xs.length xs.length b=xs.length)/\∀p,H p=af->Q (.ref p) (zw H p (.tup (uN xs c b)))
theorem Y2:KO X (ZK X.K):=by
 intro i s Z H x v u w d e p Q I m l pl n h;obtain⟨a,xs,rfl,j,k,q⟩:=h;cases m;obtain⟨f,r,g,hz⟩:=I.tuple j;have c:f.toArray.size=xs.length:=by rw[p_];exact r.length.symm
 refine⟨"tuple",_,MD.lookup,g.typeIs,?_⟩;refine HT.aeI g l pl n (by rw[c];exact k) ?_ (by rw[c];exact hz);rw[c];refine⟨.ref s.heap.objs.size,_,I.laid (t':=s.toks) (o:=.tup (uN xs d e)) (λb t q=>e_ _ q) (l_ _) ?_,rfl,q _ (I.hok.fresh (l_ _))⟩;exact⟨U_ (lQ xs d e) hz,_,(r.drop (HT.sIx xs.length 0 d)).take (HT.sIx xs.length xs.length e - HT.sIx xs.length 0 d),EO.new _ _⟩
def Wi (K:a3):R2:=λx y H Q=>∃a b xs c,x=.ref a/\y=.ref b/\A0 K H a xs/\A0 K H b c/\xs≠[]/\xs.length+c.length<=ai /\
 (c=[]->Q (.ref a) H)/\(c≠[]->∀p,H p=af->Q (.ref p) (zw H p (.tup (xs++c))))
theorem y7.nil_iff (r:y7 xs us):us=[]↔xs=[]:=by
 cases r with
 |nil=>simp
 |cons _ _=>simp
theorem YA:AO X (br .Add) (Wi X.K):=by
 intro f s Z H x y v u Q I m k h;obtain⟨a,b,xs,l,rfl,rfl,p,i,g,hz,r,j⟩:=h;cases m;cases k;obtain⟨A,d,n,_⟩:=I.tuple p;obtain⟨e,c,t,_⟩:=I.tuple i;refine HT.ag7 n t (λz=>g (d.nil_iff.mp z)) (λz=>⟨.ref a,H,I,rfl,r (c.nil_iff.mp z)⟩) (λz=>?_) (by rw[<- d.length,<- c.length];exact hz);refine⟨.ref s.heap.objs.size,_,I.laid (t':=s.toks) (o:=.tup (xs++l)) (λb B q=>e_ _ q) (l_ _) ?_,rfl,j (λw=>z (c.nil_iff.mpr w)) _ (I.hok.fresh (l_ _))⟩;exact⟨by rw[b_];exact hz,_,d.append c,EO.new _ _⟩
end
def BH (n:Nat) (i:Int):Option Nat:=if 0<=i then (if i<n then ab i.toNat else af) else if -(n:Int)<=i then ab (i+n).toNat else af
def AA {a:Type}(xs:List a) (i:Int):Option a:=(BH xs.length i).bind λj=>xs[j]?
theorem sH (h:BH n i=ab j):qV i n=ab j/\j<n /\ -(n:Int)<=i/\i<n:=by
 unfold BH at h;by_cases b:0<=i
 .rw[zi b] at h;by_cases a:i<n
  .rw[zi a] at h;have e:i.toNat=j:=T_ h;exact⟨by rw[si b a,e],yT,yT,a⟩
  rw[y9 a] at h;cases h
 rw[y9 b] at h;by_cases a : -(n:Int)<=i
 .rw[zi a] at h;have e:(i+n).toNat=j:=T_ h;exact⟨by rw[oz yT a,e],yT,a,yT⟩
 rw[y9 a] at h;cases h
theorem sI {xs:List a}{v:a} (h:AA xs i=ab v):∃j,qV i xs.length=ab j/\xs[j]?=ab v/\j<xs.length /\ -(xs.length:Int)<=i/\i<xs.length:=by
 unfold AA at h;cases e:BH xs.length i with
 |none=>rw[e] at h;cases h
 |some j =>
 rw[e] at h;obtain⟨d,b,f,c⟩:=sH e;exact⟨j,d,h,b,f,c⟩
theorem bQ {xs:List a}{j:Nat}{v:a} (h:xs[j]?=ab v):AA xs (j:Int)=ab v:=by
 have b:j<xs.length:=(HV.mp h).1;have e:BH xs.length (j:Int)=ab j:=by unfold BH;rw[zi yT,zi yT];simp
 unfold AA;rw[e];exact h
theorem uO (xs:List a) (v:a):AA (xs++[v]) (-1)=ab v:=by
 have b:(xs++[v]).length=xs.length+1:=ze
 have e:BH (xs++[v]).length (-1)=ab xs.length:=by unfold BH;rw[b,y9 y6,zi yT];congr 1;omega
 unfold AA;rw[e];show (xs++[v])[xs.length]?=ab v;simp
def zb (b:Expr):Prop:=∀o i,lc b am o i=operate [o,i] (f_ o i)
def EK (X:Cx) (r:R2):Prop :=
 ∀(c a:Expr) (b:List (ah × dP)) (s:aE) (Z:St) (H:Hp) (x y:V) (v u:av) (Q:VK),y4 X b Z H s->zh x v->zh y u->r x y H Q ->
  lc a am v u=operate [v,u] (f_ v u)->ax (aI X.prog X.w) X.A (fm c a v u) (EP X b Z Q) X.xe s
def E7 (X:Cx) (id:String) (r:V->List V->Hp->VK->Prop):Prop :=
 ∀(a:List (ah × dP)) (s:aE) (Z:St) (H:Hp) (x:V) (xs:List V) (v:av) (us:List av) (Q:VK),y4 X a Z H s->zh x v->y7 xs us->r x xs H Q ->
  ax (aI X.prog X.w) X.A (jS (.builtin id) (v::us)) (EP X a Z Q) X.xe s
section
variable {X:Cx}{a b:Expr}
theorem EK.or (h:EK X r) (h':EK X e):EK X (λx y H Q=>r x y H Q\/e x y H Q):=by
 intro a b c s Z H x y v u Q I g d q f;rcases q with q | q
 .exact h a b c s Z H x y v u Q I g d q f
 exact h' a b c s Z H x y v u Q I g d q f
theorem Wj (e:EK X r) (l:PE X a ta) (d:PE X b tb) (i:zb b):PE X (.Subscript a b ZT) (OA r ta tb):=by
 intro c s Z H Q I h;exact kB (QZ l d I h λv u f x y j m k g q=>e a b c f Z j x y v u Q m k g q (i _ _))
def Wl (K:a3):R2:=λx y H Q=>∃p xs i v,x=.ref p/\y=.int i/\A8 K H p xs/\AA xs i=ab v/\Q v H
def Wm (K:a3):R2:=λx y H Q=>∃p xs i v,x=.ref p/\y=.int i/\A0 K H p xs/\AA xs i=ab v/\Q v H
def Wn:R2:=λx y H Q=>∃z i c,x=.str z/\y=.int i/\z.length<=ai/\AA z.cps.toList i=ab c/\Q (.str ⟨#[c]⟩) H
theorem X1:EK X (Wl X.K):=by
 intro d f a s Z H x y v u Q I o G h n;obtain⟨p,xs,i,z,rfl,rfl,B,E,q⟩:=h;cases o;obtain⟨t,rfl⟩:=G;obtain⟨e,r,pl,hz⟩:=I.list B;obtain⟨j,c,C,L,D,A⟩:=sI E;obtain⟨w,m,k⟩:=r.get C;have F:=r.length;have J:=eV;have b:EP X a Z Q w s:=⟨z,H,I,k,q⟩;by_cases l:0<=i
 .have g:i.toNat=j:=by rw[si l A] at c;exact T_ c
  exact item_listR pl.isList l yT (by rw[g];simpa using m) b n
 have g:(i+(e.toArray.size:Int)).toNat=j:=by rw[oz yT D] at c;rw[p_,<- F];exact T_ c
 exact ku (x:=w) pl.isList.typeIs slot_list_getitem.lookup
  (wpAny_getItem_list_neg (Q:=λr s'=>r=w/\EP X a Z Q r s') pl.isList yT (by rw[p_] <;> omega) yT (by rw[g];simpa using m) ⟨rfl,b⟩) n
theorem ZH:EK X (Wm X.K):=by
 intro b c a s Z H x y v u Q I f A h B;obtain⟨p,xs,i,z,rfl,rfl,g,m,q⟩:=h;cases f;obtain⟨t,rfl⟩:=A;obtain⟨l,r,pl,hz⟩:=I.tuple g;obtain⟨j,C,k,F,G,E⟩:=sI m;obtain⟨w,n,d⟩:=r.get k;have o:=r.length;have D:=eV;have e:EP X a Z Q w s:=⟨z,H,I,d,q⟩;exact ku (x:=w) pl.typeIs slot_tuple_getitem.lookup
  (xc (j:=j) (Q:=λr s'=>r=w/\EP X a Z Q r s') pl yT yT (by rw[p_,<- o];exact C) (by simpa using n) ⟨rfl,e⟩) B
theorem Rm:EK X Wn:=by
 intro a b d s Z H x y v u Q I o k h m;obtain⟨z,i,c,rfl,rfl,hz,p,q⟩:=h;obtain⟨t,rfl⟩:=o;obtain⟨t',rfl⟩:=k;obtain⟨j,e,n,B,r,w⟩:=sI p;have g:z.cps.toList.length=z.length:=by simp [Str.length]
 rw[g] at e r w;have A:=eV;exact tr (tj s z t) slot_str_getitem.lookup (getItem_str (c:=c) (by
  have f:decide (i < -(2^63:Int))=am:=I_ yT
  have l:decide (i ≥ 2^63)=am:=I_ yT
  rw[f,l,ja]) (by rw[e];simpa using n) ⟨.str ⟨#[c]⟩,H,I.tok _,⟨_,rfl⟩,q⟩) m
def UF (K:a3):R2:=λx y H Q=>Wl K x y H Q\/Wm K x y H Q\/Wn x y H Q
theorem Rn:EK X (UF X.K):=X1.or (ZH.or Rm)
theorem xM (a:List av) (n j:Nat) (u:av):ce (·.setIfInBounds j u) { cls:=.type "list",data:=.seq a.toArray n}={ cls:=.type "list",data:=.seq (a.set j u).toArray n}:=by
 simp [ce]
theorem y4.lst {b:List (ah × dP)}{Z:St} (I:y4 X b Z H s) (h:H p=ab (.lst xs)):
  ∃(a:List av) (n:Nat),y7 xs a/\s.heap.get? p=ab { cls:=.type "list",data:=.seq a.toArray n}/\xs.length<=ai:=by
 obtain⟨z,a,n,r,e⟩:=I.hok p _ h;exact⟨a,n,r,e,z⟩
theorem y4.lstUpd {a:List (ah × dP)}{Z:St}{c its':List av} (I:y4 X a Z H s) (h:H p=ab (.lst xs)) (j:s.heap.get? p=ab { cls:=.type "list",data:=.seq c.toArray n}) (i:f { cls:=.type "list",data:=.seq c.toArray n}={ cls:=.type "list",data:=.seq its'.toArray g}) (r:y7 d its') (hz:d.length<=ai) (t:Nat):
  y4 X a Z (zw H p (.lst d)) { s with heap:=s.heap.update p f,toks:=t}:=by
 have e:(s.heap.update p f).get? p=ab { cls:=.type "list",data:=.seq its'.toArray g}:=by rw[F9 f j (by rw[i] <;> rfl),i]
 refine I.write (x:=p) (e:=p) (by rw[h];trivial) (.inl rfl) (λb u k q=>(HL _ _ (aS k)).trans q) ⟨_,e⟩ ?_;exact⟨hz,its',g,r,e⟩
def Wo:V->V->V->Hp->(Hp->Prop)->Prop:=λo i v H Q=>∃p xs k j,o=.ref p/\i=.int k/\H p=ab (.lst xs)/\BH xs.length k=ab j/\Q (zw H p (.lst (xs.set j v)))
theorem GG:LM X Wo:=by
 intro b s Z H o i v D F u Q I B A z h;obtain⟨p,xs,k,j,rfl,rfl,l,y,q⟩:=h;cases B;obtain⟨t,rfl⟩:=A;obtain⟨a,n,r,d,hz⟩:=I.lst l;obtain⟨c,E,g,w⟩:=sH y;have e:=r.length;have C:=eV;have x:y4 X b Z (zw H p (.lst (xs.set j v))) { s with heap:=s.heap.update p (ce (·.setIfInBounds j u))} :=
  I.lstUpd l d (xM a n j u) (r.set z j) (by rw[kU];exact hz) s.toks
 by_cases m:0<=k
 .have f:k.toNat=j:=by rw[si m w] at c;exact T_ c
  exact PySem.W.ki_setAt d m yT (by rw[p_,<- e];exact w) (by rw[f];exact⟨_,x,q⟩)
 have f:(k+(a.toArray.size:Int)).toNat=j:=by rw[oz yT g] at c;rw[p_,<- e];exact T_ c
 exact PySem.W.ki_setBack d yT (by rw[p_,<- e];exact g) yT (by rw[f];exact⟨_,x,q⟩)
theorem sJ (b a:Option Int) (n:Nat):(eL b a af n).1=((HT.sIx n 0 b:Nat):Int)/\(eL b a af n).2.1=((HT.sIx n n a:Nat):Int)/\(eL b a af n).2.2=1:=by
 refine⟨?_,?_,rfl⟩
 .cases b with
  |none=>simp [eL,HT.sIx]
  |some i =>
  simp only[eL,HT.sIx,rX,show (1:Int)>0 by decide,if_true];by_cases h:i<0
  .simp only[h,if_true] <;> omega
  simp only[h,Y_] <;> omega
 cases a with
 |none=>simp [eL,HT.sIx]
 |some i =>
 simp only[eL,HT.sIx,rX,show (1:Int)>0 by decide,if_true];by_cases h:i<0
 .simp only[h,if_true] <;> omega
 simp only[h,Y_] <;> omega
theorem qe (a:List av) (b c:Option Int):slicePick a.toArray b c af=((a.drop (HT.sIx a.length 0 b)).take (HT.sIx a.length a.length c - HT.sIx a.length 0 b)).toArray:=by
 obtain⟨e,d,f⟩:=sJ b c a.toArray.size;unfold slicePick;rw[e,d,f];simp only[sliceRange_one,pick_run,p_] <;> rfl
def ZL (K:a3):V->Option Int->Option Int->Hp->VK->Prop:=λx c b H Q=>∃a xs,x=.ref a/\A8 K H a xs/\∀p,H p=af->Q (.ref p) (zw H p (.lst (uN xs c b)))
theorem ZA:KO X (ZL X.K):=by
 intro g s Z H x v t u d e n Q I k j pl l h;obtain⟨a,xs,rfl,i,q⟩:=h;cases k;obtain⟨m,r,f,hz⟩:=I.list i;have c:=r.length;refine⟨"list",_,slot_list_getitem.lookup,f.isList.typeIs,?_⟩;refine i0 f.isList j pl l .none ze ?_ (by rw[p_] <;> omega);rw[qe,<- c];refine⟨.ref s.heap.objs.size,_,I.laid (t':=s.toks) (o:=.lst (uN xs d e)) (λb p q=>e_ _ q) (l_ _) ?_,rfl,q _ (I.hok.fresh (l_ _))⟩;exact⟨U_ (lQ xs d e) hz,_,0,(r.drop (HT.sIx xs.length 0 d)).take (HT.sIx xs.length xs.length e - HT.sIx xs.length 0 d),t_ _ rfl⟩
theorem YR:Cf X (.builtin "len") (λxs H Q=>∃p b,xs=[.ref p]/\(A8 X.K H p b\/A0 X.K H p b)/\Q (.int b.length) H):=by
 intro f s Z H xs us Q I r h;obtain⟨p,b,rfl,c,q⟩:=h;obtain⟨u,rfl,g⟩:=AQ r;cases g;have i:=eV;rcases c with c | c
 .obtain⟨e,d,pl,hz⟩:=I.list c;have a:=d.length;exact Calls.call_len_list pl.isList (by simp only[p_] <;> omega) ⟨.int b.length,H,I.tok _,⟨s.toks+1,by rw[p_,a]⟩,q⟩
 obtain⟨e,d,pl,hz⟩:=I.tuple c;have a:=d.length;exact xz pl (by simp only[p_] <;> omega) ⟨.int b.length,H,I.tok _,⟨s.toks+1,by rw[p_,a]⟩,q⟩
theorem sO:Cf X (.builtin "len") (λxs H Q=>∃z,xs=[.str z]/\z.length<=ai/\Q (.int z.length) H):=by
 intro a s Z H xs us Q I r h;obtain⟨z,rfl,hz,q⟩:=h;obtain⟨u,rfl,t,rfl⟩:=AQ r;have b:=eV;exact len_str yT ⟨.int z.length,H,I.tok _,⟨_,rfl⟩,q⟩
theorem Cf.or (h:Cf X f r) (h':Cf X f c):Cf X f (λxs H Q=>r xs H Q\/c xs H Q):=by
 intro a s Z H xs us Q I b q;rcases q with q | q
 .exact h a s Z H xs us Q I b q
 exact h' a s Z H xs us Q I b q
theorem sS:Cf X (.type "list") (λxs H Q=>∃p c,xs=[.ref p]/\(A8 X.K H p c\/A0 X.K H p c)/\∀l,H l=af->Q (.ref l) (zw H l (.lst c))):=by
 intro i s Z H xs us Q I r h;obtain⟨p,c,rfl,j,q⟩:=h;obtain⟨u,rfl,z⟩:=AQ r;cases z;have m:∀(a:List av),y7 c a->c.length<=ai->∀(h':cK) (f:Nat),(∀b y,s.heap.get? b=ab y->h'.get? b=ab y) ->
   h'.get? s.heap.objs.size=ab { cls:=.type "list",dict:=af,data:=.seq a.toArray f,slots:=#[]}->EP X i Z Q (.ref s.heap.objs.size) { s with heap:=h'}:=λa d hz h' f g e =>
  ⟨.ref s.heap.objs.size,_,I.laid (t':=s.toks) g (l_ _) (show Bz X.prog X.w _ h' _ (.lst c) from ⟨hz,a,f,d,e⟩),rfl,q _ (I.hok.fresh (l_ _))⟩
 rcases j with j | j
 .obtain⟨a,d,pl,hz⟩:=I.list j;have k:=d.length;obtain⟨o,t,x,n,v⟩:=pl.isList;exact xh p (.inl rfl) t x v (λh' f g e=>m a d hz h' f g e) (by simp only[p_] <;> omega)
 obtain⟨a,d,pl,hz⟩:=I.tuple j;have k:=d.length;obtain⟨o,t,x,n,v⟩:=pl;exact xh p (.inr rfl) t x v (λh' f g e=>m a d hz h' f g e) (by simp only[p_] <;> omega)
theorem qg:Cf X (.type "tuple") (λxs H Q=>∃p d,xs=[.ref p]/\((A8 X.K H p d/\∀l,H l=af->Q (.ref l) (zw H l (.tup d)))\/(A0 X.K H p d/\Q (.ref p) H))):=by
 intro a s Z H xs us Q I r h;obtain⟨p,d,rfl,h⟩:=h;obtain⟨u,rfl,m⟩:=AQ r;cases m;rcases h with ⟨f,q⟩ | ⟨f,q⟩
 .obtain⟨c,g,pl,hz⟩:=I.list f;have j:=g.length;refine call_tuple_list pl.isList (λh' k=>?_) (by simp only[p_] <;> omega);have i:y4 X a Z H { s with heap:=h'}:=I.kept (t':=s.toks) k;have n:y4 X a Z (zw H h'.objs.size (.tup d)) { s with heap:=h'.push { cls:=.type "tuple",data:=.seq c.toArray}} :=
   i.laid (t':=s.toks) (λb o e=>e_ _ e) (l_ _) (show Bz X.prog X.w _ _ _ (.tup d) from ⟨hz,c,g,EO.new _ _⟩)
  exact⟨.ref h'.objs.size,_,n,rfl,q _ (i.hok.fresh (l_ _))⟩
 obtain⟨c,g,pl,hz⟩:=I.tuple f;exact call_tuple_same pl ⟨.ref p,H,I,rfl,q⟩
def Pf (K:a3) (T:String) (x:V) (H:Hp):Prop:=match x with
 |.str _=>T="str"
 |.int _=>T="int"
 |.ref p=>(T="list"/\∃xs,A8 K H p xs)\/(T="tuple"/\∃xs,A0 K H p xs) \/
   (T="dict"/\((∃kvs,H p=ab (.dK kvs))\/∃kvs,H p=ab (.dT kvs)))\/(T="set"/\∃S n,H p=ab (.set S n))
 |_=>False
theorem Ea {Z:St} (I:y4 X f Z H s) (r:zh x v) (j:Pf X.K T x H):
  s.TypeIs v T/\∀a,v=.ref a->∃q,s.heap.get? a=ab q/\q.dict=af:=by
 cases x with
 |str z=>obtain⟨t,rfl⟩:=r;cases (show T="str" from j);exact⟨tj s z t,λ_ e=>nomatch e⟩
 |int i=>obtain⟨t,rfl⟩:=r;cases (show T="int" from j);exact⟨tm s i t,λ_ e=>nomatch e⟩
 |ref p =>
  cases r;rcases j with ⟨rfl,xs,w⟩ | ⟨rfl,xs,b⟩ | ⟨rfl,b⟩ | ⟨rfl,S,n,b⟩
  .obtain⟨g,_,pl,_⟩:=I.list w;refine⟨pl.isList.typeIs,λa e=>?_⟩;cases e;obtain⟨o,n,e,c,h,_⟩:=pl;exact⟨o,e,h⟩
  .rcases b with b | ⟨o,g,n,b,l,h,_⟩
   .obtain⟨_,g,r,o,m,l,n,h,u⟩:=b.ok I.hok;refine⟨⟨o,m,l⟩,λa e=>?_⟩;cases e;exact⟨o,m,u⟩
   refine⟨⟨o,I.kIn p o b,l⟩,λa e=>?_⟩;cases e;exact⟨o,I.kIn _ o b,h⟩
  .have z:∃o,s.heap.get? p=ab o/\o.ExactDict:=by
    rcases b with ⟨kvs,b⟩ | ⟨kvs,b⟩
    .obtain⟨_,_,_,_,o,_,_,e,d,_⟩:=I.hok p _ b;exact⟨o,e,d⟩
    obtain⟨_,_,_,_,o,_,_,e,d,_⟩:=I.hok p _ b;exact⟨o,e,d⟩
   obtain⟨o,e,d⟩:=z;refine⟨⟨o,e,d.1⟩,λa k=>?_⟩;cases k;exact⟨o,e,d.2.1⟩
  obtain⟨o,_,_,_,e,d,_⟩:=I.hok p _ b;refine⟨⟨o,e,d.1⟩,λa k=>?_⟩;cases k;exact⟨o,e,d.2.1⟩
 |_=>exact c9 j
def ZM (K:a3) (T:String) (r:V->List V->Hp->VK->Prop) (b:TE):TE:=λZ H Q=>b Z H λx a=>Pf K T x a/\r x [] a Q
def Wp (K:a3) (T:String) (r:V->List V->Hp->VK->Prop) (c:TE) (t:TA):TE:=λZ H Q=>c Z H λx a=>Pf K T x a/\t Z a λxs b=>r x xs b Q
variable {ZY ZU:kc}{T id:String}
theorem Ro (k:nI T) (d:xo T name id) (e:x9 (.builtin id)=bE (.type "method_descriptor")) (l:E7 X id r) (i:PE X o to)
  (c:cS o name X.env (bo o X.env)=bo o X.env:=by rfl) (b:(ZY.endLine==ZU.line)=ag:=by rfl):PE X (.Call (.Attribute o name ZY) [] [] ZU) (ZM X.K T r to):=by
 intro a s Z H Q I h;refine jv c b (z3 (i a s Z H _ I h) λv n ⟨x,j,g,f,m,q⟩=>?_);obtain⟨t,p⟩:=Ea g f m;exact⟨T,id,k,d,e,t,p,P2 rfl (mx (l a n Z j x [] v [] Q g f .nil q))⟩
theorem Wq (y:nI T) (f:xo T name id) (i:x9 (.builtin id)=bE (.type "method_descriptor")) (q:E7 X id r) (B:PE X o to) (F:PA X (e::es) t)
  (d:cS o name X.env (bo o X.env)=bo o X.env:=by rfl)
  (g:((bb ZU (aw (e::es) X.env)).all (λx=>!x.1)&&(pa ZU (im [] X.env)).all (λx=>x.1.isSome)
   && decide ((e::es).length+([]:List qa).length+(if ([]:List qa).isEmpty then 0 else 1)<30))=ag:=by rfl)
  (c:(ZY.endLine==ZU.line)=ag:=by rfl) (D:aw (e::es) X.env=(am,bo e X.env)::aw es X.env:=by rfl) (b:(bb ZU (aw es X.env)).any (·.1)=am:=by rfl) :
  PE X (.Call (.Attribute o name ZY) (e::es) [] ZU) (Wp X.K T r to t):=by
 intro a s Z H Q I h;refine wpAny_Call_method_late d g c rfl (z3 (B a s Z H _ I h) λv C ⟨x,m,k,j,z,w⟩=>?_);obtain⟨J,u⟩:=Ea k j z;refine⟨T,id,y,f,i,J,u,?_⟩;have l:=F ZU a C Z m _ k w;rw[D] at l |-;refine P2 (by show (am||(bb ZU (aw es X.env)).any (·.1))=am;rw[b] <;> rfl) (mf ?_);exact z3 l λus n ⟨vs,E,p,A,G⟩=>q a n Z E x vs v us Q p j A G
end
def Pt (X:Cx) (id:String) (r:V->List V->Hp->VK->Prop):Prop :=
 ∀(a:List (ah × dP)) (s:aE) (Z:St) (H:Hp) (x:V) (xs:List V) (v:av) (us:List av) (Q:VK),y4 X a Z H s->zh x v->y7 xs us->r x xs H Q ->
  ax (aI X.prog X.w) X.A (jS (.builtin id) (v::us)) (EP X a Z Q) X.xe s
theorem y7.one (r:y7 [x] us):∃u,us=[u]/\zh x u:=AQ r
theorem y7.zero:∀{us:List av},y7 [] us->us=[]
 |_,.nil=>rfl
theorem y7.dropLast (h:y7 xs us):y7 xs.dropLast us.dropLast:=by
 induction h with
 |nil=>exact .nil
 |cons r t a =>
 cases t with
 |nil=>exact .nil
 |cons q t'=>exact .cons r a
theorem y7.eraseIdx:∀{xs:List V}{us:List av}(i:Nat),y7 xs us->y7 (xs.eraseIdx i) (us.eraseIdx i)
 |_,_,_,.nil=>.nil
 |_,_,0,.cons _ t=>t
 |_,_,i+1,.cons r t=>.cons r (y7.eraseIdx i t)
theorem y7.reverse (h:y7 xs us):y7 xs.reverse us.reverse:=by
 induction h with
 |nil=>exact .nil
 |cons r t a=>rw[iN,iN];exact y7.append a (.cons r .nil)
theorem y7.rep (h:y7 xs us):∀k:Nat,y7 (a4 k xs).flatten (a4 k us).flatten
 |0=>.nil
 |k+1=>by
  rw[Lu,Lu,IU,IU]
  exact y7.append h (y7.rep h k)
theorem xN {d:Type}(l:List d):l.eraseIdx (l.length - 1)=l.dropLast:=by
 induction l with
 |nil=>rfl
 |cons a r c =>
 cases r with
 |nil=>rfl
 |cons b r =>
  have e:(a::b::r).length - 1=((b::r).length - 1)+1:=by
   have g:(a::b::r).length=r.length+2:=rfl
   have f:(b::r).length=r.length+1:=rfl
   omega
  rw[e,List.eraseIdx_cons_succ,c]
  all_goals rfl
theorem qR {a:Type}:∀(l:List a) (i:Nat),(l.eraseIdx i).length<=l.length
 |[],_=>l_ _
 |_::_,0=>ID _
 |_::r,i+1=>Nat.succ_le_succ (qR r i)
theorem Ct (b:List av):∀(k:Nat) (a:List av),
  wt (λf d=>f++d) a.toArray (a4 k b.toArray)=(a++(a4 k b).flatten).toArray
 |0,a=>by simp
 |k+1,a=>by
  have e:a.toArray++b.toArray=(a++b).toArray:=ze
  have c:(a++b)++(a4 k b).flatten=a++(a4 (k+1) b).flatten:=by
   rw[Lu,IU,EF]
  rw[<- c,<- Ct b k (a++b),<- e,Lu,List.foldl_cons]
section
variable {X:Cx}{ZO:List (ah × dP)}{Z:St}
theorem y4.lset {a its':List av} (I:y4 X ZO Z H s) (d:H l=ab (.lst xs)) (e:s.heap.get? l=ab { cls:=.type "list",data:=.seq a.toArray n}) (c:f a.toArray=its'.toArray) (h:y7 ys its') (hz:ys.length<=ai):
  y4 X ZO Z (zw H l (.lst ys)) { s with heap:=s.heap.update l (ce f),toks:=t'}:=by
 have q:=PySem.IsL.update e f;rw[c] at q;refine I.write (x:=l) (e:=l) (by rw[d];exact trivial) (.inl rfl) (λi u b g=>(HL s.heap (ce f) (aS b)).trans g) ⟨_,q⟩ ?_;exact⟨hz,its',_,h,q⟩
theorem y4.lnew (I:y4 X ZO Z H s) (b:y7 ys a) (hz:ys.length<=ai):
  y4 X ZO Z (zw H s.heap.objs.size (.lst ys)) { s with heap:=s.heap.push { cls:=.type "list",data:=.seq a.toArray},toks:=t'} :=
 I.laid (λ_ _ q=>e_ _ q) (l_ _) ⟨hz,a,0,b,t_ _ rfl⟩
theorem y4.fresh (I:y4 X ZO Z H s):H s.heap.objs.size=af:=I.hok.fresh (l_ _)
theorem y4.lstM (I:y4 X ZO Z H s) (b:H l=ab (.lst xs)):xs.length<=ai/\∃(a:List av) (n:Nat),y7 xs a/\xs.length=a.length/\s.heap.get? l=ab { cls:=.type "list",data:=.seq a.toArray n}:=by
 obtain⟨z,a,n,r,e⟩:=I.hok l _ b;exact⟨z,a,n,r,r.length,e⟩
theorem nU (h:n<=ai):b9 n=am:=by
 unfold b9;exact I_ yT
def JQ:V->List V->Hp->VK->Prop:=λx vs H Q=>∃l xs y,x=.ref l/\vs=[y]/\H l=ab (.lst xs)/\xs.length<ai/\Q .non (zw H l (.lst (xs++[y])))
theorem BJ:Pt X "list.append" JQ:=by
 intro b s Z H x vs v us Q I f d h;obtain⟨l,xs,y,rfl,rfl,c,hz,q⟩:=h;cases f;obtain⟨u,rfl,g⟩:=d.one;obtain⟨z,a,n,r,i,e⟩:=I.lstM c;refine II og ⟨_,e,rfl⟩ mN (me _ _) (list_append l a.toArray n u (by rw[p_];omega)) ⟨e,?_⟩;refine⟨.non,_,I.lset (its':=a++[u]) c e ze (r.append (.cons g .nil)) ?_,rfl,q⟩;rw[b_,E_];omega
def JR:V->List V->Hp->VK->Prop:=λx vs H Q=>∃l b xs a,x=.ref l/\vs=[.ref b]/\H l=ab (.lst xs)/\H b=ab (.lst a)/\xs.length+a.length<=ai/\Q .non (zw H l (.lst (xs++a)))
theorem BK:Pt X "list.extend" JR:=by
 intro f s Z H x vs v us Q I o i h;obtain⟨l,b,xs,B,rfl,rfl,g,p,hz,q⟩:=h;cases o;obtain⟨u,rfl,t⟩:=i.one;cases t;obtain⟨z,c,n,r,y,e⟩:=I.lstM g;obtain⟨A,a,k,w,j,m⟩:=I.lstM p;have hsz:c.toArray.size+a.toArray.size<=ai:=by rw[p_,p_];omega
 have d:¬(!c.toArray.isEmpty&&b9 (c.toArray.size+a.toArray.size))=ag:=by rw[nU hsz,OH];exact B_
 refine II oe ⟨_,e,rfl⟩ mM (md _ _)
  (AutoSeq1.list_extend_list_list_0 l c.toArray n b a.toArray k d (by rw[p_];omega) yT) ⟨e,m,?_⟩
 refine⟨.non,_,I.lset (its':=c++a) g e ze (r.append w) ?_,rfl,q⟩;rw[b_];omega
def ZP:V->List V->Hp->VK->Prop:=λx vs H Q=>∃l xs y,x=.ref l/\vs=[]/\H l=ab (.lst xs)/\xs[xs.length - 1]?=ab y/\Q y (zw H l (.lst xs.dropLast))
theorem Rp:Pt X "list.pop" ZP:=by
 intro d s Z H x vs v us Q I k g h;obtain⟨l,xs,y,rfl,rfl,f,m,q⟩:=h;cases k;have c:=g.zero;subst c;obtain⟨z,a,n,r,i,e⟩:=I.lstM f;obtain⟨u,j,o⟩:=r.get m;have b:a.toArray[a.toArray.size - 1]?=ab u:=by show a.toArray[a.length - 1]?=ab u;rw[<- Go,<- i];exact j
 refine II sM ⟨_,e,rfl⟩ sd (F.args_list_pop_1 _) (MeetsSeq.list_pop_last l a.toArray n u b (by rw[p_];omega)) ⟨e,?_⟩;refine⟨y,_,I.lset (its':=a.dropLast) f e ?_ r.dropLast ?_,o,q⟩
 .show a.toArray.eraseIdxIfInBounds (a.toArray.size - 1)=a.dropLast.toArray;rw[p_,e9,xN]
 rw[List.length_dropLast];omega
def Rq:V->List V->Hp->VK->Prop:=λx vs H Q=>∃l xs i k y,x=.ref l/\vs=[.int i]/\H l=ab (.lst xs) /\ -(2^63)<=i/\i<2^63/\qV i xs.length=ab k/\xs[k]?=ab y/\Q y (zw H l (.lst (xs.eraseIdx k)))
theorem Eb:Pt X "list.pop" Rq:=by
 intro c s Z H x vs v us Q I o f h;obtain⟨l,xs,i,k,y,rfl,rfl,d,B,m,C,p,q⟩:=h;cases o;obtain⟨u,rfl,A⟩:=f.one;obtain⟨t,rfl⟩:=A;obtain⟨z,a,n,r,g,e⟩:=I.lstM d;obtain⟨w,j,b⟩:=r.get p;refine II sM ⟨_,e,rfl⟩ sd (F.args_list_pop_2 _ _)
  (MeetsSeq.list_pop_at l a.toArray n i t k w (lx B m) (by rw[p_,<- g];exact C) (by rw[<- Go];exact j) (by rw[p_];omega)) ⟨e,?_⟩
 refine⟨y,_,I.lset (its':=a.eraseIdx k) d e ?_ (r.eraseIdx k) ?_,b,q⟩
 .show a.toArray.eraseIdxIfInBounds k=(a.eraseIdx k).toArray;rw[e9]
 have:=qR xs k;omega
def ZQ:R2:=λx y H Q=>∃l b xs a,x=.ref l/\y=.ref b/\H l=ab (.lst xs)/\H b=ab (.lst a)/\xs.length+a.length<=ai/\∀p,H p=af->Q (.ref p) (zw H p (.lst (xs++a)))
theorem WU:AO X (br .Add) ZQ:=by
 intro d s Z H x y v u Q I m i h;obtain⟨l,b,xs,B,rfl,rfl,g,o,hz,q⟩:=h;cases m;cases i;obtain⟨z,c,n,r,t,e⟩:=I.lstM g;obtain⟨A,a,w,p,j,k⟩:=I.lstM o;refine PySem.P.add_list e k ?_ (by rw[p_,p_];omega);have f:c.toArray++a.toArray=(c++a).toArray:=ze
 rw[f];exact⟨.ref _,_,I.lnew (t':=s.toks) (r.append p) (by rw[b_];omega),rfl,q _ I.fresh⟩
def ZR:R2:=λx y H Q=>∃l k xs,x=.ref l/\y=.int k/\H l=ab (.lst xs) /\ -(2^63)<=k/\k<2^63/\xs.length*k.toNat<=ai /\
 ∀p,H p=af->Q (.ref p) (zw H p (.lst (a4 k.toNat xs).flatten))
theorem IP {b:Type}(xs:List b) (k:Nat):(a4 k xs).flatten.length=k*xs.length:=by
 induction k with
 |zero=>simp
 |succ k a=>rw[Lu,IU,b_,a,Nat.succ_mul,Nat.add_comm]
theorem Rr:AO X (br .Mult) ZR:=by
 intro p s Z H x y v u Q I E B h;obtain⟨l,k,xs,rfl,rfl,A,G,D,hz,q⟩:=h;cases E;obtain⟨t,rfl⟩:=B;obtain⟨z,b,n,r,w,e⟩:=I.lstM A;have g:b.toArray.size*k.toNat<=ai:=by rw[p_,<- w];exact hz
 have i:¬b.toArray.size*k.toNat>(2^63 - 1) / 8:=by
  have:(ai:Nat)<=(2^63 - 1) / 8:=by decide
  omega
 have d:¬(!dk k)=ag:=by rw[lx G D];exact B_
 have c:¬b9 (b.toArray.size*k.toNat)=ag:=by rw[nU g];exact B_
 have f:wt (λo j=>o++j) #[] (a4 (if b.toArray.isEmpty=ag then 0 else k.toNat) b.toArray)=(a4 k.toNat b).flatten.toArray:=by
  have C:∀m:Nat,wt (λo j=>o++j) #[] (a4 m b.toArray)=(a4 m b).flatten.toArray:=λm=>by have:=Ct b m [];rw[sD] at this;exact this
  rw[C];cases b with
  |nil=>simp
  |cons a J=>rw[y9 ze]
 refine wpAny_binaryOp_repeat_ref (T:="list") (U:="int") y6 ⟨_,e,rfl⟩ (λs'=>tm s' k t) noFill_list_mul F.fills_int_mul sN repeat_list F.slot_int_index.lookup
  (II sN (tm s k t) F.entry_int_rmul (F.args_int_rmul_2 _ _) (int___rmul___int_list k t l b.toArray n)
   ⟨e,rfl,⟨_,e,rfl⟩,II F.slot_list_mul ⟨_,e,rfl⟩ F.entry_list_mul (F.args_list_mul_2 _ _) (AutoListH.list___mul___list_int_3 l b.toArray n k t d i c) ⟨e,?_⟩⟩)
 rw[f];exact⟨.ref _,_,I.lnew (t':=s.toks) (r.rep k.toNat) (by rw[IP,pE];exact hz),rfl,q _ I.fresh⟩
set_option maxRecDepth 100000 in
end
section
variable {κ:Type}[DecidableEq κ]
def fK (kvs:List (κ × V)) (k:κ):Option V:=(kvs.find? λa=>decide (a.1=k)).map (·.2)
def AK (kvs:List (κ × V)) (k:κ) (v:V):List (κ × V) :=
 if (kvs.any λa=>decide (a.1=k))=ag then kvs.map (λa=>if a.1=k then (a.1,v) else a) else kvs++[(k,v)]
theorem fL {k:κ} (e:p.1=k):fK (p::r) k=ab p.2:=by simp [fK,IC,e]
theorem fM {k:κ} (e:¬p.1=k):fK (p::r) k=fK r k:=by simp [fK,IC,e]
theorem uP (k:κ):∀kvs:List (κ × V),(kvs.any λa=>decide (a.1=k))=(fK kvs k).isSome
 |[]=>rfl
 |p::r=>by
  rw[MQ]
  by_cases e:p.1=k
  ·
   simp only[fL e,N_ e,qA,QN]
  ·
   rw[fM e,I_ e,jp];exact uP k r
theorem gD (kvs:List (κ × V)) (k:κ) (v:V):(AK kvs k v).length<=kvs.length+1:=by
 unfold AK;split
 .rw[d_];omega
 rw[b_,j_,FR];omega
theorem C9.isSome_eq (r:C9 o u):o.isSome=u.isSome:=by
 cases o with
 |none=>cases u with
  |none=>rfl
  |some _=>exact (show False from r).elim
 |some _=>cases u with
  |none=>exact (show False from r).elim
  |some _=>rfl
theorem KV.val (r:KV kvs vs) (k:κ):C9 (fK kvs k) (mi vs k):=by
 unfold KV at r;induction r with
 |nil=>exact eu
 |@cons p q i c h t f =>
 obtain⟨d,g⟩:=h;by_cases e:p.1=k
 .have a:q.1=k:=d.symm.trans e;have b:mi (q::c) k=ab q.2:=by simp [mi,IC,a]
  rw[fL e,b];exact g
 have a:¬q.1=k:=λz=>e (d.trans z);have b:mi (q::c) k=mi c k:=by simp [mi,IC,a]
 rw[fM e,b];exact f
theorem KV.any (r:KV kvs vs) (k:κ):(kvs.any λa=>decide (a.1=k))=vs.any λa=>decide (a.1=k):=by
 unfold KV at r;induction r with
 |nil=>rfl
 |cons h t b=>rw[MQ,MQ,b,h.1]
theorem KV.repl (r:KV kvs vs) (k:κ) (d:zh y u):
  KV (kvs.map λa=>if a.1=k then (a.1,y) else a) (vs.map λa=>if a.1=k then (a.1,u) else a):=by
 unfold KV at r |-;induction r with
 |nil=>exact .nil
 |@cons p q g i h t c =>
 rw[z_,z_];refine .cons ?_ c;obtain⟨b,f⟩:=h;by_cases e:p.1=k
 .rw[zi e,zi (b.symm.trans e)];exact⟨b,d⟩
 rw[y9 e,y9 (λz=>e (b.trans z))];exact⟨b,f⟩
theorem KV.put (r:KV kvs vs) (k:κ) (a:zh y u):KV (AK kvs k y) (stored vs k u):=by
 unfold AK stored;rw[r.any k];by_cases e:(vs.any λb=>decide (b.1=k))=ag
 .rw[zi e,zi e];exact r.repl k a
 rw[y9 e,y9 e];exact l5 r ⟨rfl,a⟩
theorem KV.length {vs:List (κ × av)} (r:KV kvs vs):kvs.length=vs.length:=FK r
end
theorem lR (r:zh (kV k) u):(bA P w).is k u=ag:=by
 cases k with
 |inl i=>obtain⟨t,e⟩:=(show ∃t,u=da i t from r);subst e;exact uH P w i t
 |inr x=>obtain⟨t,e⟩:=(show ∃t,u=rL x t from r);subst e;exact uI P w x t
theorem qT:∀{a:List z5}{us:List av},y7 (a.map kV) us->ItemsAre (bA P w) a us
 |[],_,r=>by rw[DH] at r;cases r;exact .nil
 |k::a,_,r=>by
  rw[z_] at r
  cases r with
  |cons h t=>exact .cons (lR h) (qT t)
abbrev KT (H:Hp):List (List z5 × V)->List (List z5 × ah × av)->Prop:=g9 λp q=>p.1=q.1/\H q.2.1=ab (.tup (p.1.map kV))/\zh p.2 q.2.2
theorem KT.val (r:KT H kvs xs) (k:List z5):C9 (fK kvs k) ((so xs k).map (·.2)):=by
 induction r with
 |nil=>exact eu
 |@cons p q i c h t f =>
 obtain⟨d,_,g⟩:=h;by_cases e:p.1=k
 .have a:q.1=k:=d.symm.trans e;have b:so (q::c) k=ab q.2:=by simp [so,IC,a]
  rw[fL e,b];exact g
 have a:¬q.1=k:=λz=>e (d.trans z);have b:so (q::c) k=so c k:=by simp [so,IC,a]
 rw[fM e,b];exact f
theorem KT.repl (r:KT H kvs xs) (k:List z5) (f:zh y u):
  KT H (kvs.map λb=>if b.1=k then (b.1,y) else b) (xs.map (putAt k u)):=by
 induction r with
 |nil=>exact .nil
 |@cons p q i j h t d =>
 rw[z_,z_];refine .cons ?_ d;obtain⟨a,c,g⟩:=h;unfold putAt;by_cases e:p.1=k
 .rw[zi e,zi (a.symm.trans e)];exact⟨a,c,f⟩
 rw[y9 e,y9 (λz=>e (a.trans z))];exact⟨a,c,g⟩
theorem KT.put (r:KT H kvs xs) (k:List z5) (c:H b=ab (.tup (k.map kV))) (a:zh y u):
  KT H (AK kvs k y) (storedH xs k b u):=by
 have e:(kvs.any λd=>decide (d.1=k))=(so xs k).isSome:=by rw[uP,(r.val k).isSome_eq,iA]
 unfold AK storedH;rw[e];by_cases q:(so xs k).isSome=ag
 .rw[zi q,zi q];exact r.repl k a
 rw[y9 q,y9 q];exact l5 r ⟨rfl,c,a⟩
theorem KT.keeps (r:KT H kvs xs) (a:∀b ys,H b=ab (.tup ys)->H' b=ab (.tup ys)):KT H' kvs xs :=
 Paired.mapP r λ_ _ z=>⟨z.1,a _ _ z.2.1,z.2.2⟩
section
variable {P:bX}{w:bP}
theorem Nt (b:A9 P w H h) (e:Rd H a u):Bz P w H h a u:=e.ok b
theorem jM (b:A9 P w H h) (e:Rd H a (.dK kvs)):kvs.length<=ai/\(a==dE)=am/\∃vs,KV kvs vs/\h.DictOf (bA P w) a vs :=
 show Bz P w H h a (.dK kvs) from Nt b e
theorem zc (b:A9 P w H h) (e:H a=ab (.dK kvs)):kvs.length<=ai/\(a==dE)=am/\∃vs,KV kvs vs/\h.DictOf (bA P w) a vs:=jM b (.inl e)
theorem nY (d:A9 P w H h) (e:H a=ab (.tup (b.map kV))):(mn (bA P w)).is h b a:=by
 obtain⟨_,c,r,o,g,f,n,i,_⟩:=(show Bz P w H h a (.tup (b.map kV)) from d a _ e);exact⟨o,c.toArray,n,g,f,i,by simpa using qT r⟩
theorem qU (f:A9 P w H h) (e:Rd H a (.dT kvs)):kvs.length<=ai/\(a==dE)=am /\
  ∃xs,KT H kvs xs/\h.DictOfH (mn (bA P w)) a xs:=by
 obtain⟨z,y,xs,r,o,i,ep,s,j,u,k,n⟩:=(show Bz P w H h a (.dT kvs) from Nt f e);refine⟨z,y,xs,r,o,i,ep,s,j,u,k,λx b=>?_,n⟩;have c:∀{l:List (List z5 × V)} {m:List (List z5 × ah × av)},KT H l m->∀x∈m,(mn (bA P w)).is h x.1 x.2.1:=by
  intro l m q;induction q with
  |nil=>intro x b;exact nomatch b
  |@cons p q v A d t g =>
  intro x b;rcases o_.mp b with e | b
  .subst e;exact nY f (by rw[<- d.1];exact d.2.1)
  exact g x b
 exact c r x b
theorem Wr (b:A9 P w H h) (e:H a=ab (.dT kvs)):kvs.length<=ai/\(a==dE)=am /\
  ∃xs,KT H kvs xs/\h.DictOfH (mn (bA P w)) a xs:=qU b (.inl e)
end
def Db (H:Hp) (a:ah) (y:V) (r:Option V):Prop :=
 (∃kvs k,Rd H a (.dK kvs)/\y=kV k/\r=fK kvs k)\/∃kvs k b,Rd H a (.dT kvs)/\y=.ref b/\H b=ab (.tup (k.map kV))/\r=fK kvs k
def Jn (H:Hp) (a:ah) (y v:V) (H':Hp):Prop :=
 (∃kvs k,H a=ab (.dK kvs)/\y=kV k/\kvs.length<ai/\H'=zw H a (.dK (AK kvs k v))) \/
 ∃kvs k b,H a=ab (.dT kvs)/\y=.ref b/\H b=ab (.tup (k.map kV))/\kvs.length<ai/\H'=zw H a (.dT (AK kvs k v))
theorem Db.k {k:z5} (e:H a=ab (.dK kvs)):Db H a (kV k) (fK kvs k):=.inl ⟨kvs,k,.inl e,rfl,rfl⟩
theorem Db.t {k:List z5} (e:H a=ab (.dT kvs)) (c:H b=ab (.tup (k.map kV))):Db H a (.ref b) (fK kvs k):=.inr ⟨kvs,k,b,.inl e,rfl,c,rfl⟩
theorem Jn.k {k:z5} (e:H a=ab (.dK kvs)) (b:kvs.length<ai):Jn H a (kV k) v (zw H a (.dK (AK kvs k v))):=.inl ⟨kvs,k,e,rfl,b,rfl⟩
theorem Jn.t {k:List z5} (e:H a=ab (.dT kvs)) (c:H b=ab (.tup (k.map kV))) (d:kvs.length<ai):
  Jn H a (.ref b) v (zw H a (.dT (AK kvs k v))):=.inr ⟨kvs,k,b,e,rfl,c,d,rfl⟩
section
variable {X:Cx}{ZO:List (ah × dP)}{Z:St}
theorem y4.big (I:y4 X ZO Z H s):dE<s.heap.objs.size:=by
 have h:bv<s.heap.objs.size:=(I.mod.glob.keeps I.bk).lt;exact FE y6 h
theorem BL (B:A.units+1<db) (I:y4 X ZO Z H s) (g:Db H a y (ab v)) (q:zh y u) (h:∀f s',y4 X ZO Z H s'->zh v f->Q f s'):
  ax (aI X.prog X.w) A (f_ (.ref a) u) Q E s:=by
 rcases g with ⟨kvs,k,e,n,l⟩ | ⟨kvs,k,b,e,n,r,l⟩
 .subst n;obtain⟨z,x,vs,c,m⟩:=jM I.hok e;obtain⟨f,j,d⟩:=C9.some_of (v:=v) (o:=mi vs k) (by rw[l];exact c.val k);exact wpAny_getItem_of (lR q) m.mapOf j (h f _ (I.tok _) d)
 subst n;cases (show u=a8 b from q);obtain⟨z,x,xs,c,m⟩:=qU I.hok e;obtain⟨f,j,d⟩:=C9.some_of (v:=v) (o:=(so xs k).map (·.2)) (by rw[l];exact c.val k);obtain⟨p,t,i⟩:=Option.map_eq_some_iff.mp j;refine wpAny_getItem_heap (PZ B) (nY I.hok r) m t ?_;rw[i];exact h f _ (I.tok _) d
theorem ZS (n:A.units+1<db) (I:y4 X ZO Z H s) (g:Db H a y o) (j:zh y u) (h:∀s',y4 X ZO Z H s'->Q (.bool o.isSome) s'):
  ax (aI X.prog X.w) A (be .In u (.ref a)) Q E s:=by
 rcases g with ⟨kvs,k,e,i,l⟩ | ⟨kvs,k,b,e,i,m,l⟩
 .subst i;obtain⟨z,d,vs,c,f⟩:=jM I.hok e;refine wpAny_in_of (lR j) d f.mapOf ?_;rw[<- (c.val k).isSome_eq,<- l];exact h _ (I.tok _)
 subst i;cases (show u=a8 b from j);obtain⟨z,d,xs,c,f⟩:=qU I.hok e;refine wpAny_in_heap (PZ n) (nY I.hok m) d f ?_;have q:=(c.val k).isSome_eq;rw[iA] at q;rw[<- q,<- l];exact h _ (I.tok _)
theorem JS (n:A.units+1<db) (I:y4 X ZO Z H s) (g:Db H a y o) (j:zh y u) (h:∀s',y4 X ZO Z H s'->Q (.bool (!o.isSome)) s'):
  ax (aI X.prog X.w) A (be .NotIn u (.ref a)) Q E s:=by
 rcases g with ⟨kvs,k,e,i,l⟩ | ⟨kvs,k,b,e,i,m,l⟩
 .subst i;obtain⟨z,d,vs,c,f⟩:=jM I.hok e;refine wpAny_notIn_of (lR j) d f.mapOf ?_;rw[<- (c.val k).isSome_eq,<- l];exact h _ (I.tok _)
 subst i;cases (show u=a8 b from j);obtain⟨z,d,xs,c,f⟩:=qU I.hok e;refine wpAny_notIn_heap (PZ n) (nY I.hok m) d f ?_;have q:=(c.val k).isSome_eq;rw[iA] at q;rw[<- q,<- l];exact h _ (I.tok _)
theorem mZ (I:y4 X ZO Z H s) (mu:LU (H a)) (g:dA a s.heap h') (h:∃q,h'.get? a=ab q) (c:Bz X.prog X.w (zw H a d) h' a d):
  y4 X ZO Z (zw H a d) { s with heap:=h',toks:=t'} :=
 I.write (x:=a) (e:=a) mu (.inl rfl) (λb q f z=>(g.2 b f).trans z) h c
theorem xO (z:kvs.length<=ai) (c:(a==dE)=am) (b:KV kvs vs) (d:h'.DictOf (bA P w) a vs):
  Bz P w H' h' a (.dK kvs):=⟨z,c,vs,b,d⟩
theorem BP (J:A.units+1<db) (I:y4 X ZO Z H s) (g:Jn H a y v H') (D:zh y u) (C:zh v r) (h:∀s',y4 X ZO Z H' s'->Q () s'):
  ax (aI X.prog X.w) A (xC (.ref a) u r) Q E s:=by
 rcases g with ⟨kvs,k,e,n,l,m⟩ | ⟨kvs,k,b,e,n,B,l,m⟩
 .subst n m;obtain⟨z,j,vs,d,p⟩:=zc I.hok e;have hz:vs.length<=ai:=by rw[<- d.length];exact z
  have o:(AK kvs k v).length<=ai:=by have:=gD kvs k v;omega
  refine wpAny_setItem_pairs (hsz:=hz) (lR D) p λh' f t=>h _ ?_;have M:∃q,h'.get? a=ab q:=let ⟨q,_,_,i,_⟩:=f;⟨q,i⟩;exact mZ I (by rw[e];exact eu) t M (xO o j (d.put k C) f)
 subst n m;cases (show u=a8 b from D);obtain⟨z,j,xs,d,p⟩:=Wr I.hok e;have hz:xs.length<=ai:=by rw[<- FK d];exact z
 have o:(AK kvs k v).length<=ai:=by have:=gD kvs k v;omega
 refine wpAny_setItem_heap (hsz:=hz) (PZ J) (nY I.hok B) p λh' f t=>h _ ?_;obtain⟨q,N,ep,i,K,G,L,_,F⟩:=f;refine mZ I (by rw[e];exact eu) t ⟨q,i⟩ ⟨o,j,_,(d.put k B C).keeps λc O x=>?_,q,N,ep,i,K,G,L,F⟩;rw[aY (VB x e (λz=>nomatch z))];exact x
end
def Ec (i:Expr):Prop:=∀a b,lc i am a b=operate [a,b] (f_ a b)
theorem JT {T id:String} (n:fb (.type T) "__getitem__"=bE (ab (.builtin id))) (p:Ec a) (h:ax (aI prog w) A (bo b env) (λo e=>ax (aI prog w) A (bo a env) (λi c=>c.TypeIs o T/\ax (aI prog w) A (f_ o i) Q E c) E e) E s):
  ax (aI prog w) A (bo (.Subscript b a l) env) Q E s:=by
 refine kB (Cn h (λo e k=>Cn k (λi c d=>?_) λ_ _ x=>x) λ_ _ x=>x);obtain⟨m,d⟩:=d;unfold fm;refine a_ ?_;rw[getitemInPython_of_ne m.not_modules];refine a_ (Ix m n ?_);have g:ax (aI prog w) A (lc a am o i) (λr f=>ax (aI prog w) A (letTemporaryGo b o r >>= λ_=>bE r) Q E f) E c:=by rw[p o i];exact wpAny_operating (Cn d (λr f j=>a_ (wpAny_letTemporaryGo (h_ j))) λ_ _ x=>x)
 first
  |exact h_ (a_ g)
  |exact a_ (h_ (a_ g))
  |exact a_ g
theorem uQ {Z:St} (I:y4 X c Z H s) (g:Db H a y o):s.TypeIs (.ref a) "dict":=by
 rcases g with ⟨kvs,k,e,_,_⟩ | ⟨kvs,k,b,e,_,_,_⟩
 .obtain⟨_,_,vs,_,d⟩:=jM I.hok e;exact d.typeIs
 obtain⟨_,_,xs,_,d⟩:=qU I.hok e;exact d.typeIs
def Ws (d c:TE):TE:=λZ H Q=>d Z H λx e=>c Z e λy b=>∃a v,x=.ref a/\Db b a y (ab v)/\Q v b
def ZV (c d:TE):TE:=λZ H Q=>c Z H λy e=>d Z e λx b=>∃a o,x=.ref a/\Db b a y o/\Q (.bl o.isSome) b
def JV (c d:TE):TE:=λZ H Q=>c Z H λy e=>d Z e λx b=>∃a o,x=.ref a/\Db b a y o/\Q (.bl (!o.isSome)) b
def Wu (g d e:TE):TS:=λD Z H=>e Z H λv c=>g Z c λx f=>d Z f λy H3=>∃a b,x=.ref a/\Jn H3 a y v b/\D.nx Z b
theorem sU (k:X.A.units+1<db) (q:PE X o td) (n:PE X i ty) (w:Ec i):PE X (.Subscript o i ZT) (Ws td ty):=by
 intro b s Z H Q I h;refine JT PySem.F.slot_dict_getitem.lookup w (z3 (q b s Z H _ I h) λu t ⟨x,e,m,j,l⟩=>z3 (n b t Z e _ m l) λG C ⟨y,z,d,r,a,v,p,g,B⟩=>?_);subst p;obtain rfl:u=a8 a:=j;exact⟨uQ d g,BL k d g r λD E f c=>⟨v,z,f,c,B⟩⟩
theorem Rt (k:X.A.units+1<db) (n:PE X i ty) (q:PE X o td):PC X .In i o (ZV ty td):=by
 intro b s Z H Q I h;refine z3 (n b s Z H _ I h) λC t ⟨y,c,m,r,l⟩=>z3 (q b t Z c _ m l) λu z ⟨x,v,j,e,a,f,p,g,w⟩=>?_;subst p;obtain rfl:u=a8 a:=e;exact ZS k j g r λB d=>⟨.bl f.isSome,v,d,rfl,w⟩
theorem qW (k:X.A.units+1<db) (n:PE X i ty) (q:PE X o td):PC X .NotIn i o (JV ty td):=by
 intro b s Z H Q I h;refine z3 (n b s Z H _ I h) λC t ⟨y,c,m,r,l⟩=>z3 (q b t Z c _ m l) λu z ⟨x,v,j,e,a,f,p,g,w⟩=>?_;subst p;obtain rfl:u=a8 a:=e;exact JS k j g r λB d=>⟨.bl (!f.isSome),v,d,rfl,w⟩
theorem zf (k:X.A.units+1<db) (w:PE X o td) (q:PE X i ty) (l:PE X value tv) (G:d6 value (ab (.Subscript o i b')) ZT.line X.env=bE am) :
  PS X (.Assign [.Subscript o i b'] value ZT) (Wu td ty tv):=by
 intro b s Z H D I h;refine wpAny_Assign_Subscript (z3 (l b s Z H _ I h) λr E ⟨v,c,n,B,m⟩=>z3 (w b E Z c _ n m) λu d ⟨x,J,j,f,K⟩=>z3 (q b d Z J _ j K) λN M ⟨y,H3,e,C,a,F,t,g,z⟩=>?_) G;subst t;obtain rfl:u=a8 a:=f;exact BP k e g C B λL p=>⟨Z,F,p,z⟩
theorem uR (h:cK) (a:dE<h.objs.size):Bz P w H (h.push { cls:=.type "dict",data:=.dict #[]}) h.objs.size (.dK []) :=
 ⟨B6 _,IH.mpr (aS (P_ a)),[],.nil,Heap.DictOf.new h⟩
def Ru:TE:=λ_ H Q=>∀p,H p=af->Q (.ref p) (zw H p (.dK []))
theorem uT:PE X (.Dict [] [] ZT) Ru:=λb s Z H Q I h =>
 wpAny_Dict_empty ⟨.ref s.heap.objs.size,_,I.laid (a:=s.heap.objs.size) (o:=.dK []) (t':=s.toks) (λ_ _ q=>e_ _ q) (l_ _) (uR s.heap I.big),rfl,h _ (I.hok.fresh (l_ _))⟩
def xP:List (TE × TE)->St->Hp->(List (V × V)->Hp->Prop)->Prop
 |[],_,H,Q=>Q [] H
 | (tk,tv)::r,Z,H,Q=>tk Z H λx c=>tv Z c λy a=>xP r Z a λb H3=>Q ((x,y)::b) H3
abbrev VV:List (V × V)->List (av × av)->Prop:=g9 λp q=>zh p.1 q.1/\zh p.2 q.2
def Pl (X:Cx) (d:kc) (c:List (Option Expr)) (a:List Expr) (e:List (TE × TE)):Prop :=
 ∀(b:List (ah × dP)) (s:aE) (Z:St) (H:Hp) (Q:List (V × V)->Hp->Prop),y4 X b Z H s->xP e Z H Q ->
  ax (aI X.prog X.w) X.A (evalPairs (pairTrees c a X.env d)) (λvs s'=>∃f H',y4 X b Z H' s'/\VV f vs/\Q f H') X.xe s
theorem zg:Pl X a [] [] []:=λb s Z H Q I h=>pairTrees_nil_walk ⟨[],H,I,.nil,h⟩
theorem uU (C:PE X k tk) (o:PE X v f) (r:Pl X c e vs b):
  Pl X c (ab k::e) (v::vs) ((tk,f)::b):=λa s Z H Q I h =>
 pairTrees_cons_walk (z3 (C a s Z H _ I h) λu z ⟨x,g,q,l,p⟩=>z3 (o a z Z g _ q p) λD i ⟨y,A,m,w,B⟩ =>
  z3 (r a i Z A _ m B) λws E ⟨n,H3,j,d,t⟩=>⟨(x,y)::n,H3,j,.cons ⟨l,w⟩ d,t⟩)
def jz (kvs a:List (z5 × V)):List (z5 × V):=a.foldl (λb c=>AK b c.1 c.2) kvs
theorem KV.merge:∀{a:List (z5 × V)}{b:List (z5 × av)}{kvs:List (z5 × V)}{vs:List (z5 × av)},KV a b->KV kvs vs->KV (jz kvs a) (tT vs b):=by
 intro a b kvs vs r;unfold KV at r;induction r generalizing kvs vs with
 |nil=>intro q;exact q
 |@cons p q f g h t c =>
 intro d;have e:KV (AK kvs p.1 p.2) (stored vs q.1 q.2):=by have:=d.put p.1 h.2;rw[<- h.1];exact this
 exact c e
theorem jr:∀(a kvs:List (z5 × V)),(jz kvs a).length<=kvs.length+a.length
 |[],kvs=>by show kvs.length<=kvs.length+0;omega
 |p::r,kvs=>by
  have c:=jr r (AK kvs p.1 p.2)
  have b:=gD kvs p.1 p.2
  show (jz (AK kvs p.1 p.2) r).length<=_
  rw[j_];omega
theorem nZ:∀{kvs:List (z5 × V)}{ws:List (av × av)},VV (kvs.map λe=>(kV e.1,e.2)) ws->∃d,Carries (bA P w) ws d/\KV kvs d
 |[],_,r=>by rw[DH] at r;cases r;exact⟨[],eu,.nil⟩
 |p::kvs,_,r=>by
  rw[z_] at r
  cases r with
  |@cons a b j g h t =>
   obtain⟨d,c,q⟩:=nZ (P:=P) (w:=w) t
   obtain⟨i,f⟩:=b
   exact⟨(p.1,f)::d,⟨lR h.1,rfl,c⟩,.cons ⟨rfl,h.2⟩ q⟩
def Wv (a:List (TE × TE)):TE:=λZ H Q=>∀p,H p=af->xP a Z (zw H p (.dK [])) λd b=>b p=ab (.dK [])/\∃kvs:List (z5 × V),d=kvs.map (λc=>(kV c.1,c.2))/\kvs.length<=15/\Q (.ref p) (zw b p (.dK (jz [] kvs)))
theorem zj (h:Pl X j b d i) (f:b.all (·.isSome)=ag) (C:b.length=d.length) (u:b≠[]) (m:b.length<=15):PE X (.Dict b d j) (Wv i):=by
 intro k s Z H Q I q;have p:=I.hok.fresh (l_ s.heap.objs.size);have v:=I.laid (a:=s.heap.objs.size) (o:=.dK []) (h':=s.heap.push { cls:=.type "dict",data:=.dict #[]}) (t':=s.toks) (λ_ _ q=>e_ _ q) (l_ _) (uR s.heap I.big);refine wpAny_Dict_walk (knd:=bA X.prog X.w) f C u m (z3 (h k _ Z _ _ v (q _ p)) λws J ⟨K,L,n,l,e,kvs,ep,M,F⟩=>?_);subst ep;obtain⟨x,c,A⟩:=nZ (P:=X.prog) (w:=X.w) l;obtain⟨z,r,t,y,D⟩:=zc n.hok e;cases y;refine⟨x,c,D,λh' g E=>⟨.ref s.heap.objs.size,_,?_,rfl,F⟩⟩;have hz:(jz [] kvs).length<=ai:=by have G:=jr kvs [];rw[FR] at G;rw[Ll];omega
 have B:∃q,h'.get? s.heap.objs.size=ab q:=let ⟨q,_,_,hq,_⟩:=g;⟨q,hq⟩;exact mZ n (by rw[e];exact eu) E B (xO hz r (A.merge .nil) g)
structure M2 (X:Cx) (o:Expr) (m:ap) (apos:kc) (e f:Expr) (cpos:kc):Prop where
 base:cS o m X.env (bo o X.env)=bo o X.env
 few:((bb cpos (aw [e,f] X.env)).all (λx=>!x.1)&&(pa cpos (im [] X.env)).all (λx=>x.1.isSome)
  && decide (([e,f]:List Expr).length+([]:List qa).length+(if ([]:List qa).isEmpty then 0 else 1)<30))=ag
 line:(apos.endLine==cpos.line)=ag
 trees:bb cpos (aw [e,f] X.env)=[(am,bo e X.env),(am,bo f X.env)]
def UC (H:Hp) (a:ah):Prop:=(∃kvs,Rd H a (.dK kvs))\/∃kvs,Rd H a (.dT kvs)
theorem Ed {Z:St} (I:y4 X f Z H s) (d:UC H a):
  s.TypeIs (.ref a) "dict"/\(∀b,a8 a=.ref b->∃c,s.heap.get? b=ab c/\c.dict=af)/\(a==dE)=am:=by
 rcases d with ⟨kvs,e⟩ | ⟨kvs,e⟩
 .obtain⟨_,h,vs,_,g⟩:=jM I.hok e;refine⟨g.typeIs,λb q=>?_,h⟩;cases q;obtain⟨c,_,_,j,i,_⟩:=g;exact⟨c,j,i.2.1⟩
 obtain⟨_,h,xs,_,g⟩:=qU I.hok e;refine⟨g.typeIs,λb q=>?_,h⟩;cases q;obtain⟨c,_,_,j,i,_⟩:=g;exact⟨c,j,i.2.1⟩
end L2
namespace Att
open PySem PySem.W PySem.Calls PyProof.Rows
theorem mK:∀(ns:List Int) (vs:List av),WellAll P h vs (ns.map WData.int)->eh vs ns:=by
 intro ns;induction ns with
 |nil=>intro vs w;rw[DH] at w;cases w;exact .nil
 |cons n ns c =>
 intro vs w;rw[z_] at w;cases w with
 |cons a b =>
 cases a;exact .cons _ _ (c _ b)
theorem BR {l:OpenLaw} (p:l.most=ab n) (c:l.row.toRowW.claim.pre args=ag) (j:WellAll P h b args):
  ∃a vs ns,b=[a8 a]/\args=[WData.list (ns.map WData.int)]/\h.get? a=ab { cls:=.type "list",data:=.seq vs.toArray}/\eh vs ns/\ns.length<=n:=by
 have k:WShape.hasAll [] args [.list .int]=ag:=(pre_splitW c).1;have m:l.pre.holds [] { args:=args}=ag:=(pre_splitW c).2;obtain⟨d,r,rfl,s,u⟩:=hasAllW_cons k;obtain rfl:=hasAllW_nil u;obtain⟨xs,rfl,x⟩:=hasW_list s;obtain⟨ns,rfl⟩:=items_int x;have e:ns.length<=n:=by
  unfold OpenLaw.pre at m;have g:(WTm.not (.lt (.lit (.int (n:Int))) (.len (.arg 0)))).holds [] { args:=[.list (ns.map .int)]}=ag:=by have g:=(holds_andW m).1;rw[p] at g;exact g
  have i:=condW_of g (w_not (w_lt w_lit (w_len_list (w_arg rfl))));rw[d_] at i;refine Nat.le_of_not_lt λq=>?_;have w:(n:Int)<((ns.length:Nat):Int):=yT
  first
   | (rw[N_ w] at i;exact As i y6)
   | (simp at i;omega)
 cases j with
 |cons t v =>
 cases v;cases t with
 |list o f=>exact⟨_,_,ns,rfl,rfl,o,mK ns _ f,e⟩
theorem BV (l:OpenLaw) (args:List WData):l.row.toRowW.claim.post args (.bool ag) args=ag :=
 postW_of (r:=l.row.toRowW) (X:=(ag==ag))
  (show WShape.has [] (.bool ag) .bool=ag by first | rfl | decide | simp [WShape.has,WShape.arms,WShape.armsAll])
  (show (WTm.eq .res (.lit (.bool ag))).value [] { args:=args,res:=ab (.bool ag),after:=args}=ab (.bool (ag==ag)) from w_eq_bool (w_res rfl) w_lit) rfl
theorem afr {l:OpenLaw} (E:l.most=ab n) (x:d.params.defaults=[]) (j:∀(w:bP) (c b:aE) (s v:ap->Option av) (k:ah) (o:dP) (t p e:av) (a:ah) (vs:List av) (ns:List Int),
   Ground q loose [] XP w c s v b.heap->YP w b.heap ->
   b.heap.get? k=ab o->o.data=.func (docDef d.name d.params d.body d.scope t p e)->b.heap.CodeRec p d.name->s d.name=ab (.ref k) ->
   b.heap.get? a=ab { cls:=.type "list",data:=.seq vs.toArray}->eh vs ns->ns.length<=n->b.gens=#[] ->
   dy (aI l.prog w) ms (.call (.ref k) ⟨[.ref a],[]⟩) (λr s'=>r=.ok (.ret (.bool ag))/\OldK b.heap s'.heap/\s'.os=b.os/\iX s'.gens) b):
  WalkO q loose XP YP l.row.toRowW d [] (λf vs=>wl f vs):=by
 intro w c b s v G Y k o t p e Q kV P F u D y L C A R i B N z O;obtain rfl:Q=.none:=Dflts.none D x;obtain rfl:kV=.none:=Dflts.noKw D;obtain⟨a,vs,ns,rfl,rfl,h,g,m⟩:=BR E i z;refine enter_call (HG (j w c b s v k o t p e a vs ns G Y P (fd_plain F) u y h g m L) λr s' I=>?_);obtain⟨rfl,K,H,M⟩:=I;exact⟨.inl ⟨.bool ag,.bool ag,[],rfl,λ_=>rfl,.bool ag,BV l _,λ_=>⟨iO,λ_ J=>(nomatch J)⟩⟩,K,H,M⟩
def SL (h : cK) (L d : ah) : List (ah × dP):=(ae h.objs.size).filterMap λa => if a = L \/ a = d then af else (h.get? a).map λo => (a,o)
end Att
namespace L2
theorem qX:∀{vs:List av}{ns:List Int},eh vs ns->y7 (ns.map V.int) vs
 |_,_,.nil=>.nil
 |_,_,.cons n t h=>.cons ⟨t,rfl⟩ (qX h)
def Lm (H:Hp):Prop:=∀b,H b=af\/∃o xs,H b=ab (.frz o (.lst xs))
theorem Ef {K:a3} (U:K.In c.heap) (A:c.heap.Ns bv I) (g:c.heap.Ns nz M) (N:∀x:ap,x≠"__name__"->M x=ba x) (p:c.heap.NoLimit) (hg:c.gens=#[]) (J:c.heap.get? a=ab { cls:=.type "list",data:=.seq vs.toArray}) (Z:eh vs ns) (hl:ns.length<=ai) (hr:Pr k ms) (F:∀base:cK,K.In base->base.Ns bv I->EE P w K I base CX k S X [x] sp) (l:∀(s:aE) (u:av),qB s X ⟨[u],[]⟩ [(x,u)]) (L:∀H:Hp,Lm H->A8 K H a (ns.map V.int)->sp [.ref a] H (λv _=>v=.bl ag) λ_ _ _=>False) (Q:∀H e s',CX [] H c (λ_ _ _=>False) e s'->False):
  dy (aI P w) ms (.call (.ref S) ⟨[.ref a],[]⟩) (λr s'=>r=.ok (.ret (.bool ag))/\OldK c.heap s'.heap/\s'.os=c.os/\iX s'.gens) c:=by
 have rv:=qX Z;have G:=Z.length
 have j:∀H:Hp,Lm H->A8 K H a (ns.map V.int)->A9 P w H c.heap->(∀b,H b≠af->b=a)->(H a≠af->K.lookup a=af) ->
   dy (aI P w) ms (.call (.ref S) ⟨[.ref a],[]⟩) (λr s'=>r=.ok (.ret (.bool ag))/\OldK c.heap s'.heap/\s'.os=c.os/\iX s'.gens) c:=by
  intro H Y hS t hA hK
  have f:∀{b:ah} {o:dP},c.heap.get? b=ab o->H b=af->(sy c.heap H).get? b=ab o:=λe n=>Du e n
  have R:∀{b:ah} {o:dP} {C:Array ki} {ep:Nat},c.heap.get? b=ab o->o.data=.dict C ep->H b=af:=λ{b o C ep} e d=>by
   cases q:H b with
   |none=>rfl
   |some u =>
    have O:b=a:=hA b (by rw[q];simp)
    subst O
    rw[J] at e;cases e
    have d':Data.seq vs.toArray _=Data.dict C ep:=d
    cases d'
  have i:∀{b:ah} {m:ap->Option av},c.heap.Ns b m->(sy c.heap H).Ns b m:=λ{b m} ⟨o,C,ep,e,d,r⟩=>⟨o,C,ep,f e (R e d),d,r⟩
  have y:K.In (sy c.heap H):=λb o e=>f (U b o e) (by
   cases q:H b with
   |none=>rfl
   |some u =>
    have O:b=a:=hA b (by rw[q];simp)
    subst O
    rw[hK (by rw[q];simp)] at e;cases e)
  have hM:Mod K I (sy c.heap H):=⟨y,i A,⟨M,i g,N⟩,let ⟨mc,h1,h2⟩:=p;⟨mc,i h1,h2⟩⟩
  have e0:LW P w K I (sy c.heap H) ms [] c H:=⟨rfl,hM,λb o e=>Jl e,EQ (Bo _ _),zC,λb g=>As (show b∈([]:List ah) from g) ze,t,.of_eq hg⟩
  refine HG ((F _ y (i A)).run ms [] c H ⟨[.ref a],[]⟩ [.ref a] [.ref a] _ _ hr e0 (l c (.ref a)) (.cons rfl .nil) (L H Y hS)) λr s' h=>?_
  cases r with
  |error e=>exact (Q H e s' h).elim
  |ok fl =>
   cases fl with
   |next=>exact c9 h
   |brk=>exact c9 h
   |cont=>exact c9 h
   |ret u =>
    obtain⟨v,H',os,B,un,E,r',q⟩:=h
    have q':v=.bl ag:=q
    subst q'
    obtain rfl:u=ff ag:=r'
    refine⟨rfl,OldK.of_keep λb o e=>?_,os,B⟩
    cases q:H b with
    |none=>exact un.keep b o e q (by intro z;exact As (show b∈([]:List ah) from z) ze) ze
    |some u =>
     rcases Y b with z | ⟨ob,xs,z⟩
     ·
      rw[q] at z;cases z
     ·
      have z2:=un.frzs b ob _ z
      obtain⟨W,_⟩:=t b _ z
      obtain⟨e2,_⟩:=E b _ z2
      rw[e] at W;cases W
      exact e2
 cases T:K.lookup a with
 |some o =>
  have e:=U a o T
  rw[J] at e
  cases e
  refine j (λ_=>af) (λ_=>.inl rfl) (.inr ⟨_,vs.toArray,_,T,rfl,rfl,rfl,by rw[p_,G];exact hl,by simpa using rv⟩) (λb u z=>by have D:(af:Option HO)=ab u:=z;cases D) (λb z=>As rfl z) λz=>As rfl z
 |none =>
 refine j (λb=>if b=a then ab (.frz { cls:=.type "list",data:=.seq vs.toArray} (.lst (ns.map V.int))) else af) (λb=>?_) (.inl (.inr ⟨{ cls:=.type "list",data:=.seq vs.toArray},zi rfl⟩)) (λb u z=>?_) (λb z=>?_) λ_=>T
 .by_cases g:b=a
  .exact .inr ⟨_,_,zi g⟩
  exact .inl (y9 g)
 .by_cases g:b=a
  .have D:=(zi g).symm.trans z;cases D;subst g;exact⟨J,by rw[d_];exact hl,vs,_,rv,J⟩
  have D:=(y9 g).symm.trans z;cases D
 by_cases g:b=a
 .exact g
 exact As (y9 g) z
abbrev KOf {K:a3}{h:cK}(_:K.In h):a3:=K
theorem ahf {l:PySem.W.OpenLaw}{K:nK->a3}{CX:bP->LH}{sp:bP->Sp} (I:l.most=ab n) (y:n<=ai) (z:d.params.defaults=[]) (R:Pr k ms) (P:∀(w:bP) (h:cK),YP w h->(K w.params).In h) (F:∀(w:bP) (j:ap->Option av) (r:ah) (h:cK),(K w.params).In h->h.Ns bv j->j d.name=ab (.ref r) ->
   ∃B:de,(∀(s:aE) (u:av),qB s B ⟨[u],[]⟩ [(x,u)]) /\
    ∀base:cK,(K w.params).In base->base.Ns bv j->EE l.prog w (K w.params) j base (CX w) k r B [x] (sp w)) (t:∀(w:bP) (H:Hp) (a:ah) (ns:List Int),ns.length<=n->Lm H->A8 (K w.params) H a (ns.map V.int)->sp w [.ref a] H (λv _=>v=.bl ag) λ_ _ _=>False) (A:∀(w:bP) (H:Hp) (s:aE) (e:av) (s':aE),CX w [] H s (λ_ _ _=>False) e s'->False):
  xp q loose XP YP l.row.toRowW d [] (λf vs=>wl f vs):=by
 refine Att.afr I z λw E m j mb r o Z X M a vs ns G Y ho U L C p i c O=>?_;have D:=P w _ Y;obtain⟨B,Q,J⟩:=F w j r _ D G.T.g C;exact Ef D G.T.g G.T.b G.T.builtins G.T.nolimit O p i (U_ c y) R J Q (λH N S=>t w H a ns c N S) λH e s'=>A w H m e s'
end L2
namespace L2
abbrev Lo:LH:=λ_ _ _ _ _ _=>False
abbrev E0:XK:=λ_ _ _=>False
theorem Eg:kY Lo X E0:=λ_ _ _ _ _ _ _ h=>h.elim
structure GT (K:a3) (x qual:ap) (st:eB) (f:ah) (fd:de):Prop where
 ex:∃(oc:av) (od:Option ah) (kV doc pm:av) (an:Option ah) (cdv ct:av) (osl:Array (Option av)),
  fd=nv x qual (cV st) (cH st) (aA st) .none kV doc pm an cdv ct/\K.lookup f=ab ⟨oc,od,.func fd,osl⟩/\rp K cdv qual=ag
 kp:kx K (.ref f)=ag
section
variable {P:bX}{w:bP}{K:a3}
theorem GT.ok {st:eB} (F:GT K x b st f l) (S:fY N i (aA st)) (j:∀vs H Q E,sp vs H Q E->vs.length=i.length) (d:∀(c:av) (A:eD) (a:List x8) (s:aE) (H:Hp) (vs:List V) (Q:VK) (E:XK),Pr k (A.deeper (i7 b (aA st) s.heap.objs.size f c))->sp vs H Q E ->
   ∃t,CD (xH Lo P w K mg base N b (aA st) f c A a s H E).nox (cH st) t/\t { nx:=λ_ H'=>Q .non H',rt:=Q} (start N vs) H):EE P w K mg base Lo (k+1) f l i sp:=by
 obtain⟨u,r,kV,n,y,z,c,v,o,rfl,p,g⟩:=F.ex;refine Wg p g S j λA a s H vs Q E m e=>?_;obtain⟨t,h,q⟩:=d c A a s H vs Q E m e;exact⟨t,h.nox,q⟩
theorem GT.binds {st:eB} (F:GT K x a st f j) (h:∀(kV b g:av) (i:Option ah) (c e:av) (us:List av),us.length=d.length->dc (nv x a (cV st) (cH st) (aA st) .none kV b g i c e) ⟨us,[]⟩=bE (d.zip us)):AS K j d []:=by
 obtain⟨n,m,kV,b,g,i,c,e,l,rfl,o,k⟩:=F.ex;exact .all (h kV b g i c e)
theorem Eh {st:eB}{kV d h b g:av} (l:K.lookup f=ab ⟨m,j,.func (nv x a (cV st) (cH st) (aA st) .none kV d h i b g),e⟩) (c:rp K b a=ag) (k:kx K (.ref f)=ag):GT K x a st f (nv x a (cV st) (cH st) (aA st) .none kV d h i b g):=⟨⟨m,j,kV,d,h,i,b,g,e,rfl,l,c⟩,k⟩
variable {X:Cx}
theorem pv (i:Nat) {b:kc} (c:X.N[i]?=ab x:=by rfl) (e:NI X.env.scope x:=by first | exact hG rfl | exact e4 (hG rfl) | exact e4 (e4 rfl)) (d:(x==("__debug__":ap))=am:=by decide) (a:(x==("__classdict__":ap))=am:=by decide):PE X (.Name x b) (VD i):=Qz c e d a
end
theorem ZW {A B:Prop}(h:B):if am=ag then A else B:=by
 rw[y9 B_];exact h
theorem ZX {A B:Prop}(h:A):if ag=ag then A else B:=by
 rw[zi rfl];exact h
section
variable {κ:Type}[DecidableEq κ]
theorem m5:∀{l:List κ}{k:κ},l.Nodup->¬k∈l->(l++[k]).Nodup
 |[],k,_,_=>by simp
 |a::r,k,h,hk=>by
  obtain⟨c,b⟩:=DJ.mp h
  show (a::(r++[k])).Nodup
  refine DJ.mpr ⟨λm=>?_,m5 b λm=>hk (o_.mpr (e4 m))⟩
  rcases F_.mp m with q | q
  ·
   exact c q
  ·
   exact hk (o_.mpr (hG (i_.mp q).symm))
end
theorem lU {F:ap × ev->ap × ev} (b:∀p,(F p).1=p.1):∀{a:List (ap × ev)},a.lookup x=ab k->(a.map F).lookup x=ab (F (x,k)).2
 |[],h=>by cases h
 | (m,q)::r,h=>by
  have d:=b (m,q)
  rw[z_,show F (m,q)=(m,(F (m,q)).2) from eJ d rfl]
  by_cases e:x=m
  ·
   subst e
   rw[List.lookup_cons_self] at h |-
   cases h
   rfl
  ·
   have c:(x==m)=am:=IH.mpr e
   simp only[ey,c] at h |-
   exact lU b h
theorem jn {env:x8}{a:List (ap × ev)} (h:a.lookup x=ab .free):
  (a.map λ(n,k)=>if (k==c8&&env.scope.kind==.function&&env.kindOf n==ab .cell) then (n,ef) else (n,k)).lookup x=ab .cell \/
  (a.map λ(n,k)=>if (k==c8&&env.scope.kind==.function&&env.kindOf n==ab .cell) then (n,ef) else (n,k)).lookup x=ab .free:=by
 rw[lU (F:=λ(n,k)=>if (k==c8&&env.scope.kind==.function&&env.kindOf n==ab .cell) then (n,ef) else (n,k)) (λp=>by dsimp only;split <;> rfl) h];dsimp only;split
 .exact .inl rfl
 exact .inr rfl
theorem n6 (h:∀y∈scope.names,y.2=.free->∃c,env.cells.lookup y.1=ab c):
  ∃d,closureFor scope env=bE d/\(∀x c,d.lookup x=ab c->env.cells.lookup x=ab c)/\∀y∈scope.names,y.2=.free->∃c,d.lookup y.1=ab c:=by
 have key:∀(b:List (ap × ev)) (g:List (ap × ah)),(∀y∈b,y.2=.free->∃c,env.cells.lookup y.1=ab c)->(∀x c,g.lookup x=ab c->env.cells.lookup x=ab c) ->
   ∃d:List (ap × ah),(forIn b g (λ(x:ap × ev) (r:List (ap × ah))=>(do
    if x.2==.free then do
     let a <- xE env x.1
     bE (cy ((x.1,a)::r))
    else bE (cy r):Sem (ForInStep (List (ap × ah))))):Sem (List (ap × ah)))=bE d/\(∀x c,d.lookup x=ab c->env.cells.lookup x=ab c) /\
    (∀x c,g.lookup x=ab c->∃l,d.lookup x=ab l)/\∀y∈b,y.2=.free->∃c,d.lookup y.1=ab c:=by
  intro b
  induction b with
  |nil=>intro g _ u;exact⟨g,rfl,u,λx c e=>⟨c,e⟩,λy f=>nomatch f⟩
  |cons y r z =>
   intro g v u
   obtain⟨n,k⟩:=y
   by_cases w:k=.free
   ·
    subst w
    obtain⟨c,A⟩:=v (n,.free) n_ rfl
    have i:xE env n=bE c:=by unfold xE;rw[A]
    obtain⟨d,e,p,o,s⟩:=z ((n,c)::g) (λy f=>v y (A_ _ f)) (λx l q=>by
     simp only[GS] at q
     cases j:x==n with
     |true=>rw[j] at q;cases q;rw[eq_of_beq j];exact A
     |false=>rw[j] at q;exact u x l q)
    refine⟨d,?_,p,λx l q=>?_,λy f t=>?_⟩
    ·
     rw[sF]
     show ((if (c8==c8)=ag then (xE env n >>= λa=>bE (cy ((n,a)::g))) else bE (cy g)) >>= _)=_
     rw[i]
     exact e
    ·
     cases j:x==n with
     |true=>exact o x c (by simp only[GS,j])
     |false=>exact o x l (by simp only[GS,j];exact q)
    ·
     rcases o_.mp f with rfl | f
     ·
      exact o n c (by simp [GS])
     ·
      exact s y f t
   ·
    obtain⟨d,e,p,o,s⟩:=z g (λy f=>v y (A_ _ f)) u
    have B:(k==c8)=am:=by simpa using w
    refine⟨d,?_,p,o,λy f t=>?_⟩
    ·
     rw[sF]
     show ((if (k==c8)=ag then (xE env n >>= λa=>bE (cy ((n,a)::g))) else bE (cy g)) >>= _)=_
     rw[B]
     exact e
    ·
     rcases o_.mp f with rfl | f
     ·
      exact As t w
     ·
      exact s y f t
 obtain⟨d,e,p,_,s⟩:=key scope.names [] h (λx c q=>by simp at q);refine⟨d,?_,p,s⟩;unfold closureFor;exact Q_ (λm=>m >>= λr=>bE r) e
def bY (X:Cx) (N':List ap) (scope:Scope) (b:List (ap × ah)) (a:List (ah × dP)) (s:aE) (H:Hp) (C:ah) (c:List ah):Cx where
 prog:=X.prog
 w:=X.w
 K:=X.K
 mg:=X.mg
 base:=X.base
 A:=X.A
 N:=N'
 s₀:=s
 H₀:=H
 env:=compEnvC scope b C X.env
 outer:=X.stack
 stack:=X.stack
 ex:=c
 fn:=λx=>scope.names.lookup x==ab .cell
 calm:=X.calm
 pn:=X.pn++a
 xe:=λ_ _=>False
def MM (X:Cx) (b:List Expr) (t:TT):Prop :=
 ∀(a:List (ah × dP)) (s:aE) (Z:St) (H:Hp) (Q:Bool->Hp->Prop),y4 X a Z H s->t Z H Q ->
  ax (aI X.prog X.w) X.A (forIn b ag λc r=>if r=ag then do let d <- isTrue c X.env (bo c X.env);bE (cy d) else bE (cy r)) (TP X a Z Q) X.xe s
def ZZ:TT:=λ_ H Q=>Q ag H
theorem JW:MM X [] ZZ:=λ_ _ _ H _ I h=>wpAny_tests_nil ⟨H,I,h⟩
theorem JX (h:PT X c t):MM X [c] t:=λa s Z H Q I b=>wpAny_tests_one (h a s Z H Q I b)
theorem sV (I:Nat->aE->Prop) (F:∀n s,I n s->ax (aI prog w) A (eR it) (λr b=>match r with | .none=>R (.ok .next) b | .some v=>ax (aI prog w) A (fy a it v) (λ_ e=>ax (aI prog w) A (gX a env v) (λ_ f=>ax (aI prog w) A (forIn t ag λc r=>if r=ag then do let C <- isTrue c env (bo c env);bE (cy C) else bE (cy r)) (λC d=>if C=ag then ax (aI prog w) A (bo y env) (λx l=>ax (aI prog w) A (jS (.builtin "list.append") [q,x]) (λ_ p=>∃m,m<n/\I m p) (λ_ _=>False) l) (λ_ _=>False) d else ∃m,m<n/\I m d) (λ_ _=>False) f) (λ_ _=>False) e) (λ_ _=>False) b) (λ_ _=>False) s) (n:Nat) (h:I n s):dy (aI prog w) A (.compLoop (.ListComp y [⟨a,o,t,0⟩] scope E) 0 it q env) R s:=by
 refine codeAny_loop rfl I (λj i G=>?_) n h;show ax _ A ((compTurn (.ListComp y [⟨a,o,t,0⟩] scope E) 0 it q env).onRaise (λx=>do noteFrame x env;theTreesLotGoes x)) _ _ i;refine wpAny_noted ?_;rw[compTurn_list];refine a_ (mP (a_ (Cn (F j i G) (λr b k=>?_) λ_ _ h'=>h'.elim)));cases r with
 |none=>exact h_ k
 |some v =>
 refine a_ (Cn k (λ_ e u=>?_) λ_ _ h'=>h'.elim);refine a_ (Cn u (λ_ f B=>a_ (Cn B (λC d g=>?_) λ_ _ h'=>h'.elim)) λ_ _ h'=>h'.elim);cases C with
 |false=>exact (h_ (And.intro rfl g))
 |true =>
 exact a_ (a_ (Cn g (λx l D=>a_ (Cn D (λ_ p z=>h_ (h_ ⟨rfl,z⟩)) λ_ _ h'=>h'.elim)) λ_ _ h'=>h'.elim))
def zm (J:It) (g:TG) (tt:TT) (te:TE) (h:List V->Hp->Prop) (d:St) (e:Hp):Prop :=
 ∃W:Nat->Nat->List V->St->Hp->Prop,(∃m,W 0 m [] d e)/\∀i m a Z H,W i m a Z H ->
  (J.stop i H/\a.length<=ai/\h a H) \/
  (J.go i H/\∀x H',J.yld i H x H'->g x Z H' λf k=>tt f k λb H3=>if b=ag then te f H3 λy j=>a.length<ai/\∃c,c<m/\W (i+1) c (a++[y]) f j else ∃c,c<m/\W (i+1) c a f H3)
def qi (nt:Nat) (cap:List Nat) (Z:St):St:=a4 nt af++cap.map λj=>(Z[j]?).getD af
structure IE (X:Cx) (N':List ap) (nt:Nat) (cap:List Nat) (scope:Scope):Prop where
 kind:scope.kind=.function
 cells:∀y∈scope.names,y.2=.cell->scope.names.lookup y.1=ab .cell
 names:∀x∈scope.names,x.2=.local->scope.names.lookup x.1=ab .local
 free:∀y∈scope.names,y.2=.free->X.env.kindOf y.1=ab .cell\/X.env.kindOf y.1=ab .free
 len:N'.length=nt+cap.length
 caps:∀(j:Nat) (x:ap),N'[nt+j]?=ab x->∃i,cap[j]?=ab i/\X.N[i]?=ab x/\scope.names.lookup x=ab .free
theorem mL (e:s.heap.get? l=ab { cls:=.type "list",data:=.seq a.toArray n}) (hz:a.length<ai) (h:∀h' n',h'.get? l=ab { cls:=.type "list",data:=.seq (a++[u]).toArray n'}->(∀b o,b≠l->s.heap.get? b=ab o->h'.get? b=ab o)->Q .none { s with heap:=h'}):
  ax (aI P w) A (jS (.builtin "list.append") [.ref l,u]) Q E s:=by
 refine II og ⟨_,e,rfl⟩ mN (me _ _) (list_append l a.toArray n u (by rw[p_];omega)) ⟨e,?_⟩;have q:=PySem.IsL.update e (·.push u);rw[List.push_toArray] at q;exact h _ _ q (λb o c d=>(HL s.heap _ (aS c)).trans d)
theorem cj:∀(b:List (ap × ev)) (n:Nat) (a:List (ap × ah)),a9 n b a=a9 n b []++a
 |[],_,_=>rfl
 | (x,k)::r,n,a=>by
  unfold a9
  split
  ·
   rw[cj r (n+1) ((x,n)::a),cj r (n+1) [(x,n)],EF]
   rfl
  ·
   exact cj r n a
theorem dW {a:Type}(x:ap):∀(l m:List (ap × a)),(l++m).lookup x=(l.lookup x).or (m.lookup x)
 |[],_=>rfl
 | (y,v)::r,m=>by
  rw[OZ,GS,GS,dW x r m]
  cases x==y <;> rfl
theorem gY (h:(a9 n a b).lookup x=ab c):(a9 n a []).lookup x=ab c\/((a9 n a []).lookup x=af/\b.lookup x=ab c):=by
 rw[cj,dW] at h;cases e:(a9 n a []).lookup x with
 |some d=>rw[e] at h;exact .inl h
 |none=>rw[e] at h;exact .inr ⟨rfl,h⟩
theorem jA:∀{a:List (ap × ev)}{n:Nat}{b:List (ap × ah)},(x,c)∈a9 n a b->(x,ef)∈a\/(x,c)∈b
 |[],_,_,h=>.inr h
 | (y,k)::r,n,b,h=>by
  unfold a9 at h
  split at h
  ·
   rename_i d
   rcases jA h with q | q
   ·
    exact .inl (A_ _ q)
   ·
    rcases o_.mp q with q | q
    ·
     cases q
     have:k=.cell:=by simpa using d
     subst this
     exact .inl n_
    ·
     exact .inr q
  ·
   rcases jA h with q | q
   ·
    exact .inl (A_ _ q)
   ·
    exact .inr q
theorem JZ (g:Q (newEnv scope s.heap.objs.size a (a9 (s.heap.objs.size+1) scope.names b) c af .none (ab env) nz) { s with heap:=mr (s.heap.push { cls:=.type "dict",data:=.dict #[]}) scope.names}):
  ax M A (lv scope a b [] c af .none (ab env)) Q E s:=by
 simp only[lv,QN,if_true];refine a_ (wpAny_alloc ?_);refine a_ (wpAny_layCells _ (λname d e=>by cases f:d==ef <;> simp [f]) _ _ _ _ ?_);rw[show ({ s with heap:=s.heap.push { cls:=.type "dict",data:=.dict #[]}}:aE).heap.objs.size=s.heap.objs.size+1 from GB ..];refine a_ ?_;rw[List.forIn_nil];exact h_ (h_ g)
theorem Ei {Z:St}{V:List ah}{C:ah} (S:IE X N' nt cap scope) (I:y4 X g Z H s) (Q:∀x c,B.lookup x=ab c->X.env.cells.lookup x=ab c) (E:∀y∈scope.names,y.2=.free->∃c,B.lookup y.1=ab c) (hf:∀b∈V,qd X g H b) (M:∀b∈V,b<s.heap.objs.size) (A:s.heap.objs.size<C) (hn:h'.Ns C λ_=>af) (J:∀b o,s.heap.get? b=ab o->h'.get? b=ab o) (hp:∀p∈pl,h'.get? p.1=ab p.2/\s.heap.objs.size=p.1/\∀v,p.2.data≠.cell v) (r:CellsOk h' (C+1) (a9 (C+1) scope.names [])):
  y4 (bY X N' scope (a9 (C+1) scope.names B) g s H C V) pl (qi nt cap Z) H { s with heap:=h',toks:=tk}:=by
 have h:∀x c,(a9 (C+1) scope.names B).lookup x=ab c->(C+1<=c/\(a9 (C+1) scope.names []).lookup x=ab c)\/X.env.cells.lookup x=ab c:=λx c e=>by
  rcases gY e with q | q
  .exact .inl ⟨(r.empty x c (mem_of_lookup q)).2,q⟩
  exact .inr (Q x c q.2)
 have R:∀x c,X.env.cells.lookup x=ab c->c<s.heap.objs.size:=λx c e=>by obtain⟨v,q⟩:=I.cell x c e;exact q.lt
 have hok:(bY X N' scope (a9 (C+1) scope.names B) g s H C V).Ok:=by
  refine⟨I.ok.mod,S.kind,I.ok.glob,I.ok.blt,D4 A,λx y c e1 l=>?_,λx hx=>?_,λx c z e=>?_,I.ok.hd,I.ok.frames,.inl rfl,λb t=>?_,I.bs,U_ I.ok.bsz I.sz,λb o e t=>?_,λb t z=>?_,I.stack,I.stkFree⟩
  .rcases h x c e1 with ⟨T,p1⟩ | T
   .rcases h y c l with ⟨K,p2⟩ | K
    .exact name_of_addr r.apart (mem_of_lookup p1) (mem_of_lookup p2)
    exact As (V_ (Kj (FE (R y c K) A)) T) (BS _)
   rcases h y c l with ⟨K,p2⟩ | K
   .exact As (V_ (Kj (FE (R x c T) A)) K) (BS _)
   exact I.ok.inj x y c T K
  .have hx':(oB scope X.env).names.lookup x=ab .cell\/(oB scope X.env).names.lookup x=ab .free:=hx;have hm:∃k,(x,k)∈(oB scope X.env).names/\(k=.cell\/k=.free):=by
    rcases hx' with z | z
    .exact⟨_,mem_of_lookup z,.inl rfl⟩
    exact⟨_,mem_of_lookup z,.inr rfl⟩
   obtain⟨k,hm,J⟩:=hm;obtain⟨⟨n,U⟩,N,e⟩:=k_.mp hm;have D:(if (U==c8&&X.env.scope.kind==.function&&X.env.kindOf n==ab .cell)=ag then (n,ef) else (n,U))=(x,k):=e;by_cases G:U=.free
   .subst G;have en:n=x:=by split at D <;> exact Q_ Prod.fst D
    subst en;obtain⟨c,ec⟩:=E (n,.free) N rfl;show ∃c,(a9 (C+1) scope.names B).lookup n=ab c;rw[cj,dW,ec];cases (a9 (C+1) scope.names []).lookup n with
    |none=>exact⟨c,rfl⟩
    |some d=>exact⟨d,rfl⟩
   have t:(U==c8)=am:=by simpa using G
   rw[t] at D;simp only[h9,H_,Y_] at D;cases D;rcases J with rfl | rfl
   .obtain⟨c,ec⟩:=jL (n:=C+1) (S.cells _ N rfl);refine⟨c,?_⟩;show (a9 (C+1) scope.names B).lookup _=ab c;rw[cj,dW,ec];rfl
   exact As rfl G
  .have z':scope.names.lookup x=ab .cell:=by simpa [bY] using z
   obtain⟨d,ed⟩:=jL (n:=C+1) z';have D:(a9 (C+1) scope.names B).lookup x=ab c:=e;rw[cj,dW,ed] at D;cases D;have:=(r.empty x _ (mem_of_lookup ed)).2;show s.heap.objs.size<=_;omega
  .obtain⟨f0,f1,f2,f3,f4,f5⟩:=hf b t;refine⟨λz=>As (M b t) (IS.mpr (by rw[show b=C from z];exact D4 A)),λx c e=>?_⟩;rcases h x c e with ⟨q,_⟩ | q
   .intro z;rw[z] at q;exact As (V_ (Kj (FE (M b t) A)) q) (BS _)
   exact f4 x c q
  .obtain⟨f0,f1,f2,f3,f4,f5⟩:=hf b t;rcases f3 with q | q
   .exact I.ok.noex b o e q
   exact As (C_ (I.ok.bs b o e).1) (IS.mpr q)
  obtain⟨f0,f1,f2,f3,f4,f5⟩:=hf b t;rcases o_.mp (I.stkSub b z) with q | q
  .exact f1 q
  exact f2 q
 obtain⟨m,hnm,hl⟩:=id I.loc;refine⟨hok,rfl,I.bare,Un.kept J,⟨_,hn,λi x v e1 l e3=>?_⟩,λx c e=>?_,I.hok.fresh (D4 A),λx c e=>?_,λp Y=>?_,I.hok.kept J,?_⟩
 ·-- a name of the block: one that it takes from around
  unfold qi at l;by_cases hi:i<nt
  .rw[FV (by simpa using hi),OX] at l;split at l <;> cases l
  obtain⟨j,rfl⟩:∃j,i=nt+j:=⟨i - nt,yT⟩;obtain⟨k,ck,hN,f⟩:=S.caps j x e1;rw[M_ ze,Pe,Nat.add_sub_cancel_left,u_,ck] at l;have w:(Z[k]?).getD af=ab v:=T_ l;have L:Z[k]?=ab (ab v):=by
   cases q:Z[k]? with
   |none=>rw[q] at w;cases w
   |some z=>rw[q] at w;exact Q_ ab w
  have P:=S.free (x,.free) (mem_of_lookup f) rfl;obtain⟨u,ru,lk⟩:=hl k x v hN L (.inr P);refine⟨u,ru,.inr ⟨jn f,?_⟩⟩;rcases lk with ⟨kl,_⟩ | ⟨_,c,hc,F⟩
  .rcases P with z | z <;> (rw[kl] at z;cases z)
  obtain⟨c',O⟩:=E (x,.free) (mem_of_lookup f) rfl;have e:=Q x c' O;rw[hc] at e;cases e;obtain⟨o,ho,W⟩:=F;refine⟨c,?_,o,J _ _ ho,W⟩;show (a9 (C+1) scope.names B).lookup x=ab c;rw[cj,dW];cases q:(a9 (C+1) scope.names []).lookup x with
  |none=>exact O
  |some d =>
  rcases jA (mem_of_lookup q) with z | z
  .have:=S.cells _ z rfl;rw[f] at this;cases this
  cases z
 .rcases h x c e with ⟨_,q⟩ | q
  .exact⟨af,(r.empty x c (mem_of_lookup q)).1⟩
  obtain⟨v,o,ho,W⟩:=I.cell x c q;exact⟨v,o,J _ _ ho,W⟩
 .rcases h x c e with ⟨q,_⟩ | q
  .exact I.hok.fresh (D4 (V_ (Kj A) q))
  exact I.freeC x c q
 .rcases F_.mp Y with z | z
  .obtain⟨e,n,n1,n2,d⟩:=I.pin p z;refine⟨J _ _ e,n,λq=>?_,λq=>?_,d⟩
   .exact As (C_ e) (IS.mpr (by rw[show p.1=C from q];exact D4 A))
   rcases o_.mp (I.stkSub p.1 q) with q | q
   .exact n1 q
   exact n2 q
  obtain⟨e,n,d⟩:=hp p z;refine⟨e,I.hok.fresh yT,λq=>?_,λq=>?_,d⟩
  .exact As (n.trans (show p.1=C from q)) (P_ A)
  have:=I.stkSub p.1 q;rcases o_.mp this with q | q
  .exact As I.lt (IS.mpr (by rw[<- q,n];exact l_ _))
  exact I.nofs yT q
 unfold qi;show _=N'.length;rw[b_,Pe,d_,S.len]
theorem A9.track (x:A9 P w H h) (i:H a=af) (l:H C=af) (k:∀b u,b≠C->h.get? b=ab u->h'.get? b=ab u) (d:Bz P w (zw H a o) h' a o):A9 P w (zw H a o) h':=λb u e=>by
 by_cases g:b=a
 .subst g;rw[bR] at e;cases e;exact d
 rw[aY g] at e;have j:∀c z,H c=ab z->c≠C:=λc z q r=>by rw[r,l] at q;cases q
 refine (x b u e).stay (λc v f q=>k c v ?_ q) (λc q=>by rw[aY (cF q i)];exact q) λc xs q=>by rw[aY (cF q i)];exact q
 rcases f with rfl | f
 .exact j c u e
 exact j c _ f
theorem uV {Z:St}{RR:av->ah->yb->aE->Prop} (hc:X.calm=ag) (S:IE X N' nt cap scope) (G':∀x c,M.lookup x=ab c->X.env.cells.lookup x=ab c) (hclh:∀y∈scope.names,y.2=.free->∃c,M.lookup y.1=ab c) (hX:∀M a s H C l,PG (bY X N' scope M a s H C l) tg g/\MM (bY X N' scope M a s H C l) ifs tt/\PE (bY X N' scope M a s H C l) elt te) (I:y4 X a Z f s₂) (T:Ch X.prog X.w X.K tg J l it tn) (st:tn 0 s₂.heap) (hf:∀b∈l,qd X a f b) (hw:zm J g tt te fin (qi nt cap Z) f) (hRR:∀(D C:ah) (s₄:aE) (m:ap->Option av) (U:List V) (H':Hp),s₄.heap.Ns C m->s₂.heap.objs.size<=D->s₂.heap.objs.size<=C->C≠D->H' D=af->H' C=af->U.length<=ai->fin U H' ->
   (∀h',(∀b o,b≠C->s₄.heap.get? b=ab o->h'.get? b=ab o)->y4 X a Z (zw H' D (.lst U)) { s₄ with heap:=h'})->RR (.ref D) C (.ok .next) s₄):
  ax (aI X.prog X.w) X.A (sQ []) (λacc F=>ax (aI X.prog X.w) X.A (lv scope X.env.globals M [] X.env.qual af .none (ab X.env)) (λcenv s₄ =>
   dy (aI X.prog X.w) X.A (.compStart (.ListComp elt [⟨tg,iter,ifs,0⟩] scope ZT) 0 (.ref it) acc { cenv with scope:=oB scope X.env}) (RR acc cenv.locals) s₄) E F) E s₂:=by
 refine B9 (JZ ?_);dsimp only;generalize hH2:s₂.heap.push { cls:=.type "list",dict:=af,data:=.seq ([]:List av).toArray}=B;generalize Y:s₂.heap.objs.size=D;have hB:B.objs.size=D+1:=by rw[<- hH2,GB,Y]
 have G:CellsOk (mr (B.push { cls:=.type "dict",data:=.dict #[]}) scope.names) (B.objs.size+1) (a9 (B.objs.size+1) scope.names []):=by have:=cellsFrom_ok scope.names (B.push { cls:=.type "dict",data:=.dict #[]}) (B.objs.size+1) [] ⟨λ_ _ hm=>(nomatch hm),iO⟩ (by rw[GB];exact l_ _);rw[GB] at this;exact this
 have t:(mr (B.push { cls:=.type "dict",data:=.dict #[]}) scope.names).Ns B.objs.size λ_=>af:=(Heap.Ns.new B (.type "dict")).keeps (sw _ _);have L:∀b o,B.get? b=ab o->(mr (B.push { cls:=.type "dict",data:=.dict #[]}) scope.names).get? b=ab o:=λb o e=>sw _ _ b o (e_ _ e);generalize hCe:B.objs.size=C at t G |-;generalize mr (B.push { cls:=.type "dict",data:=.dict #[]}) scope.names=Q at t G L |-;have hCD:C=D+1:=hCe.symm.trans hB;have hDC:D≠C:=by rw[hCD];exact P_ (IL _)
 have O:s₂.heap.objs.size<C:=by rw[Y,hCD];exact IL _
 have below:∀b o,s₂.heap.get? b=ab o->b≠C/\b≠D:=λb o e=>by have:=C_ e;rw[Y] at this;exact⟨by rw[hCD];exact P_ (Kj this),P_ this⟩
 have old:∀b o,s₂.heap.get? b=ab o->Q.get? b=ab o:=λb o e=>L b o (hH2▸e_ _ e);have hacc:Q.get? D=ab { cls:=.type "list",data:=.seq ([]:List av).toArray 0}:=L _ _ (hH2▸Y▸t_ _ rfl);have N:tn 0 Q:=T.keep _ _ _ st λb j o e=>old b o e;have hfl:∀b∈l,b<s₂.heap.objs.size:=λb j=>by obtain⟨o,e,_⟩:=T.obj _ _ st b j;exact C_ e
 obtain⟨W,⟨m0,w0⟩,turn⟩:=hw;obtain⟨hg,hi,he⟩:=hX (a9 (C+1) scope.names M) a s₂ f C l;have stat:∀{H':Hp} {k:Nat} {h:List av},(∀b∈l,H' b=af)->∀b∈l,qd (bY X N' scope (a9 (C+1) scope.names M) a s₂ f C l) [(D,{ cls:=.type "list",data:=.seq h.toArray k})] H' b:=λ{H' k h} hn b j=>by
  obtain⟨f0,f1,f2,f3,f4,f5⟩:=hf b j;have hlt:=hfl b j;refine⟨hn b j,λz=>?_,λz=>?_,.inl j,λx c e=>?_,λp hp=>?_⟩
  .rw[show b=C from z] at hlt;exact As hlt (IS.mpr (D4 O))
  .rcases o_.mp (I.stkSub b z) with q | q
   .exact f1 q
   exact f2 q
  .rcases gY e with q | q
   .have:=(G.empty x c (mem_of_lookup q)).2;intro z;rw[z] at this;exact As (V_ (Kj (FE hlt O)) this) (BS _)
   exact f4 x c (G' x c q.2)
  rcases F_.mp hp with z | z
  .exact f5 p z
  rw[i_.mp z];intro e;rw[<- (show D=b from e),Y] at hlt;exact BS _ hlt
 have loop:∀F:aE,F={ s₂ with heap:=Q}->dy (aI X.prog X.w) X.A (.compLoop (.ListComp elt [⟨tg,iter,ifs,0⟩] scope ZT) 0 (.ref it) (.ref D) (compEnvC scope (a9 (C+1) scope.names M) C X.env)) (RR (.ref D) C) F:=by
  rintro F rfl;refine sV (λn s'=>∃i U h k Z' H',y4 (bY X N' scope (a9 (C+1) scope.names M) a s₂ f C l) [(D,{ cls:=.type "list",data:=.seq h.toArray k})] Z' H' s'/\y7 U h/\tn i s'.heap/\(∀b∈l,H' b=af)/\W i n U Z' H'/\U.length<=ai) ?_ m0
   ⟨0,[],[],0,qi nt cap Z,f,Ei (tk:=s₂.toks) S I G' hclh hf hfl O t old (λp hp=>?_) G,.nil,N,λb j=>(hf b j).1,w0,B6 _⟩
  .rintro n s3 ⟨i,U,h,k,Z3,H3,I3,rv,st3,fr3,w3,hz⟩;have pD:=I3.pin (D,{ cls:=.type "list",data:=.seq h.toArray k}) (Da _ (i_.mpr rfl));rcases turn i n U Z3 H3 w3 with ⟨stop,hz',hfin⟩ | ⟨go,step⟩
   .refine z3 (T.done (bY X N' scope (a9 (C+1) scope.names M) a s₂ f C l) rfl rfl rfl hc i _ s3 Z3 H3 (λ_ _=>False) I3 (stat fr3) st3 stop) λr s4 ⟨hr,I4⟩=>?_;subst hr;obtain⟨m4,hn4,_⟩:=I4.loc;have pD4:=I4.pin (D,{ cls:=.type "list",data:=.seq h.toArray k}) (Da _ (i_.mpr rfl));refine hRR D C s4 m4 U H3 hn4 (by rw[Y];exact l_ _) (D4 O) (aS hDC) pD4.2.1 I4.free hz' hfin λh' k'=>?_;have nD:∀b u,H3 b=ab u->b≠D:=λb u e z=>by rw[z,pD4.2.1] at e;cases e
    have nDs:∀b o,s₂.heap.get? b=ab o->b≠D/\b≠C:=λb o e=>⟨(below b o e).2,(below b o e).1⟩;have B4:=I4.base;refine I.call' (s':={ s4 with heap:=h'}) (ch:=l) I4.os ⟨λb o e n j hx=>k' b o (nDs b o e).2 (B4.keep b o e n j hx),λb o e n j hx=>?_,λb o e n hx=>?_,λb o e hx=>?_,λb xs e=>?_,λb o u e=>?_,λb ps e=>?_⟩ ?_ I4.bare λb j=>?_
    .obtain⟨sl,q⟩:=B4.slot b o e n j hx;exact⟨sl,k' b _ (nDs b o e).2 q⟩
    .rw[aY (nDs b o e).1];exact B4.free b o e n hx
    .obtain⟨o',q⟩:=B4.there b o e hx;exact⟨o',k' b _ (nDs b o e).2 q⟩
    .have q:=B4.tups b xs e;rw[aY (nD _ _ q)];exact q
    .have q:=B4.frzs b o u e;rw[aY (nD _ _ q)];exact q
    .obtain⟨more,q⟩:=B4.tbls b ps e;exact⟨more,by rw[aY (nD _ _ q)];exact q⟩
    .exact I4.hok.track pD4.2.1 I4.free k' ⟨hz',h,k,rv,k' D _ hDC pD4.1⟩
    obtain⟨f0,f1,f2,f3,f4,f5⟩:=hf b j;exact⟨f3,f1,f4,f5⟩
   refine z3 (T.item (bY X N' scope (a9 (C+1) scope.names M) a s₂ f C l) rfl rfl rfl hc i _ s3 Z3 H3 (λ_ _=>False) I3 (stat fr3) st3 go) λr s4 ⟨u,hr,h4⟩=>?_;subst hr;refine z3 h4 λ_ s5 ⟨x,H5,I5,r5,y5,st5,fr5⟩=>?_;have I5':=I5.pinned (stat fr5) (T.obj _ _ st5);refine z3 (hg _ s5 Z3 H5 x u _ I5' r5 (step x H5 y5)) λ_ s6 ⟨Z6,H6,I6,q6⟩=>?_;refine z3 (hi _ s6 Z6 H6 _ I6 q6) λok s7 ⟨H7,I7,q7⟩=>?_;have P:∀{Z8:St} {H8:Hp} {s8:aE},y4 (bY X N' scope (a9 (C+1) scope.names M) a s₂ f C l) ([(D,{ cls:=.type "list",data:=.seq h.toArray k})]++nP l s5.heap) Z8 H8 s8->tn (i+1) s8.heap/\∀b∈l,H8 b=af:=λ{Z8 H8 s8} I8 =>
    ⟨T.keep _ _ _ st5 λb j o e=>(I8.pin (b,o) (Da _ (Da _ (gU j e)))).1,λb j=>by
     obtain⟨o,e,d⟩:=T.obj _ _ st5 b j
     exact (I8.pin (b,o) (Da _ (Da _ (gU j e)))).2.1⟩
   cases ok with
   |false=>rw[y9 B_] at q7 |-;obtain⟨m',hm,w7⟩:=q7;exact⟨m',hm,i+1,U,h,k,Z6,H7,I7.unpinned,rv,(P I7).1,(P I7).2,w7,hz⟩
   |true =>
   rw[zi rfl] at q7 |-;refine z3 (he _ s7 Z6 H7 _ I7 q7) λuy s8 ⟨y,H8,I8,ry,hz8,m',hm,w8⟩=>?_;have R:=I8.pin (D,{ cls:=.type "list",data:=.seq h.toArray k}) (Da _ (Fa _ (i_.mpr rfl)));have hl:=rv.length;refine mL R.1 yT λh' k' e' kk=>?_;have I9:y4 (bY X N' scope (a9 (C+1) scope.names M) a s₂ f C l) [] Z6 H8 { s8 with heap:=h'}:=by
    refine y4.turned (t':=s8.toks) (it:=D) (I8.pins_of (pins':=[]) (λp hp=>nomatch hp)) (λb o j e=>kk b o j e) R.2.1 R.2.2.1 (.inr (by show s₂.heap.objs.size<=D;rw[Y];exact l_ _)) (λx c e z=>?_) (λp hp z=>?_)
    .rcases gY e with q | q
     .have:=(G.empty x c (mem_of_lookup q)).2;rw[z,hCD] at this;omega
     obtain⟨v,q⟩:=I.cell x c (G' x c q.2);have:=q.lt;rw[z,Y] at this;exact BS _ this
    rw[X_] at hp;have:=C_ (I.pin p hp).1;rw[z,Y] at this;exact BS _ this
   refine⟨m',hm,i+1,U++[y],h++[uy],k',Z6,H8,I9.pins_of λp hp=>?_,rv.append (.cons ry .nil),?_,(P I8).2,w8,?_⟩
   .rw[i_.mp hp];exact⟨e',R.2.1,R.2.2.1,R.2.2.2.1,λv z=>by cases z⟩
   .refine T.keep _ _ _ (P I8).1 λb j o e=>kk b o (λz=>?_) e;have:=hfl b j;rw[z,Y] at this;exact BS _ this
   rw[b_,E_];omega
  rw[i_.mp hp];exact⟨hacc,Y,λv z=>by cases z⟩
 exact codeAny_compStart_list (loop _ rfl) (T.self _ 0 _ _ _ N (loop _ rfl))
def Ww (c:TI) (g:TG) (tt:TT) (te:TE) (nt:Nat) (cap:List Nat):TE:=λZ H Q=>c Z H λJ b=>zm J g tt te (λa H'=>∀p,H' p=af->Q (.ref p) (zw H' p (.lst a))) (qi nt cap Z) b
theorem J0 (R:X.calm=ag) (S:IE X N' nt cap scope) (O:PI X t c E) (Y:∀p a s H C n,PG (bY X N' scope p a s H C n) t g/\MM (bY X N' scope p a s H C n) i tt/\PE (bY X N' scope p a s H C n) j te) (hs:∀x,dr c X.env x=bE x:=by intro _;rfl):PE X (.ListComp j [⟨t,c,i,0⟩] scope u) (Ww E g tt te nt cap):=by
 intro a s Z H Q I h;rw[eval_ListComp];obtain⟨p,d,r,f⟩:=n6 (scope:=scope) (env:=X.env) λy P K=>I.ok.has y.1 (S.free y P K);refine i1 (use:=af) rfl hs d S.kind S.names (z3 (O a s Z H _ I h) λv s1 h1=>z3 h1 λM s2 N=>?_);obtain⟨it,n,tn,J,H2,rfl,G,T,z,W,V⟩:=N;refine uV (RR:=λq C=>compPost (aI X.prog X.w) X.A X.xe af (EP X a Z Q) q C) R S r f Y G T z W V λD C s4 m ys H' F hD hC hDC L nC hz l k=>?_;refine⟨m,F,λh' B=>?_⟩;exact⟨.ref D,_,k h' λb o U e=>B.extBut b o U e,rfl,l D L⟩
def Ej (c:TI) (g:TG) (tt:TT) (te:TE) (nt:Nat) (cap:List Nat) (i:Nat):TS:=λD Z H=>c Z H λJ b=>zm J g tt te (λa H'=>∀p,H' p=af->D.nx (Z.set i (ab (.ref p))) (zw H' p (.lst a))) (qi nt cap Z) b
theorem J1 {u f r:kc} (hc:X.calm=ag) (hN:X.N.Nodup) (W:X.N[i]?=ab x) (hx:HM X.env.scope x) (S:IE X N' nt cap scope) (hi:PI X F j wi) (hX:∀P d s H C O,PG (bY X N' scope P d s H C O) F g/\MM (bY X N' scope P d s H C O) l tt/\PE (bY X N' scope P d s H C O) n te) (R:d6 (.ListComp n [⟨F,j,l,0⟩] scope u) (ab (.Name x f)) r.line X.env=bE ag:=by rfl) (hs:∀x,dr j X.env x=bE x:=by intro _;rfl) (U:X.fn x=ag\/X.env.scope.names.lookup x=ab .local:=by first | exact .inl rfl | exact .inr rfl | assumption):
  PS X (.Assign [.Name x f] (.ListComp n [⟨F,j,l,0⟩] scope u) r) (Ej wi g tt te nt cap i):=by
 intro d s Z H Dn I h;rw[exec_Assign_Name_used _ _ _ _ R];obtain⟨P,t,Y,G⟩:=n6 (scope:=scope) (env:=X.env) λy hy U=>I.ok.has y.1 (S.free y hy U);refine a_ (mP (a_ ?_));show ax _ X.A (do let _ <- comprehension (.ListComp n [⟨F,j,l,0⟩] scope u) scope X.env _ (sQ []) am (bo j X.env) (ab (gX (.Name x f) X.env))) _ _ s;refine a_ (Cn (i1 (use:=ab (gX (.Name x f) X.env)) (Q:=λ_ s'=>SP X d Dn .next s') rfl hs t S.kind S.names
  (z3 (hi d s Z H _ I h) λv s1 h1=>z3 h1 λitv s2 h2=>?_)) (λ_ s' hq=>h_ (h_ hq)) λ_ _ e=>e)
 obtain⟨it,O,tn,J,H2,rfl,E,T,st2,f2,hw⟩:=h2;refine uV (RR:=λV C=>compPost (aI X.prog X.w) X.A X.xe (ab (gX (.Name x f) X.env)) (λ_ s'=>SP X d Dn .next s') V C) hc S Y G hX E T st2 f2 hw λD C s4 m ys H' hn hD M hDC nD nC hz K k=>?_;show ax _ X.A (gX (.Name x f) X.env (.ref D)) _ _ s4;have I4:=k s4.heap λb o _ e=>e;have L:C≠X.env.locals:=λz=>by have:=E.lt;rw[<- z] at this;exact As this (IS.mpr M)
 have B:∀y c,X.env.cells.lookup y=ab c->c≠C:=λy c e z=>by obtain⟨v,q⟩:=E.cell y c e;have:=q.lt;rw[z] at this;exact As this (IS.mpr M)
 refine ow (qM I4 hN W hx (show zh (.ref D) (.ref D) from rfl) (λs5 I5 ⟨a,sb,ha⟩=>?_) U);have nCa:C≠a:=by
  rcases ha with rfl | ha
  .exact L
  exact λz=>B x a ha z.symm
 refine⟨m,hn.sameBut sb nCa,λh' hs'=>⟨_,_,y4.turned (t':=s5.toks) (it:=C) I5 (λb o hb e=>hs'.extBut b o hb e) (by rw[aY hDC];exact nC) L (.inr (U_ E.sz M)) B (λp hp z=>?_),K D nD⟩⟩;have:=C_ (E.pin p hp).1;rw[z] at this;exact As this (IS.mpr M)
def YU (e C:ah) (d:Option ah) (a:Bool) (h:cK):Prop:=∃vs b,h.get? e=ab ⟨.ref C,d,.fields vs,b⟩/\(a=ag->vs[1]?=ab .none)
def WB (e C:ah) (d:Option ah) (a:Bool):HO:=.ext (YU e C d a)
def VZ (c:ah) (b:List (ap × V)) (h:cK):Prop:=∃a,h.Ns1 c a/\(∀f,C9 (b.lookup f) (a f))/\kF a (b.map (·.1))
def Y1 (a:ah) (b:List (ap × V)):HO:=.ext (VZ a b)
end L2
set_option maxHeartbeats 1000000
namespace L3
open L2
inductive T where
 |non | bl (b:Bool) | int (i:Int) | str (x:ap) | tup (ts:List T) | ref (a:ah) | ty (n:String)
mutual
def zI (K:a3) (H:Hp):T->V->Prop
 |.non,v=>v=.non
 |.bl b,v=>v=.bl b
 |.int i,v=>v=.int i
 |.str x,v=>v=.str x
 |.tup ts,v=>∃a xs,v=.ref a/\A0 K H a xs/\jj K H ts xs
 |.ref a,v=>v=.ref a
 |.ty n,v=>v=.ty n
def jj (K:a3) (H:Hp):List T->List V->Prop
 |[],xs=>xs=[]
 |t::ts,xs=>∃x r,xs=x::r/\zI K H t x/\jj K H ts r
end
def R7 (K:a3) (H H':Hp):Prop:=∀a xs,A0 K H a xs->A0 K H' a xs
theorem R7.refl {K:a3}:R7 K H H:=λ_ _ h=>h
theorem R7.trans {K:a3} (a:R7 K H e) (b:R7 K e d):R7 K H d:=λc xs h=>b c xs (a c xs h)
mutual
theorem zI.mono {K:a3} (b:R7 K H H'):∀{t:T}{v:V},zI K H t v->zI K H' t v
 |.non,_,h=>by simp only[zI] at h |-;exact h
 |.bl _,_,h=>by simp only[zI] at h |-;exact h
 |.int _,_,h=>by simp only[zI] at h |-;exact h
 |.str _,_,h=>by simp only[zI] at h |-;exact h
 |.ref _,_,h=>by simp only[zI] at h |-;exact h
 |.ty _,_,h=>by simp only[zI] at h |-;exact h
 |.tup ts,_,h=>by
  simp only[zI] at h |-
  obtain⟨a,xs,e,s,r⟩:=h
  exact⟨a,xs,e,b a xs s,jj.mono b r⟩
theorem jj.mono {K:a3} (c:R7 K H H'):∀{ts:List T}{xs:List V},jj K H ts xs->jj K H' ts xs
 |[],_,h=>by simp only[jj] at h |-;exact h
 |t::ts,_,h=>by
  simp only[jj] at h |-
  obtain⟨x,r,e,a,b⟩:=h
  exact⟨x,r,e,zI.mono c a,jj.mono c b⟩
end
section
variable {K:a3}
theorem jj.nil:jj K H [] []:=by simp only[jj]
theorem jj.cons (a:zI K H t v) (b:jj K H ts vs):jj K H (t::ts) (v::vs):=by simp only[jj];exact⟨v,vs,rfl,a,b⟩
theorem jj.inv (h:jj K H (t::ts) vs):∃v r,vs=v::r/\zI K H t v/\jj K H ts r:=by simp only[jj] at h;exact h
theorem jj.inv0 (h:jj K H [] vs):vs=[]:=by simp only[jj] at h;exact h
theorem jj.length:∀{ts:List T}{vs:List V},jj K H ts vs->ts.length=vs.length
 |[],_,h=>by rw[h.inv0];rfl
 |t::ts,_,h=>by obtain⟨v,r,rfl,_,b⟩:=h.inv;simp [jj.length b]
theorem jj.get:∀{ts:List T}{vs:List V}{i:Nat}{t:T},jj K H ts vs->ts[i]?=ab t->∃v,vs[i]?=ab v/\zI K H t v
 |[],_,_,_,_,e=>by simp at e
 |a::ts,_,0,t,h,e=>by obtain⟨v,r,rfl,q,_⟩:=h.inv;simp at e;subst e;exact⟨v,rfl,q⟩
 |a::ts,_,i+1,t,h,e=>by obtain⟨v,r,rfl,_,b⟩:=h.inv;simpa using jj.get b (by simpa using e)
theorem jj.get':∀{ts:List T}{vs:List V}{i:Nat}{v:V},jj K H ts vs->vs[i]?=ab v->∃t,ts[i]?=ab t/\zI K H t v
 |[],_,_,_,h,e=>by rw[h.inv0] at e;simp at e
 |a::ts,_,0,v,h,e=>by obtain⟨x,r,rfl,q,_⟩:=h.inv;simp at e;subst e;exact⟨a,rfl,q⟩
 |a::ts,_,i+1,v,h,e=>by obtain⟨x,r,rfl,_,b⟩:=h.inv;simpa using jj.get' b (by simpa using e)
theorem jj.append:∀{ts us:List T}{xs c:List V},jj K H ts xs->jj K H us c->jj K H (ts++us) (xs++c)
 |[],_,_,_,h,h'=>by rw[h.inv0];exact h'
 |t::ts,_,_,_,h,h'=>by obtain⟨v,r,rfl,a,b⟩:=h.inv;exact .cons a (jj.append b h')
theorem jj.take:∀{ts:List T}{xs:List V}(n:Nat),jj K H ts xs->jj K H (ts.take n) (xs.take n)
 |[],_,n,h=>by rw[h.inv0];simp only[xt];exact .nil
 |t::ts,_,0,h=>.nil
 |t::ts,_,n+1,h=>by obtain⟨v,r,rfl,a,b⟩:=h.inv;exact .cons a (jj.take n b)
theorem jj.drop:∀{ts:List T}{xs:List V}(n:Nat),jj K H ts xs->jj K H (ts.drop n) (xs.drop n)
 |[],_,n,h=>by rw[h.inv0];simp only[List.drop_nil];exact .nil
 |t::ts,_,0,h=>h
 |t::ts,_,n+1,h=>by obtain⟨v,r,rfl,a,b⟩:=h.inv;exact jj.drop n b
theorem jj.set:∀{ts:List T}{xs:List V}{t:T}{v:V}(n:Nat),jj K H ts xs->zI K H t v->jj K H (ts.set n t) (xs.set n v)
 |[],_,_,_,n,h,r=>by rw[h.inv0];exact .nil
 |t::ts,_,_,_,0,h,q=>by obtain⟨v,r,rfl,a,b⟩:=h.inv;exact .cons q b
 |t::ts,_,_,_,n+1,h,q=>by obtain⟨v,r,rfl,a,b⟩:=h.inv;exact .cons a (jj.set n b q)
theorem jj.reverse (h:jj K H ts xs):jj K H ts.reverse xs.reverse:=by
 induction ts generalizing xs with
 |nil=>rw[h.inv0];exact .nil
 |cons t ts c=>obtain⟨v,r,rfl,a,b⟩:=h.inv;simp only[iN];exact (c b).append (.cons a .nil)
theorem jj.eraseIdx:∀{ts:List T}{xs:List V}(n:Nat),jj K H ts xs->jj K H (ts.eraseIdx n) (xs.eraseIdx n)
 |[],_,n,h=>by rw[h.inv0];exact .nil
 |t::ts,_,0,h=>by obtain⟨v,r,rfl,a,b⟩:=h.inv;exact b
 |t::ts,_,n+1,h=>by obtain⟨v,r,rfl,a,b⟩:=h.inv;exact .cons a (jj.eraseIdx n b)
theorem zI.non (h:zI K H .non v):v=.non:=by simp only[zI] at h;exact h
theorem zI.bl (h:zI K H (.bl b) v):v=.bl b:=by simp only[zI] at h;exact h
theorem zI.int (h:zI K H (.int i) v):v=.int i:=by simp only[zI] at h;exact h
theorem zI.str (h:zI K H (.str x) v):v=.str x:=by simp only[zI] at h;exact h
theorem zI.ref (h:zI K H (.ref a) v):v=.ref a:=by simp only[zI] at h;exact h
theorem zI.ty (h:zI K H (.ty n) v):v=.ty n:=by simp only[zI] at h;exact h
theorem zI.tup (h:zI K H (.tup ts) v):∃a xs,v=.ref a/\A0 K H a xs/\jj K H ts xs:=by simp only[zI] at h;exact h
theorem zI.ofNon:zI K H .non .non:=by simp only[zI]
theorem zI.ofBl:zI K H (.bl b) (.bl b):=by simp only[zI]
theorem zI.ofInt:zI K H (.int i) (.int i):=by simp only[zI]
theorem zI.ofStr:zI K H (.str x) (.str x):=by simp only[zI]
theorem zI.ofRef:zI K H (.ref a) (.ref a):=by simp only[zI]
theorem zI.ofTup (h:A0 K H a xs) (r:jj K H ts xs):zI K H (.tup ts) (.ref a):=by simp only[zI];exact⟨a,xs,rfl,h,r⟩
end
inductive O3 where
 |lst (ts:List T) | rol (ts:List T) | dct (kvs:List (ap × T)) | dcp (kvs:List (List z5 × T))
 |exc (C:ah) (d:Option ah) | xdt (fs:List (ap × T))
 |dci (kvs:List (Int × T)) | dif (o:dP) (kvs:List (Int × T)) | dsf (o:dP) (kvs:List (ap × T)) | ins (C:ah) (fs:List (ap × T))
abbrev gV:=ah->Option O3
def eH (H:gV) (a:ah) (o:O3):gV:=λb=>if b=a then ab o else H b
theorem aC:eH H a o a=ab o:=by unfold eH;rw[zi rfl]
theorem aD (h:b≠a):eH H a o b=H b:=by unfold eH;rw[y9 h]
theorem zp:eH (eH H a o) a u=eH H a u:=by funext b;unfold eH;split <;> rfl
def CC (K:a3) (H:Hp):List (ap × T)->List (z5 × V)->Prop:=g9 λ(p:ap × T) (q:z5 × V)=>q.1=ca p.1/\zI K H p.2 q.2
def QY (K:a3) (H:Hp):List (List z5 × T)->List (List z5 × V)->Prop:=g9 λ(p:List z5 × T) (q:List z5 × V)=>q.1=p.1/\zI K H p.2 q.2
def G2 (K:a3) (H:Hp):List (ap × T)->List (ap × V)->Prop:=g9 λ(p:ap × T) (q:ap × V)=>q.1=p.1/\zI K H p.2 q.2
def D7 (K:a3) (H:Hp):List (Int × T)->List (z5 × V)->Prop:=g9 λ(p:Int × T) (q:z5 × V)=>q.1=cw p.1/\zI K H p.2 q.2
def QA (K:a3) (H:Hp) (a:ah):O3->Prop
 |.lst ts=>∃xs,H a=ab (.lst xs)/\jj K H ts xs
 |.rol ts=>∃xs,Rd H a (.lst xs)/\jj K H ts xs
 |.dct kvs=>∃vs,H a=ab (.dK vs)/\CC K H kvs vs
 |.dcp kvs=>∃vs,H a=ab (.dT vs)/\QY K H kvs vs
 |.exc C d=>H a=ab (WB a C d am)
 |.xdt b=>∃vs,H a=ab (Y1 a vs)/\G2 K H b vs
 |.dci kvs=>∃vs,H a=ab (.dK vs)/\D7 K H kvs vs
 |.dif o kvs=>∃vs,H a=ab (.frz o (.dK vs))/\D7 K H kvs vs
 |.dsf o kvs=>∃vs,H a=ab (.frz o (.dK vs))/\CC K H kvs vs
 |.ins C b=>∃c vs,H a=ab (.ins C c vs)/\G2 K H b vs
def xr (K:a3) (H3:gV) (H:Hp):Prop:=∀a o,H3 a=ab o->QA K H a o
abbrev AJ:=List (Option T)
structure BM (K:a3) (H:Hp) (Z3:AJ) (Z:L2.St):Prop where
 len:Z3.length=Z.length
 at':∀(i:Nat) (t:T),Z3[i]?=ab (ab t)->∃v,Z[i]?=ab (ab v)/\zI K H t v
section
variable {K:a3}{H3:gV}
theorem BM.mono (s:BM K H Z3 Z) (a:R7 K H H'):BM K H' Z3 Z:=⟨s.len,λi t e=>let ⟨v,e',r⟩:=s.at' i t e;⟨v,e',r.mono a⟩⟩
theorem BM.set (s:BM K H Z3 Z) (r:zI K H t v):BM K H (Z3.set i (ab t)) (Z.set i (ab v)):=by
 refine⟨by simp [s.len],λj u e=>?_⟩;by_cases a:i=j
 .subst a;by_cases b:i<Z3.length
  .rw[OO b] at e;have c:t=u:=T_ (T_ e);subst c;exact⟨v,by rw[OO (by rw[<- s.len];exact b)],r⟩
  rw[G_ (by simpa using b)] at e;cases e
 rw[NU a] at e;rw[NU a];exact s.at' j u e
theorem CC.mono (h:CC K H kvs vs) (c:R7 K H H'):CC K H' kvs vs:=Paired.mapP h λ_ _ ⟨a,b⟩=>⟨a,b.mono c⟩
theorem G2.mono (h:G2 K H kvs vs) (c:R7 K H H'):G2 K H' kvs vs:=Paired.mapP h λ_ _ ⟨a,b⟩=>⟨a,b.mono c⟩
theorem D7.mono (h:D7 K H kvs vs) (c:R7 K H H'):D7 K H' kvs vs:=Paired.mapP h λ_ _ ⟨a,b⟩=>⟨a,b.mono c⟩
theorem QY.mono (h:QY K H kvs vs) (c:R7 K H H'):QY K H' kvs vs:=Paired.mapP h λ_ _ ⟨a,b⟩=>⟨a,b.mono c⟩
theorem Nl (h:H3 a=ab o) (h':H3 b=ab u) (d:o≠u):a≠b:=by
 intro e;subst e;rw[h] at h';exact d (T_ h')
theorem aR (h:H3 a=ab o) (h':H3 b=af):a≠b:=by
 intro e;subst e;rw[h] at h';cases h'
theorem aO (b:H p=af):R7 K H (zw H p o):=λa xs h=>by
 rcases h with (h | ⟨c,h⟩) | h
 .exact .inl (.inl (by rw[aY (cF h b)];exact h))
 .exact .inl (.inr ⟨c,by rw[aY (cF h b)];exact h⟩)
 exact .inr h
theorem bC (b:LU (H p)):R7 K H (zw H p o):=λa xs h=>by
 have key:∀u,H a=ab u->¬LU (ab u)->a≠p:=λu e nm z=>by subst z;rw[e] at b;exact nm b
 rcases h with (h | ⟨c,h⟩) | h
 .exact .inl (.inl (by rw[aY (key _ h λz=>z)];exact h))
 .exact .inl (.inr ⟨c,by rw[aY (key _ h λz=>z)];exact h⟩)
 exact .inr h
theorem QA.stay (h:QA K H a o) (c:R7 K H H') (b:∀u,H a=ab u->H' a=ab u):QA K H' a o:=by
 cases o with
 |lst ts=>obtain⟨xs,e,r⟩:=h;exact⟨xs,b _ e,r.mono c⟩
 |rol ts =>
  obtain⟨xs,e,r⟩:=h;refine⟨xs,?_,r.mono c⟩;rcases e with e | ⟨g,e⟩
  .exact .inl (b _ e)
  exact .inr ⟨g,b _ e⟩
 |dct kvs=>obtain⟨vs,e,r⟩:=h;exact⟨vs,b _ e,r.mono c⟩
 |dcp kvs=>obtain⟨vs,e,r⟩:=h;exact⟨vs,b _ e,r.mono c⟩
 |exc C d=>exact b _ h
 |xdt f=>obtain⟨vs,e,r⟩:=h;exact⟨vs,b _ e,r.mono c⟩
 |dci kvs=>obtain⟨vs,e,r⟩:=h;exact⟨vs,b _ e,r.mono c⟩
 |dif o kvs=>obtain⟨vs,e,r⟩:=h;exact⟨vs,b _ e,r.mono c⟩
 |dsf o kvs=>obtain⟨vs,e,r⟩:=h;exact⟨vs,b _ e,r.mono c⟩
 |ins C f=>obtain⟨d,vs,e,r⟩:=h;exact⟨d,vs,b _ e,r.mono c⟩
theorem xr.new (s:xr K H3 H) (b:H p=af):xr K H3 (zw H p o):=λa u e =>
 (s a u e).stay (aO b) λw q=>by rw[aY (cF q b)];exact q
theorem xr.fresh (s:xr K H3 H) (a:H p=af):H3 p=af:=by
 cases e:H3 p with
 |none=>rfl
 |some o =>
  have q:=s p o e
  cases o with
  |lst ts=>obtain⟨xs,z,_⟩:=q;rw[a] at z;cases z
  |dct ts=>obtain⟨xs,z,_⟩:=q;rw[a] at z;cases z
  |dcp ts=>obtain⟨xs,z,_⟩:=q;rw[a] at z;cases z
  |exc C b=>have z:H p=_:=q;rw[a] at z;cases z
  |xdt ts=>obtain⟨xs,z,_⟩:=q;rw[a] at z;cases z
  |dci ts=>obtain⟨xs,z,_⟩:=q;rw[a] at z;cases z
  |dif o ts=>obtain⟨xs,z,_⟩:=q;rw[a] at z;cases z
  |dsf o ts=>obtain⟨xs,z,_⟩:=q;rw[a] at z;cases z
  |ins C ts=>obtain⟨b,xs,z,_⟩:=q;rw[a] at z;cases z
  |rol ts =>
   obtain⟨xs,z,_⟩:=q
   rcases z with z | ⟨c,z⟩
   ·
    rw[a] at z;cases z
   ·
    rw[a] at z;cases z
end
abbrev Z1:=T->gV->Prop
abbrev zS:=AJ->gV->Z1->Prop
abbrev CM:=AJ->gV->(Bool->gV->Prop)->Prop
abbrev DM:=AJ->gV->(List T->gV->Prop)->Prop
structure Rs where
 nx:AJ->gV->Prop
 rt:Z1
 bk:AJ->gV->Prop:=λ_ _=>False
 ct:AJ->gV->Prop:=λ_ _=>False
abbrev BY:=Rs->AJ->gV->Prop
abbrev ED:=T->AJ->gV->(AJ->gV->Prop)->Prop
abbrev oh:=List T->AJ->gV->(AJ->gV->Prop)->Prop
abbrev R3:=T->T->gV->Z1->Prop
section
variable (K:a3)
def HC (H:Hp) (b:Z1) (Q:VK):Prop:=∀v H' t a,R7 K H H'->xr K a H'->zI K H' t v->b t a->Q v H'
def He (H:Hp) (d:AJ->gV->Prop) (N:L2.St->Hp->Prop):Prop:=∀c H' b a,R7 K H H'->BM K H' b c->xr K a H'->d b a->N c H'
def LB (c:zS):TE:=λZ H Q=>∃b H3 a,BM K H b Z/\xr K H3 H/\c b H3 a/\HC K H a Q
def BW (e:CM):TT:=λZ H Q=>∃d H3 c,BM K H d Z/\xr K H3 H/\e d H3 c/\∀b H' a,R7 K H H'->xr K a H'->c b a->Q b H'
def Z0 (d:DM):TA:=λZ H Q=>∃c H3 b,BM K H c Z/\xr K H3 H/\d c H3 b/\∀vs H' ts a,R7 K H H'->xr K a H'->jj K H' ts vs->b ts a->Q vs H'
def Wx (c:BY):TS:=λD Z H=>∃b H3 a,BM K H b Z/\xr K H3 H/\c a b H3/\He K H a.nx D.nx/\HC K H a.rt D.rt/\He K H a.bk D.bk/\He K H a.ct D.ct
def J2 (c:ED):TG:=λv Z H Q=>∃t b H3 a,zI K H t v/\BM K H b Z/\xr K H3 H/\c t b H3 a/\He K H a Q
def Wz (c:oh):MR:=λvs Z H Q=>∃ts b H3 a,jj K H ts vs/\BM K H b Z/\xr K H3 H/\c ts b H3 a/\He K H a Q
def Rv (d:R3):R2:=λx y H Q=>∃b c H3 a,zI K H b x/\zI K H c y/\xr K H3 H/\d b c H3 a/\HC K H a Q
def Z5 (b:List T->gV->Z1->Prop):List V->Hp->VK->Prop:=λxs H Q=>∃ts H3 a,jj K H ts xs/\xr K H3 H/\b ts H3 a/\HC K H a Q
def Z9 (c:T->List T->gV->Z1->Prop):V->List V->Hp->VK->Prop:=λx xs H Q=>∃b ts H3 a,zI K H b x/\jj K H ts xs/\xr K H3 H/\c b ts H3 a/\HC K H a Q
end
section
variable {K:a3}
theorem HC.at (k:HC K H b Q) (c:R7 K H H1):HC K H1 b Q:=λv H' t a l=>k v H' t a (c.trans l)
theorem He.at (k:He K H e N) (f:R7 K H H1):He K H1 e N:=λa b c d l=>k a b c d (f.trans l)
end
def Z7 (X:Cx) (e:Expr) (t:zS):Prop:=PE X e (LB X.K t)
def D9 (X:Cx) (e:Expr) (t:CM):Prop:=PT X e (BW X.K t)
def BG (X:Cx) (e:Expr) (t:CM):Prop:=PW X e (BW X.K t)
def DZ (X:Cx) (a:List Expr) (t:DM):Prop:=PA X a (Z0 X.K t)
def D3 (X:Cx) (st:eB) (t:BY):Prop:=PS X st (Wx X.K t)
def sW (X:Cx) (st:List eB) (t:BY):Prop:=CD X st (Wx X.K t)
def KP (X:Cx) (e:Expr) (t:ED):Prop:=PG X e (J2 X.K t)
def J3 (X:Cx) (a:List Expr) (t:oh):Prop:=GL X a (Wz X.K t)
def dh (X:Cx) (f:av->av->Sem av) (r:R3):Prop:=AO X f (Rv X.K r)
def dO (X:Cx) (f:av) (r:List T->gV->Z1->Prop):Prop:=Cf X f (Z5 X.K r)
def WD (X:Cx) (r:R3):Prop:=EK X (Rv X.K r)
def sX (X:Cx) (id:String) (r:T->List T->gV->Z1->Prop):Prop:=E7 X id (Z9 X.K r)
theorem PE.imp (h:PE X e t) (w:∀Z H Q,t' Z H Q->t Z H Q):PE X e t':=λa s Z H Q I q=>h a s Z H Q I (w Z H Q q)
theorem PT.imp (h:PT X e t) (w:∀Z H Q,t' Z H Q->t Z H Q):PT X e t':=λa s Z H Q I q=>h a s Z H Q I (w Z H Q q)
theorem PW.imp (h:PW X e t) (w:∀Z H Q,t' Z H Q->t Z H Q):PW X e t':=λb a s Z H Q I q=>h b a s Z H Q I (w Z H Q q)
theorem PA.imp (h:PA X c t) (w:∀Z H Q,t' Z H Q->t Z H Q):PA X c t':=λb a s Z H Q I q=>h b a s Z H Q I (w Z H Q q)
theorem PS.imp (h:PS X e t) (w:∀D Z H,t' D Z H->t D Z H):PS X e t':=λa s Z H D I q=>h a s Z H D I (w D Z H q)
theorem CD.imp (h:CD X e t) (w:∀D Z H,t' D Z H->t D Z H):CD X e t':=λa s Z H D I q=>h a s Z H D I (w D Z H q)
theorem PG.imp (h:PG X e t) (w:∀v Z H Q,t' v Z H Q->t v Z H Q):PG X e t':=λa s Z H v u Q I r q=>h a s Z H v u Q I r (w v Z H Q q)
theorem GL.imp (h:GL X e t) (w:∀v Z H Q,t' v Z H Q->t v Z H Q):GL X e t':=λa s Z H v u Q I r q=>h a s Z H v u Q I r (w v Z H Q q)
theorem AO.imp (h:AO X f t) (w:∀x y H Q,t' x y H Q->t x y H Q):AO X f t':=λa s Z H x y v u Q I c b q=>h a s Z H x y v u Q I c b (w x y H Q q)
theorem Cf.imp (h:Cf X f t) (w:∀x H Q,t' x H Q->t x H Q):Cf X f t':=λa s Z H x v Q I b q=>h a s Z H x v Q I b (w x H Q q)
theorem EK.imp (h:EK X t) (w:∀x y H Q,t' x y H Q->t x y H Q):EK X t':=λa b c s Z H x y v u Q I e d q=>h a b c s Z H x y v u Q I e d (w x y H Q q)
theorem E7.imp {id:String} (h:E7 X id t) (w:∀x xs H Q,t' x xs H Q->t x xs H Q):E7 X id t':=λa s Z H x xs v us Q I c b q=>h a s Z H x xs v us Q I c b (w x xs H Q q)
section
variable {X:Cx}{ZT:kc}
def uW (i:Nat):zS:=λZ H Q=>match Z[i]? with
 |some (ab t)=>Q t H
 |_=>False
def PD (t:T):zS:=λ_ H Q=>Q t H
theorem v3 (i:Nat) {b:kc} (c:X.N[i]?=ab x:=by rfl) (j:NI X.env.scope x:=by first | exact hG rfl | exact e4 (hG rfl) | exact e4 (e4 rfl)) (f:(x==("__debug__":ap))=am:=by decide) (a:(x==("__classdict__":ap))=am:=by decide):Z7 X (.Name x b) (uW i):=by
 refine PE.imp (pv i c j f a) ?_;rintro Z H Q ⟨n,H3,m,d,l,h,k⟩;unfold uW at h;split at h
 .rename_i t e;obtain⟨v,g,r⟩:=d.at' i t e;exact⟨v,g,k v H t H3 .refl l r h⟩
 exact h.elim
abbrev E8{X x}:=@v3 X x 9
abbrev BN{X x}:=@v3 X x 8
abbrev BO{X x}:=@v3 X x 7
abbrev BU{X x}:=@v3 X x 6
abbrev AI{X x}:=@v3 X x 5
abbrev AD{X x}:=@v3 X x 4
abbrev z4{X x}:=@v3 X x 3
abbrev zt{X x}:=@v3 X x 2
abbrev zo{X x}:=@v3 X x 1
abbrev y8{X x}:=@v3 X x 0
theorem au:Z7 X (.Constant (.int i) j ZT) (PD (.int i)):=by
 refine PE.imp QB ?_;rintro Z H Q ⟨d,H3,b,c,a,h,k⟩;exact k _ _ _ H3 .refl a .ofInt h
theorem eO:Z7 X (.Constant (.bool b) j ZT) (PD (.bl b)):=by
 refine PE.imp VF ?_;rintro Z H Q ⟨e,H3,c,d,a,h,k⟩;exact k _ _ _ H3 .refl a .ofBl h
theorem cG:Z7 X (.Constant .none j ZT) (PD .non):=by
 refine PE.imp QC ?_;rintro Z H Q ⟨d,H3,b,c,a,h,k⟩;exact k _ _ _ H3 .refl a .ofNon h
theorem cT:Z7 X (.Constant (.str x) j ZT) (PD (.str x)):=by
 refine PE.imp QD ?_;rintro Z H Q ⟨d,H3,b,c,a,h,k⟩;exact k _ _ _ H3 .refl a .ofStr h
variable {a b c:Expr}{ta tb tc:zS}
def sY (r:R3) (a b:zS):zS:=λZ H Q=>a Z H λx c=>b Z c λy d=>r x y d Q
theorem jc (h:LB X.K (sY r ta tb) Z H Q):OA (Rv X.K r) (LB X.K ta) (LB X.K tb) Z H Q:=by
 obtain⟨i,H3,q,g,s,h,k⟩:=h;exact⟨i,H3,_,g,s,h,λx t n c a d m o=>⟨i,c,_,g.mono a,d,o,λy u l e b f j p=>⟨n,l,e,q,m.mono b,j,f,p,k.at (a.trans b)⟩⟩⟩
theorem aL {c:Operator} (d:dh X (br c) r) (f:Z7 X a ta) (e:Z7 X b tb):Z7 X (.BinOp a c b ZT) (sY r ta tb):=PE.imp (V3 d f e) λ_ _ _ h=>jc h
theorem du {c:yk} (d:dh X (be c) r) (g:Z7 X a ta) (e:Z7 X b tb) (f:cr c b=am:=by first | exact DK _ | rfl):Z7 X (.Compare a [c] [b] ZT) (sY r ta tb):=PE.imp (Jz d g e f) λ_ _ _ h=>jc h
theorem aK (e:WD X r) (c:Z7 X a ta) (d:Z7 X b tb) (f:zb b:=by exact λ_ _=>rfl):Z7 X (.Subscript a b ZT) (sY r ta tb):=PE.imp (Wj e c d f) λ_ _ _ h=>jc h
def lg (t:zS):CM:=λZ H Q=>t Z H λx H'=>match x with
 |.bl k=>Q k H'
 |_=>False
theorem aU {c:yk} (f:dh X (be c) r) (l:Z7 X a ta) (i:Z7 X b tb) (j:cr c b=am:=by first | exact DK _ | rfl):D9 X (.Compare a [c] [b] ZT) (lg (sY r ta tb)):=by
 refine PT.imp (JB f l i j) ?_;rintro Z H Q ⟨o,H3,p,g,n,h,k⟩;refine jc (X:=X) ⟨o,H3,_,g,n,h,λv H' t d m e r q=>?_⟩;cases t with
 |bl b=>exact⟨b,r.bl,k b H' d m e q⟩
 |_=>exact q.elim
variable {zk:List Expr}
theorem cJ (h:Z7 X a ta) (f:∀whole,isTrue a X.env whole=(do let v <- whole;oy a.pos;eS [v] (truthy v)):=by intro _;rfl):D9 X a (lg ta):=by
 refine PT.imp (QF h f) ?_;rintro Z H Q ⟨j,H3,l,e,i,h,k⟩;refine⟨j,H3,_,e,i,h,λv H' t c g d r q=>?_⟩;cases t with
 |bl b=>exact⟨b,r.bl,k b H' c g d q⟩
 |_=>exact q.elim
def Nu (t u:CM):CM:=λZ H Q=>t Z H λc a=>if c=ag then u Z a Q else Q am a
def WF (t u:CM):CM:=λZ H Q=>t Z H λc a=>if c=ag then Q ag a else u Z a Q
def Nv (t:CM):CM:=λZ H Q=>t Z H λc a=>Q (!c) a
theorem BG.pt (h:BG X a tA):D9 X a tA:=PW.pt h
theorem dm (b:D9 X a tA):BG X (.BoolOp .And [a] ZT) tA:=Jo b
theorem lq (b:D9 X a tA):BG X (.BoolOp .Or [a] ZT) tA:=QG b
theorem dw (o:D9 X a tA) (n:BG X (.BoolOp .And (b::zk) ZT) tB'):BG X (.BoolOp .And (a::b::zk) ZT) (Nu tA tB'):=by
 refine PW.imp (QH o n) ?_;rintro Z H Q ⟨m,H3,s,l,r,h,k⟩;refine⟨m,H3,_,l,r,h,λb H' d j e q=>?_⟩;cases b with
 |true=>exact⟨m,d,_,l.mono j,e,q,λb g f i c p=>k b g f (j.trans i) c p⟩
 |false=>exact k am H' d j e q
theorem lV (o:D9 X a tA) (n:BG X (.BoolOp .Or (b::zk) ZT) tB'):BG X (.BoolOp .Or (a::b::zk) ZT) (WF tA tB'):=by
 refine PW.imp (VG o n) ?_;rintro Z H Q ⟨m,H3,s,l,r,h,k⟩;refine⟨m,H3,_,l,r,h,λb H' d j e q=>?_⟩;cases b with
 |true=>exact k ag H' d j e q
 |false=>exact⟨m,d,_,l.mono j,e,q,λb g f i c p=>k b g f (j.trans i) c p⟩
theorem gZ (f:D9 X a tA):D9 X (.UnaryOp .Not a ZT) (Nv tA):=by
 refine PT.imp (QJ f) ?_;rintro Z H Q ⟨j,H3,l,e,i,h,k⟩;exact⟨j,H3,_,e,i,h,λb H' c g d q=>k _ H' c g d q⟩
def Ek (b d:zS):zS:=λZ H Q=>b Z H λx a=>match x with
 |.bl c=>if c=ag then d Z a Q else Q (.bl am) a
 |_=>False
def Nx (b d:zS):zS:=λZ H Q=>b Z H λx a=>match x with
 |.bl c=>if c=ag then Q (.bl ag) a else d Z a Q
 |_=>False
theorem lr {b:PySem.BoolOp} (h:Z7 X a t):Z7 X (.BoolOp b [a] ZT) t:=QK h
theorem xQ (j:Z7 X a ta) (i:Z7 X (.BoolOp .And (b::zk) ZT) tb):Z7 X (.BoolOp .And (a::b::zk) ZT) (Ek ta tb):=by
 refine PE.imp (QL j i) ?_;rintro Z H Q ⟨g,H3,m,f,l,h,k⟩;refine⟨g,H3,_,f,l,h,λv H' t c e d r q=>?_⟩;cases t with
 |bl b =>
  refine⟨b,r.bl,?_⟩;cases b with
  |true=>exact⟨g,c,_,f.mono e,d,q,k.at e⟩
  |false=>exact k _ H' _ c e d .ofBl q
 |_=>exact q.elim
theorem Ny (j:Z7 X a ta) (i:Z7 X (.BoolOp .Or (b::zk) ZT) tb):Z7 X (.BoolOp .Or (a::b::zk) ZT) (Nx ta tb):=by
 refine PE.imp (VJ j i) ?_;rintro Z H Q ⟨g,H3,m,f,l,h,k⟩;refine⟨g,H3,_,f,l,h,λv H' t c e d r q=>?_⟩;cases t with
 |bl b =>
  refine⟨b,r.bl,?_⟩;cases b with
  |true=>exact k _ H' _ c e d .ofBl q
  |false=>exact⟨g,c,_,f.mono e,d,q,k.at e⟩
 |_=>exact q.elim
def aaa (t:CM) (b d:zS):zS:=λZ H Q=>t Z H λc a=>if c=ag then b Z a Q else d Z a Q
def zq:DM:=λ_ H Q=>Q [] H
def sZ (a:zS) (c:DM):DM:=λZ H Q=>a Z H λx b=>c Z b λxs d=>Q (x::xs) d
theorem aj:DZ X [] zq:=by
 refine PA.imp Rh ?_;rintro Z H Q ⟨d,H3,b,c,a,h,k⟩;exact k _ _ _ _ .refl a .nil h
theorem aa (p:Z7 X e te) (l:DZ X es t) (o:aw (e::es) X.env=(am,bo e X.env)::aw es X.env:=by rfl):DZ X (e::es) (sZ te t):=by
 refine PA.imp (JG p l o) ?_;rintro Z H Q ⟨j,H3,w,f,u,h,k⟩;exact⟨j,H3,_,f,u,h,λv H' t c i d r q=>⟨j,c,_,f.mono i,d,q,λvs n ts g b a m s=>k _ _ _ _ (i.trans b) a (.cons (r.mono b) m) s⟩⟩
def Nz (t:DM):zS:=λZ H Q=>t Z H λxs a=>xs.length<=ai/\Q (.tup xs) a
def zr (t:DM):zS:=λZ H Q=>t Z H λxs a=>xs.length<=ai/\∀p,a p=af->Q (.ref p) (eH a p (.lst xs))
theorem xr.newTup {K:a3}{H3:gV} (a:H p=af) (r:jj K H ts xs):zI K (zw H p (.tup xs)) (.tup ts) (.ref p) :=
 .ofTup (.of bR) (r.mono (aO a))
theorem xr.newLst {K:a3} (s:xr K H3 H) (c:H p=af) (r:jj K H ts xs):xr K (eH H3 p (.lst ts)) (zw H p (.lst xs)):=λa o e=>by
 by_cases b:a=p
 .subst b;rw[aC] at e;cases e;exact⟨xs,bR,r.mono (aO c)⟩
 rw[aD b] at e;exact s.new c a o e
theorem bc (h:DZ X es t):Z7 X (.Tuple es x1 ZT) (Nz t):=by
 refine PE.imp (Ri h) ?_;rintro Z H Q ⟨g,H3,i,d,f,h,k⟩;refine⟨g,H3,_,d,f,h,λvs H' ts a e c r q=>⟨by rw[<- r.length];exact q.1,λp b=>?_⟩⟩;exact k _ _ _ a (e.trans (aO b)) (c.new b) (xr.newTup (H3:=a) b r) q.2
theorem bI (h:DZ X es t):Z7 X (.List es ZT) (zr t):=by
 refine PE.imp (Rj h) ?_;rintro Z H Q ⟨g,H3,i,c,f,h,k⟩;refine⟨g,H3,_,c,f,h,λvs H' ts d e a r q=>⟨by rw[<- r.length];exact q.1,λp b=>?_⟩⟩;exact k _ _ _ _ (e.trans (aO b)) (a.newLst b r) .ofRef (q.2 p (a.fresh b))
end
section
variable {X:Cx}{st:eB}{zk:List eB}{ZT:kc}
def El:BY:=λD Z H=>D.nx Z H
def zu (t u:BY):BY:=λD Z H=>t { D with nx:=u D} Z H
theorem aW:sW X [] El:=by
 refine CD.imp Jp ?_;rintro D Z H ⟨e,H3,d,b,c,h,a,_⟩;exact a _ _ _ _ .refl b c h
theorem ak (l:D3 X st t) (n:sW X zk u):sW X (st::zk) (zu t u):=by
 refine CD.imp (Dw l n) ?_;rintro D Z H ⟨p,H3,m,k,o,h,j,g,f,i⟩;exact⟨p,H3,_,k,o,h,λr H' c b a e d q=>⟨c,b,m,e,d,q,j.at a,g.at a,f.at a,i.at a⟩,g,f,i⟩
theorem ao (a:D3 X st t):sW X [st] t:=Jq a
def Em (te:zS):BY:=λD Z H=>te Z H λ_ a=>D.nx Z a
theorem bM (i:Z7 X e te) (g:d6 e af ZT.line X.env=bE am:=by rfl):D3 X (.Expr e ZT) (Em te):=by
 refine PS.imp (Jr i g) ?_;rintro D Z H ⟨k,H3,l,b,j,h,d,_⟩;exact⟨k,H3,_,b,j,h,λv H' t f c a r q=>d _ _ _ _ c (b.mono c) a q⟩
def NB (te:zS):BY:=λD Z H=>te Z H D.rt
theorem aJ (c:Z7 X e te):D3 X (.Return (ab e) ZT) (NB te):=by
 refine PS.imp (QM c) ?_;rintro D Z H ⟨f,H3,i,a,d,h,g,b,_⟩;exact⟨f,H3,_,a,d,h,b⟩
def Rx:BY:=λD _ H=>D.rt .non H
def NK (c:CM) (t u:BY):BY:=λD Z H=>c Z H λb a=>if b=ag then t D Z a else u D Z a
theorem bD (r:D9 X c tc) (p:sW X a t) (o:sW X b u):D3 X (.If c a b ZT) (NK tc t u):=by
 refine PS.imp (VN r p o) ?_;rintro D Z H ⟨i,H3,l,g,s,h,j,m,k,n⟩;refine⟨i,H3,_,g,s,h,λb H' e d f q=>?_⟩;cases b with
 |true=>exact⟨i,e,l,g.mono d,f,q,j.at d,m.at d,k.at d,n.at d⟩
 |false=>exact⟨i,e,l,g.mono d,f,q,j.at d,m.at d,k.at d,n.at d⟩
def eX (i:Nat):ED:=λv Z H Q=>Q (Z.set i (ab v)) H
theorem aB (i:Nat) (b:X.N.Nodup) (e:X.N[i]?=ab x:=by rfl) (a:HM X.env.scope x:=by first | exact hG rfl | exact e4 rfl) (d:X.fn x=ag\/X.env.scope.names.lookup x=ab .local:=by first | exact .inl rfl | exact .inr rfl | assumption):KP X (.Name x ZT) (eX i):=by
 refine PG.imp (Js b e a d) ?_;rintro v Z H Q ⟨t,j,H3,g,r,c,f,h,k⟩;exact k _ _ _ _ .refl (c.set r) f h
def zx:oh:=λts Z H Q=>match ts with
 |[]=>Q Z H
 |_=>False
def jB (t:ED) (u:oh):oh:=λts Z H Q=>match ts with
 |x::r=>t x Z H λa H'=>u r a H' Q
 |[]=>False
theorem bh:J3 X [] zx:=by
 refine GL.imp Jt ?_;rintro vs Z H Q ⟨ts,d,H3,c,r,a,b,h,k⟩;cases ts with
 |nil=>exact⟨r.inv0,k _ _ _ _ .refl a b h⟩
 |cons _ _=>exact h.elim
theorem aF {t:ED}{u:oh} (l:KP X e t) (o:J3 X a u) (m:(dL (e::a) X.env).map (·.2)=gX e X.env::(dL a X.env).map (·.2):=by rfl):J3 X (e::a) (jB t u):=by
 refine GL.imp (Dz l o m) ?_;rintro vs Z H Q ⟨ts,y,H3,s,r,i,w,h,k⟩;cases ts with
 |nil=>exact h.elim
 |cons x ts =>
 obtain⟨v,p,rfl,j,n⟩:=r.inv;exact⟨v,p,rfl,x,y,H3,_,j,i,w,h,λz H' c b g f d q=>⟨ts,c,b,s,n.mono g,f,d,q,k.at g⟩⟩
def uX (n:Nat) (g:oh):ED:=λt Z H Q=>match t with
 |.tup ts=>ts.length=n/\g ts Z H Q
 |_=>False
theorem bH {k:Nat}{t:oh} (g:X.calm=ag) (h:J3 X b t) (f:(dL b X.env).length=n:=by rfl) (c:(dL b X.env).findIdx? (·.1)=af:=by rfl):KP X (.Tuple b k ZT) (uX n t):=by
 refine PG.imp (QQ g h f c) ?_;rintro v Z H Q ⟨t,l,H3,i,r,e,j,h,k⟩;cases t with
 |tup ts=>obtain⟨a,xs,rfl,s,d⟩:=r.tup;exact⟨a,xs,rfl,s,by rw[<- d.length];exact h.1,ts,l,H3,i,d,e,j,h.2,k⟩
 |_=>exact h.elim
def uY (te:zS) (g:ED):BY:=λD Z H=>te Z H λx a=>g x Z a D.nx
theorem ou (o:Z7 X e te) (n:KP X a g) (m:wT [a] e ZT.line X.env=bE am:=by rfl) (k:w_ [a] e X.env=bE af:=by rfl) (l:(dL [a] X.env).map (·.2)=[gX a X.env]:=by rfl):D3 X (.Assign [a] e ZT) (uY te g):=by
 refine PS.imp (QS o n m k l) ?_;rintro D Z H ⟨i,H3,s,d,p,h,j,_⟩;exact⟨i,H3,_,d,p,h,λv H' t b f c r q=>⟨t,i,b,_,r,d.mono f,c,q,j.at f⟩⟩
theorem aG (i:Nat) {a:kc} (g:X.N.Nodup) (o:Z7 X e te) (m:X.N[i]?=ab x:=by rfl) (f:HM X.env.scope x:=by first | exact hG rfl | exact e4 rfl) (n:d6 e (ab (.Name x a)) ZT.line X.env=bE am:=by rfl) (k:X.fn x=ag\/X.env.scope.names.lookup x=ab .local:=by first | exact .inl rfl | exact .inr rfl | assumption):
  D3 X (.Assign [.Name x a] e ZT) (uY te (eX i)):=by
 refine PS.imp (QT g m f o n k) ?_;rintro D Z H ⟨s,H3,u,c,p,h,j,_⟩;exact⟨s,H3,_,c,p,h,λv H' t l d b r q=>j _ _ _ _ d ((c.mono d).set r) b q⟩
end
abbrev uZ:=T->T->T->gV->(gV->Prop)->Prop
def Ry (K:a3) (f:uZ):Dy:=λo i v H Q=>∃d b c H3 e,zI K H d o/\zI K H b i/\zI K H c v/\xr K H3 H/\f d b c H3 e/\∀H' a,R7 K H H'->xr K a H'->e a->Q H'
def NP (X:Cx) (t:uZ):Prop:=LM X (Ry X.K t)
theorem LM.imp (h:LM X t) (w:∀o i v H Q,t' o i v H Q->t o i v H Q):LM X t':=λa s Z H o i v e b u Q I d f c q=>h a s Z H o i v e b u Q I d f c (w o i v H Q q)
def NQ (b c:zS) (t:uZ):ED:=λv Z H Q=>b Z H λo d=>c Z d λi a=>t o i v a λH3=>Q Z H3
theorem En (x:Z7 X o d) (u:Z7 X i c) (z:NP X t) (A:∀v,gX (.Subscript o i ZT) X.env v=(do
   let ov <- eS [v] (bo o X.env)
   let iv <- eS [v,ov] (bo i X.env)
   oy ZT
   eS [v,ov,iv] (xC ov iv v)
   release [v,ov,iv] []):=by intro _;rfl):KP X (.Subscript o i ZT) (NQ d c t):=by
 refine PG.imp (QR x u z A) ?_;rintro v Z H Q ⟨t,p,H3,F,r,e,w,h,k⟩;exact⟨p,H3,_,e,w,h,λo E d g a j D s=>⟨p,g,_,e.mono a,j,s,λi G c l b f C B=>⟨d,c,t,l,_,D.mono b,C,r.mono (a.trans b),f,B,λH' y n m q=>k _ _ _ _ (a.trans (b.trans n)) (e.mono (a.trans (b.trans n))) m q⟩⟩⟩
abbrev EJ:=AJ->gV->(List T->(gV->Prop)->gV->Prop)->Prop
def jt (K:a3) (J:It) (ts:List T) (still:gV->Prop) (H:Hp):Prop:=∀H' b,R7 K H H'->xr K b H'->still b ->
 (∀i,ts.length<=i->J.stop i H')/\∀i t,ts[i]?=ab t->J.go i H'/\∀x a,J.yld i H' x a->R7 K H' a/\xr K b a/\zI K a t x
def ZN (K:a3) (c:EJ):TI:=λZ H R=>∃b H3 R3,BM K H b Z/\xr K H3 H/\c b H3 R3/\∀J ts still H' a,R7 K H H'->xr K a H'->jt K J ts still H'->R3 ts still a->R J H'
def Fu (X:Cx) (b a:Expr) (t:EJ):Prop:=PI X b a (ZN X.K t)
theorem PI.imp (h:PI X b e t) (w:∀Z H R,t' Z H R->t Z H R):PI X b e t':=λa s Z H R I q=>h a s Z H R I (w Z H R q)
def cC:gV->Prop:=λ_=>True
def bZ (a:ah) (ts:List T):gV->Prop:=λH=>H a=ab (.lst ts)\/H a=ab (.rol ts)
theorem xr.sqL {K:a3} (s:xr K H3 H) (h:bZ a ts H3):∃xs,A8 K H a xs/\jj K H ts xs:=by
 rcases h with h | h
 .obtain⟨xs,e,r⟩:=s a _ h;exact⟨xs,.of e,r⟩
 obtain⟨xs,e,r⟩:=s a _ h;exact⟨xs,.inl e,r⟩
section
variable {tg l:Expr}{ZT p:kc}
def Eo (c:zS):EJ:=λZ H R=>c Z H λx b=>match x with
 |.ref a=>match b a with
  |some (.lst ts)=>R ts (bZ a ts) b
  |some (.rol ts)=>R ts (bZ a ts) b
  |_=>False
 |_=>False
theorem qY {K:a3}:jt K (Ta K a) ts (bZ a ts) H:=λH' j n f st=>by
 obtain⟨xs,b,c⟩:=f.sqL st;have l:=c.length;refine⟨λi m=>⟨xs,b,yT⟩,λi t e=>?_⟩;obtain⟨v,d,h⟩:=c.get e;refine⟨⟨xs,v,b,d⟩,λx k y=>?_⟩;obtain⟨g,y⟩:=y;subst g;have:=y xs b;rw[d] at this;cases this;exact⟨.refl,f,h⟩
theorem bJ (j:Z7 X l tl):Fu X tg l (Eo tl):=by
 refine PI.imp (Ju j) ?_;rintro Z H R ⟨o,H3,R3,i,n,h,k⟩;refine⟨o,H3,_,i,n,h,λv H' t b g c r q=>?_⟩;cases t with
 |ref a =>
  have d:(match b a with
   |some (.lst ts)=>R3 ts (bZ a ts) b
   |some (.rol ts)=>R3 ts (bZ a ts) b
   |_=>False):=q
  split at d
  ·
   rename_i ts e
   obtain⟨xs,f,m⟩:=c.sqL (.inl e)
   exact⟨a,r.ref,⟨xs,f⟩,k _ ts (bZ a ts) H' b g c qY d⟩
  ·
   rename_i ts e
   obtain⟨xs,f,m⟩:=c.sqL (.inr e)
   exact⟨a,r.ref,⟨xs,f⟩,k _ ts (bZ a ts) H' b g c qY d⟩
  ·
   exact d.elim
 |_=>exact q.elim
def NT (b:zS):EJ:=λZ H R=>b Z H λx a=>match x with
 |.tup ts=>R ts cC a
 |_=>False
theorem Ep {K:a3} (c:A0 K H a xs) (d:jj K H ts xs):jt K (SA K a) ts cC H:=λH' j b l st=>by
 have m:=d.length;refine⟨λi n=>⟨xs,b _ _ c,yT⟩,λi t e=>?_⟩;obtain⟨v,f,h⟩:=d.get e;refine⟨⟨xs,v,b _ _ c,f⟩,λx k y=>?_⟩;obtain⟨g,y⟩:=y;subst g;have:=y xs (b _ _ c);rw[f] at this;cases this;exact⟨.refl,l,h.mono b⟩
theorem bN (g:Z7 X l tl):Fu X tg l (NT tl):=by
 refine PI.imp (QW g) ?_;rintro Z H R ⟨n,H3,R3,f,m,h,k⟩;refine⟨n,H3,_,f,m,h,λv H' t b j c r q=>?_⟩;cases t with
 |tup ts=>obtain⟨a,xs,e,d,i⟩:=r.tup;exact⟨a,e,⟨xs,d⟩,k _ ts cC H' b j c (Ep d i) q⟩
 |_=>exact q.elim
def dM (a:Int) (n:Nat):List T:=(ae n).map λ(i:Nat)=>T.int (a+i)
theorem u5 {K:a3}:jt K (OT b n) (dM b n) cC H:=λH' c j h st=>by
 refine⟨λi a=>by unfold dM at a;simp at a;exact a,λi t e=>?_⟩;unfold dM at e;rw[u_] at e;by_cases a:i<n
 .rw[CI a] at e;cases e;refine⟨a,λx f y=>?_⟩;obtain⟨d,g⟩:=y;subst d;subst g;exact⟨.refl,h,.ofInt⟩
 rw[G_ (by simpa using a)] at e;cases e
def Er (b:DM):EJ:=λZ H R=>b Z H λvs a=>match vs with
 |[.int j]=>-(2^62)<=j/\j<2^62/\R (dM 0 j.toNat) cC a
 |[.int i,.int j]=>(-(2^62)<=i/\i<2^62 /\ -(2^62)<=j/\j<2^62)/\R (dM i (j - i).toNat) cC a
 |_=>False
theorem aX (s:Gl X "range") (l:X.mg "range"=af) (o:DZ X [a] e) (m:aw [a] X.env=[(am,bo a X.env)]:=by rfl):Fu X tg (.Call (.Name "range" p) [a] [] ZT) (Er (λZ H Q=>e Z H λvs g=>vs.length=1/\Q vs g)):=by
 refine PI.imp (Bq s l o m) ?_;rintro Z H R ⟨x,H3,R3,f,w,h,k⟩;refine⟨x,H3,_,f,w,h,λvs H' ts b u c r q=>?_⟩;obtain⟨d,q⟩:=q;cases ts with
 |nil=>cases d
 |cons t ts =>
 cases ts with
 |cons _ _=>simp at d
 |nil =>
 cases t with
 |int j=>obtain⟨v,_,rfl,i,n⟩:=r.inv;rw[n.inv0,i.int];exact⟨j,rfl,q.1,q.2.1,k _ _ _ H' b u c u5 q.2.2⟩
 |_=>exact q.elim
theorem BX (u:Gl X "range") (s:X.mg "range"=af) (B:DZ X [a,b] g) (A:aw [a,b] X.env=[(am,bo a X.env),(am,bo b X.env)]:=by rfl) (e:aw [b] X.env=[(am,bo b X.env)]:=by rfl):
  Fu X tg (.Call (.Name "range" p) [a,b] [] ZT) (Er (λZ H Q=>g Z H λvs m=>vs.length=2/\Q vs m)):=by
 refine PI.imp (Br u s B A e) ?_;rintro Z H R ⟨o,H3,R3,l,x,h,k⟩;refine⟨o,H3,_,l,x,h,λvs H' ts d n f r q=>?_⟩;obtain⟨z,q⟩:=q
 match ts,z,r with
 |[t1,t2],_,r =>
 obtain⟨v,_,rfl,y,t⟩:=r.inv;obtain⟨C,_,rfl,c,w⟩:=t.inv;cases t1 with
 |int i =>
  cases t2 with
  |int j=>rw[w.inv0,y.int,c.int];exact⟨i,j,rfl,q.1,k _ _ _ H' d n f u5 q.2⟩
  |_=>exact q.elim
 |_=>cases t2 <;> exact q.elim
end
def DU (g:ED) (a:BY) (D:Rs) (still:gV->Prop):List T->AJ->gV->Prop
 |[],Z,H=>still H/\D.nx Z H
 |t::r,Z,H=>still H/\g t Z H λc b=>a { D with nx:=DU g a D still r,ct:=DU g a D still r,bk:=D.nx} c b
theorem DU.st (h:DU g a D still ts Z H):still H:=by
 cases ts with
 |nil=>exact h.1
 |cons t r=>exact h.1
def NZ (c:EJ) (g:ED) (a:BY):BY:=λD Z H=>c Z H λts still b=>DU g a D still ts Z b
theorem aV (hp:rS (aI X.prog X.w) X.A X.env X.xe) (hc:X.calm=ag) (W:Fu X tg iter Y) (hg:KP X tg g) (hb:sW X k p) (hs:∀x,dr iter X.env x=bE x:=by intro _;rfl):D3 X (.For tg iter k [] ZT) (NZ Y g p):=by
 refine PS.imp (QX hp hc W hg hb hs) ?_;rintro D Z H ⟨f,H3,E,T,sh,h,U,k2,k3,k4⟩;refine⟨f,H3,_,T,sh,h,λJ ts still r O C Q wk q=>?_⟩;refine⟨λi m Z H=>∃f H3,R7 X.K r H/\BM X.K H f Z/\xr X.K H3 H/\m=ts.length - i/\i<=ts.length/\DU g p E still (ts.drop i) f H3,⟨ts.length,f,O,.refl,T.mono C,Q,rfl,B6 _,by simpa using q⟩,?_⟩;rintro i m Z H ⟨Z4,H4,n,v,t,rfl,W,it⟩;have w:=wk H H4 n t it.st;by_cases o:i<ts.length
 .have e:=g_ o;have ed:ts.drop i=ts[i]::ts.drop (i+1):=PR o;rw[ed] at it;obtain⟨st,it⟩:=it;obtain⟨go,yl⟩:=w.2 i _ e;refine .inr ⟨go,λz H'=>∃f H3,R7 X.K r H'/\BM X.K H' f z/\xr X.K H3 H'/\DU g p E still (ts.drop (i+1)) f H3,λz H' ⟨s5,h5,a,b,c,d⟩=>⟨ts.length - (i+1),yT,s5,h5,a,b,c,rfl,o,d⟩,λx H' y=>?_⟩;obtain⟨u,S,rx⟩:=yl x H' y;refine⟨ts[i],Z4,H4,_,rx,v.mono u,S,it,λZ2 P G R I F M q2=>?_⟩;have j:R7 X.K r P:=n.trans (u.trans I);have V:∀(B:R7 X.K r P),He X.K P (DU g p E still (ts.drop (i+1))) (λz H'=>∃f H3,R7 X.K r H'/\BM X.K H' f z/\xr X.K H3 H'/\DU g p E still (ts.drop (i+1)) f H3) :=
   λB z H' L N l s h q=>⟨L,N,B.trans l,s,h,q⟩
  exact⟨G,R,_,F,M,q2,V j,k2.at (C.trans j),U.at (C.trans j),V j⟩
 have e:i=ts.length:=yT
 subst e;rw[r_] at it;exact .inl ⟨w.1 _ (l_ _),U _ _ _ _ (C.trans n) v t it.2⟩
def tu (c:CM) (f:BY):BY:=λD Z H=>∃W:Nat->AJ->gV->Prop,(∃m,W m Z H)/\∀m Z H,W m Z H ->
 c Z H λb e=>if b=ag then f { D with nx:=λd H'=>∃a,a<m/\W a d H',ct:=λd H'=>∃a,a<m/\W a d H',bk:=D.nx} Z e else D.nx Z e
theorem jN (C:rS (aI X.prog X.w) X.A X.env X.xe) (G:D9 X c x) (I:sW X e z):D3 X (.While c e [] ZT) (tu x z):=by
 refine PS.imp (DG C G I) ?_;rintro D Z H ⟨g,H3,T,B,M,⟨W,⟨J,O⟩,n⟩,u,F,S,R⟩;refine⟨λm i H'=>∃g H3,R7 X.K H H'/\BM X.K H' g i/\xr X.K H3 H'/\W m g H3,⟨J,g,H3,.refl,B,M,O⟩,?_⟩;rintro m U Q ⟨p,y,d,f,o,L⟩;refine⟨p,y,_,f,o,n m p y L,λb P N a k q=>?_⟩;cases b with
 |true =>
  rw[zi rfl] at q |-;have v:He X.K P (λi H'=>∃j,j<m/\W j i H') (λi H'=>∃j,j<m/\∃g H3,R7 X.K H H'/\BM X.K H' g i/\xr X.K H3 H'/\W j g H3) :=
   λi H' r t l s h ⟨j,E,w⟩=>⟨j,E,r,t,d.trans (a.trans l),s,h,w⟩
  exact⟨_,λi H' h=>h,p,N,_,f.mono a,k,q,v,F.at (d.trans a),u.at (d.trans a),v⟩
 |false =>
 rw[y9 B_] at q |-;exact u _ _ _ _ (d.trans a) (f.mono a) k q
def J4 (X:Cx) (a:List Expr) (t:CM):Prop:=MM X a (BW X.K t)
def zy:CM:=λ_ H Q=>Q ag H
theorem bG:J4 X [] zy:=λa s Z H Q I ⟨e,H3,d,c,b,h,k⟩=>JW a s Z H Q I (k _ _ _ .refl b h)
theorem dR (h:D9 X c t):J4 X [c] t:=JX h
def u6 (nt:Nat) (cap:List Nat) (Z:AJ):AJ:=a4 nt af++cap.map λj=>(Z[j]?).getD af
theorem zz {K:a3} (s:BM K H a Z):BM K H (u6 nt cap a) (qi nt cap Z):=by
 refine⟨by simp [u6,qi],λi t e=>?_⟩;unfold u6 at e;unfold qi;by_cases c:i<nt
 .rw[FV (by simpa using c),OX] at e;split at e <;> cases e
 rw[M_ (by simpa using c),u_] at e;rw[M_ (by simpa using c),u_];simp only[Pe] at e |-;cases q:cap[i - nt]? with
 |none=>rw[q] at e;cases e
 |some j =>
 rw[q] at e;have b:(a[j]?).getD af=ab t:=T_ e;have d:a[j]?=ab (ab t):=by
  cases z:a[j]? with
  |none=>rw[z] at b;cases b
  |some y=>rw[z] at b;exact Q_ ab b
 obtain⟨v,f,r⟩:=s.at' j t d;exact⟨v,by simp [f],r⟩
def C4 (g:ED) (tt:CM) (te:zS) (still:gV->Prop) (a:List T->gV->Prop):List T->List T->AJ->gV->Prop
 |[],ys,Z,H=>still H/\ys.length<=ai/\a ys H
 |t::r,ys,Z,H=>still H/\g t Z H λc d=>tt c d λb H3=>if b=ag then te c H3 λy e=>ys.length<ai/\C4 g tt te still a r (ys++[y]) c e else C4 g tt te still a r ys c H3
theorem C4.st (h:C4 g tt te still a ts b Z H):still H:=by
 cases ts with
 |nil=>exact h.1
 |cons t r=>exact h.1
theorem Es {K:a3} (wk:jt K J ts still q) (Q:BM K q r Z) (sh:xr K o q) (h:C4 g tt te still a ts [] r o) (U:∀n us H' H3',R7 K q H'->xr K H3' H'->jj K H' n us->a n H3'->A us H'):zm J (J2 K g) (BW K tt) (LB K te) A Z q:=by
 refine⟨λi m us Z H=>∃r H3 n,R7 K q H/\BM K H r Z/\xr K H3 H/\jj K H n us/\m=ts.length - i/\i<=ts.length/\C4 g tt te still a (ts.drop i) n r H3,⟨ts.length,r,o,[],.refl,Q,sh,.nil,rfl,B6 _,by simpa using h⟩,?_⟩;rintro i m us Z H ⟨Y,P,n,d,E,s,B,rfl,hi,it⟩;have w:=wk H P d s it.st;by_cases j:i<ts.length
 .have e:=g_ j;have R:ts.drop i=ts[i]::ts.drop (i+1):=PR j;rw[R] at it;obtain⟨st,it⟩:=it;obtain⟨X,yl⟩:=w.2 i _ e;refine .inr ⟨X,λx H' y=>?_⟩;obtain⟨u,N,S⟩:=yl x H' y;refine⟨ts[i],Y,P,_,S,E.mono u,N,it,λZ2 H2 f M G c I q2=>?_⟩;refine⟨f,M,_,c,I,q2,λb H3 C k z D=>?_⟩;have l:R7 K H H3:=u.trans (G.trans k);cases b with
  |true=>rw[zi rfl] at D;refine ZX ?_;refine⟨f,C,_,c.mono k,z,D,λv H5 t F p L W O=>⟨by rw[<- B.length];exact O.1,ts.length - (i+1),yT,f,F,n++[t],d.trans (l.trans p),c.mono (k.trans p),L,(B.mono (l.trans p)).append (.cons W .nil),rfl,j,O.2⟩⟩
  |false =>
  rw[y9 B_] at D;refine ZW ?_;exact⟨ts.length - (i+1),yT,f,C,n,d.trans l,c.mono k,z,B.mono l,rfl,j,D⟩
 have e:i=ts.length:=yT
 subst e;rw[r_] at it;exact .inl ⟨w.1 _ (l_ _),by rw[<- B.length];exact it.2.1,U _ _ _ _ d s B it.2.2⟩
def Et (c:EJ) (g:ED) (tt:CM) (te:zS) (nt:Nat) (cap:List Nat):zS:=λZ H Q=>c Z H λts still b=>C4 g tt te still (λa H'=>∀p,H' p=af->Q (.ref p) (eH H' p (.lst a))) ts [] (u6 nt cap Z) b
def qZ (c:EJ) (g:ED) (tt:CM) (te:zS) (nt:Nat) (cap:List Nat) (i:Nat):BY:=λD Z H=>c Z H λts still b=>C4 g tt te still (λa H'=>∀p,H' p=af->D.nx (Z.set i (ab (.ref p))) (eH H' p (.lst a))) ts [] (u6 nt cap Z) b
section
variable {ZT b' spos:kc}
theorem bx (l:X.calm=ag) (S:IE X N' nt cap scope) (j:Fu X tg iter wi)
  (n:∀cl ZO s H C fp,KP (bY X N' scope cl ZO s H C fp) tg g/\J4 (bY X N' scope cl ZO s H C fp) ifs tt/\Z7 (bY X N' scope cl ZO s H C fp) elt te)
  (v:∀x,dr iter X.env x=bE x:=by intro _;rfl):Z7 X (.ListComp elt [⟨tg,iter,ifs,0⟩] scope ZT) (Et wi g tt te nt cap):=by
 refine PE.imp (J0 (g:=J2 X.K g) (tt:=BW X.K tt) (te:=LB X.K te) l S j n v) ?_;rintro Z H Q ⟨i,H3,z,e,o,h,k⟩;refine⟨i,H3,_,e,o,h,λJ ts still y t f d w q=>?_⟩;exact Es w (zz (e.mono f)) d q λA us H' r b a u m p c=>k _ _ _ _ (f.trans (b.trans (aO c))) (a.newLst c u) .ofRef (m p (a.fresh c))
theorem ie (t:X.calm=ag) (n:X.N.Nodup) (S:IE X N' nt cap scope) (r:Fu X tg iter wi) (w:∀cl ZO s H C fp,KP (bY X N' scope cl ZO s H C fp) tg g/\J4 (bY X N' scope cl ZO s H C fp) ifs tt/\Z7 (bY X N' scope cl ZO s H C fp) elt te) (j:X.N[i]?=ab x:=by rfl) (y:HM X.env.scope x:=by first | exact hG rfl | exact e4 rfl) (d:d6 (.ListComp elt [⟨tg,iter,ifs,0⟩] scope ZT) (ab (.Name x b')) spos.line X.env=bE ag:=by rfl) (E:∀x,dr iter X.env x=bE x:=by intro _;rfl) (o:X.fn x=ag\/X.env.scope.names.lookup x=ab .local:=by first | exact .inl rfl | exact .inr rfl | assumption):
  D3 X (.Assign [.Name x b'] (.ListComp elt [⟨tg,iter,ifs,0⟩] scope ZT) spos) (qZ wi g tt te nt cap i):=by
 refine PS.imp (J1 (g:=J2 X.K g) (tt:=BW X.K tt) (te:=LB X.K te) t n j y S r w d E o) ?_;rintro D Z H ⟨l,H3,L,e,v,h,m,_⟩;refine⟨l,H3,_,e,v,h,λJ ts still G A f k F q=>?_⟩;exact Es F (zz (e.mono f)) k q λI us H' z a b B u p c =>
  m _ _ _ _ (f.trans (a.trans (aO c))) ((e.mono (f.trans (a.trans (aO c)))).set .ofRef) (b.newLst c B) (u p (b.fresh c))
end
abbrev Au:=List T->gV->Z1->Prop
def u9 (K:a3) (sp:Au):Sp:=λvs H Q _=>∃ts H3 a,jj K H ts vs/\xr K H3 H/\sp ts H3 a/\HC K H a Q
def gb (H H':gV):Prop:=∀a o,H a=ab o->H' a=ab o
theorem gb.refl:gb H H:=λ_ _ h=>h
theorem gb.trans (a:gb H e) (b:gb e d):gb H d:=λc o h=>b c o (a c o h)
theorem gb.new (h:H p=af):gb H (eH H p o):=λa u e=>by rw[aD (aR e h)];exact e
theorem xr.sub {K:a3} (s:xr K b H) (h:gb H3 b):xr K H3 H:=λa o e=>s a o (h a o e)
def My (Q:Z1):Z1:=λv H=>∃H',gb H' H/\Q v H'
theorem My.of (h:gb H' H) (q:Q v H'):My Q v H:=⟨H',h,q⟩
def aM (N:List ap) (ts:List T):AJ:=ts.map ab++a4 (N.length - ts.length) af
theorem BZ {K:a3} (r:jj K H ts vs):BM K H (aM N ts) (L2.start N vs):=by
 refine⟨by simp [aM,L2.start,r.length],λi t e=>?_⟩;unfold aM at e;unfold L2.start;have d:=r.length;by_cases a:i<ts.length
 .rw[FV (by simpa using a),u_] at e;rw[FV (by rw[d_];omega),u_];cases q:ts[i]? with
  |none=>rw[q] at e;cases e
  |some u =>
  rw[q] at e;cases e;obtain⟨v,b,c⟩:=r.get q;exact⟨v,by rw[b];rfl,c⟩
 rw[M_ (by simpa using a),OX] at e;split at e <;> cases e
section
variable {p ZT:kc}
def lW (P:bX) (w:bP) (K:a3) (a:ap->Option av) (base:cK) (k:Nat) (f:ah) (c:de) (b:List ap) (sp:Au):Prop:=EE P w K a base Lo k f c b (u9 K sp)
def tD (sp:Au) (t:DM):zS:=λZ H Q=>t Z H λvs a=>sp vs a Q
theorem J5 (F:lW X.prog X.w X.K X.mg X.base k f fd ps sp) (j:Pr k X.A) (o:Gl X x) (l:X.mg x=ab (.ref f)) (z:kx X.K (.ref f)=ag) (i:AS X.K fd ps [])
  (n:DZ X (e::es) t) (d:(x==("__debug__":ap))=am:=by decide) (s:aw (e::es) X.env=(am,bo e X.env)::aw es X.env:=by rfl) (b:(bb ZT (aw es X.env)).any (·.1)=am:=by rfl) :
  Z7 X (.Call (.Name x p) (e::es) [] ZT) (tD sp t):=by
 refine PE.imp (JH (dvs:=[]) (E:=E0) F j o l z i .nil Eg n d s b) ?_;rintro Z H Q ⟨m,H3,u,g,y,h,k⟩;refine⟨m,H3,_,g,y,h,λvs H' ts a v c r q=>?_⟩;show u9 X.K sp (vs++[]) H' Q E0;rw[X_];exact⟨ts,a,u,r,c,q,k.at v⟩
theorem LN {K:a3}{st:eB} (F:GT K x b st f fd) (S:fY N ps (aA st)) (i:∀ts H Q,sp ts H Q->ts.length=ps.length) (d:∀(c:av) (A:eD) (a:List x8) (s:aE) (H:Hp) (E:XK) (ts:List T) (H3:gV) (Q:Z1),Pr k (A.deeper (i7 b (aA st) s.heap.objs.size f c))->sp ts H3 Q ->
   ∃t,sW (xH Lo P w K n base N b (aA st) f c A a s H E).nox (cH st) t/\t { nx:=λ_ H'=>My Q .non H',rt:=My Q} (aM N ts) H3):lW P w K n base (k+1) f fd ps sp:=by
 refine F.ok S (λvs H Q E ⟨ts,H3,l,r,m,q,k⟩=>by rw[<- r.length];exact i _ _ _ q) λc A a s H vs Q E y ⟨ts,H3,l,r,m,q,k⟩=>?_;obtain⟨t,u,p⟩:=d c A a s H E ts H3 l y q;exact⟨_,u,aM N ts,H3,_,BZ r,m,p,λG H' B j g o e ⟨D,h,q⟩=>k _ _ _ _ g (e.sub h) .ofNon q,λv H' t j g e C ⟨D,h,q⟩=>k _ _ _ _ g (e.sub h) C q,λ_ _ _ _ _ _ _ z=>z,λ_ _ _ _ _ _ _ z=>z⟩
end
noncomputable instance:DecidableEq T:=λa b=>ay (a=b)
def pl:Nat->T->Bool
 |_,.non=>ag
 |_,.int _=>ag
 |_,.str _=>ag
 |d+1,.tup ts=>ts.all (pl d)
 |_,_=>am
section
variable {X:Cx}{ZO:List (ah × dP)}{Z:L2.St}{H:Hp}{s:aE}
theorem zA (I:y4 X ZO Z H s):∀(d:Nat) (x y:T) (v:V),pl d x=ag->pl d y=ag->zI X.K H x v->zI X.K H y v->x=y:=by
 intro d;induction d with
 |zero =>
  intro x y v i g f c;cases x <;> cases y <;> first
   |rfl
   | (simp only[zI] at f c;subst f;cases c <;> rfl)
   | (simp [pl] at i;done)
   | (simp [pl] at g;done)
 |succ d q =>
 intro x y v i g f c;cases x with
 |tup ts =>
  cases y with
  |tup us =>
   obtain⟨a,xs,rfl,w,r⟩:=f.tup;obtain⟨b,A,e,l,m⟩:=c.tup;cases e;have:=I.tuple_inj w l;subst this;simp only[pl,W_] at i g;congr 1;have key:∀(ts us:List T) (xs:List V),(∀t∈ts,pl d t=ag)->(∀t∈us,pl d t=ag)->jj X.K H ts xs->jj X.K H us xs->ts=us:=by
    intro ts;induction ts with
    |nil =>
     intro us xs _ _ h h';rw[h.inv0] at h';cases us with
     |nil=>rfl
     |cons u us=>obtain⟨_,_,e,_⟩:=h'.inv;cases e
    |cons t ts k =>
    intro us xs n o h h';obtain⟨v,r,rfl,a,b⟩:=h.inv;cases us with
    |nil=>exact As h'.inv0 ze
    |cons u us =>
    obtain⟨B,m,e,z,p⟩:=h'.inv;cases e;rw[q t u v (n t n_) (o u n_) a z,k us r (λt j=>n t (A_ _ j)) (λt j=>o t (A_ _ j)) b p]
   exact key ts us xs i g r m
  |_=>first | (simp only[zI] at f c;obtain⟨a,xs,e,_⟩:=f;subst e;cases c;done) | (simp [pl] at g;done)
 |_=>cases y <;> first
  |rfl
  | (simp only[zI] at f c;subst f;cases c <;> rfl)
  | (simp [pl] at i;done)
  | (simp [pl] at g;done)
  | (simp only[zI] at f c;obtain⟨a,xs,e,_⟩:=c;subst e;cases f;done)
theorem BF (A:eD):A.in1.units=A.units+1:=by rfl
theorem oA {a:Type} [DecidableEq (Option a)] (ts us:List a):((ae (min ts.length us.length)).all (λj=>decide (ts[j]?=us[j]?))&&ts.length==us.length)=ag↔ts=us:=by
 rw[CL,W_,Gc];constructor
 .rintro⟨h,b⟩;refine GW λi=>?_;by_cases c:i<ts.length
  .exact DB (h i (K_.mpr yT))
  rw[G_ yT,G_ yT]
 rintro rfl;exact⟨λi _=>by simp,rfl⟩
theorem J6 {us:List av} (h:i<us.toArray.size) (e:us[i]?=ab v):us.toArray[i]=v:=by
 have:us.toArray[i]?=ab v:=by simpa using e
 rw[O_ h] at this;exact T_ this
theorem zB (I:y4 X ZO Z H s):∀(d:Nat) (A:eD) (x y:T) (m l:V) (u v:av),pl d x=ag->pl d y=ag->zI X.K H x m->zI X.K H y l->zh m u->zh l v->A.units+d<db->kC A s u v (decide (x=y)):=by
 have nQ:∀(A:eD) (x y:T) (m l:V) (u v:av),pl 0 x=ag->pl 0 y=ag->zI X.K H x m->zI X.K H y l->zh m u->zh l v->kC A s u v (decide (x=y)):=by
  intro A x y m l u v z q g f k c;cases x with
  |non =>
   cases g.non;cases k;cases y with
   |non=>cases f.non;cases c;simp only[EU];exact SeqAt.EqAt.same _
   |int j=>cases f.int;obtain⟨t',rfl⟩:=c;rw[I_ ze];exact SeqAt.EqAt.none_int _ _
   |str j=>cases f.str;obtain⟨t',rfl⟩:=c;rw[I_ ze];exact SeqAt.EqAt.none_str _ _
   |_=>simp [pl] at q
  |int i =>
   cases g.int;obtain⟨t,rfl⟩:=k;cases y with
   |non=>cases f.non;cases c;rw[I_ ze];exact SeqAt.EqAt.int_none _ _
   |int j=>cases f.int;obtain⟨t',rfl⟩:=c;rw[show decide (T.int i=T.int j)=(i==j) by by_cases h:i=j <;> simp [h]];exact SeqAt.EqAt.int_int _ _ _ _
   |str j=>cases f.str;obtain⟨t',rfl⟩:=c;rw[I_ ze];exact SeqAt.EqAt.int_str _ _ _ _
   |_=>simp [pl] at q
  |str i =>
   cases g.str;obtain⟨t,rfl⟩:=k;cases y with
   |non=>cases f.non;cases c;rw[I_ ze];exact SeqAt.EqAt.str_none _ _
   |int j=>cases f.int;obtain⟨t',rfl⟩:=c;rw[I_ ze];exact SeqAt.EqAt.str_int _ _ _ _
   |str j=>cases f.str;obtain⟨t',rfl⟩:=c;rw[show decide (T.str i=T.str j)=(i==j) by by_cases h:i=j <;> simp [h]];exact SeqAt.EqAt.str_str _ _ _ _
   |_=>simp [pl] at q
  |_=>simp [pl] at z
 intro d;induction d with
 |zero=>intro A x y m l u v z q g f k c _;exact nQ A x y m l u v z q g f k c
 |succ d ih =>
 intro A x y m l u v z q g f k c hu;have o:A.units<db:=yT
 cases x with
 |tup ts =>
  obtain⟨a,xs,rfl,M,r⟩:=g.tup;cases k;obtain⟨B,D,F,_⟩:=I.tuple M;cases y with
  |tup us =>
   obtain⟨b,L,rfl,n,C⟩:=f.tup;cases c;obtain⟨its',w,p,_⟩:=I.tuple n;by_cases E:a=b
   .subst E;have e:T.tup ts=T.tup us:=zA I (d+1) _ _ (.ref a) z q (.ofTup M r) (.ofTup n C);rw[e,N_ rfl];exact SeqAt.EqAt.same _
   have l1:=r.length;have l2:=C.length;have l3:=D.length;have P:=w.length;have key:=SeqAt.RcAt.tuples (A:=A) (s:=s) (e:=λj=>decide (ts[j]?=us[j]?)) (show s.heap.IsTuple a B.toArray from F) (show s.heap.IsTuple b its'.toArray from p) o (λj h1 U=>by
    rw[p_] at h1 U
    have J:j<ts.length:=yT
    have G:j<us.length:=yT
    obtain⟨O,Q,W⟩:=r.get (g_ J)
    obtain⟨Y,N,q2⟩:=C.get (g_ G)
    obtain⟨z1,R,S⟩:=D.get Q
    obtain⟨z2,f2,w2⟩:=w.get N
    rw[J6 _ R,J6 _ f2,g_ J,g_ G]
    simp only[pl,W_] at z q
    have:=ih A.in1 ts[j] us[j] O Y z1 z2 (z _ (C6 J)) (q _ (C6 G)) W q2 S w2 (by rw[BF];omega)
    rw[show decide (ab ts[j]=ab us[j])=decide (ts[j]=us[j]) by by_cases h:ts[j]=us[j] <;> simp [h]]
    exact this)
   have eb:((ae (min B.toArray.size its'.toArray.size)).all (λj=>decide (ts[j]?=us[j]?))&&B.toArray.size==its'.toArray.size)=decide (T.tup ts=T.tup us):=by
    rw[p_,p_,<- l3,<- l1,<- P,<- l2,CA,oA,q_];constructor
    .rintro rfl;rfl
    intro h;injection h
   rw[eb] at key;exact .of_refs E key
  |non=>cases f.non;cases c;rw[I_ ze];exact SeqAt.EqAt.tuple_none F o
  |int j=>cases f.int;obtain⟨t',rfl⟩:=c;rw[I_ ze];exact SeqAt.EqAt.tuple_int _ _ F o
  |str j=>cases f.str;obtain⟨t',rfl⟩:=c;rw[I_ ze];exact SeqAt.EqAt.tuple_str _ _ F o
  |_=>simp [pl] at q
 |non =>
  cases y with
  |tup us=>obtain⟨b,L,rfl,n,C⟩:=f.tup;cases c;obtain⟨its',w,p,_⟩:=I.tuple n;cases g.non;cases k;rw[I_ ze];exact SeqAt.EqAt.none_tuple p o
  |non=>exact nQ A _ _ m l u v rfl rfl g f k c
  |int j=>exact nQ A _ _ m l u v rfl rfl g f k c
  |str j=>exact nQ A _ _ m l u v rfl rfl g f k c
  |_=>simp [pl] at q
 |int i =>
  cases y with
  |tup us=>obtain⟨b,L,rfl,n,C⟩:=f.tup;cases c;obtain⟨its',w,p,_⟩:=I.tuple n;cases g.int;obtain⟨t,rfl⟩:=k;rw[I_ ze];exact SeqAt.EqAt.int_tuple _ _ p o
  |non=>exact nQ A _ _ m l u v rfl rfl g f k c
  |int j=>exact nQ A _ _ m l u v rfl rfl g f k c
  |str j=>exact nQ A _ _ m l u v rfl rfl g f k c
  |_=>simp [pl] at q
 |str i =>
  cases y with
  |tup us=>obtain⟨b,L,rfl,n,C⟩:=f.tup;cases c;obtain⟨its',w,p,_⟩:=I.tuple n;cases g.str;obtain⟨t,rfl⟩:=k;rw[I_ ze];exact SeqAt.EqAt.str_tuple _ _ p o
  |non=>exact nQ A _ _ m l u v rfl rfl g f k c
  |int j=>exact nQ A _ _ m l u v rfl rfl g f k c
  |str j=>exact nQ A _ _ m l u v rfl rfl g f k c
  |_=>simp [pl] at q
 |_=>simp [pl] at z
end
def Ic (C:Int->Int->Prop) (g:Int->Int->T):R3:=λx y H Q=>match x,y with
 |.int i,.int j=>C i j/\Q (g i j) H
 |_,_=>False
def tE (g:Int->Int->T):R3:=λx y H Q=>match x,y with
 |.int i,.int j=>Q (g i j) H
 |_,_=>False
section
variable {X:Cx}
theorem vd (h:AO X f (rI C g')) (e:∀i j H,zI X.K H (g i j) (g' i j)):dh X f (Ic C g):=by
 refine AO.imp h ?_;rintro x y H Q ⟨c,b,H3,m,d,a,l,h,k⟩;cases c with
 |int i =>
  cases b with
  |int j=>exact⟨i,j,d.int,a.int,h.1,k _ _ _ _ .refl l (e i j H) h.2⟩
  |_=>exact h.elim
 |_=>exact h.elim
theorem oE (h:AO X f (FY g')) (e:∀i j H,zI X.K H (g i j) (g' i j)):dh X f (tE g):=by
 refine AO.imp h ?_;rintro x y H Q ⟨c,b,H3,m,d,a,l,h,k⟩;cases c with
 |int i =>
  cases b with
  |int j=>exact⟨i,j,d.int,a.int,k _ _ _ _ .refl l (e i j H) h⟩
  |_=>exact h.elim
 |_=>exact h.elim
def zE (_ j:Int):Prop:=0<j/\j.natAbs.log2<9000
theorem Eu:AO X (br .FloorDiv) (rI zE λi j=>.int (i / j)):=Kx λi j _ _ _ _ _ a q=>by
 have e:i / j=i.fdiv j:=(hU i (Int.le_of_lt a.1)).symm;rw[e] at q;exact floordiv_int (Int.ne_of_gt a.1) q (.inl (PyProof.noPylong_of_log2 a.2))
theorem oG:dh X (br .Sub) (tE λi j=>.int (i - j)):=oE Q0 λ_ _ _=>.ofInt
theorem eZ:dh X (br .FloorDiv) (Ic zE λi j=>.int (i / j)):=vd Eu λ_ _ _=>.ofInt
theorem dX:dh X (br .Mod) (Ic (λ_ j=>0<j) λi j=>.int (i%j)):=vd Q5 λ_ _ _=>.ofInt
theorem ig:dh X (br .Pow) (Ic Jx λi j=>.int (i^j.toNat)):=vd Q6 λ_ _ _=>.ofInt
theorem vf:dh X (be .Lt) (tE λi j=>.bl (decide (i<j))):=oE V6 λ_ _ _=>.ofBl
theorem Ew:dh X (be .LtE) (tE λi j=>.bl (decide (i<=j))):=oE V7 λ_ _ _=>.ofBl
theorem vg:dh X (be .Gt) (tE λi j=>.bl (decide (j<i))):=oE V8 λ_ _ _=>.ofBl
theorem WK:dh X (be .GtE) (tE λi j=>.bl (decide (j<=i))):=oE V9 λ_ _ _=>.ofBl
theorem ik:dh X (br .Mult) (Ic Lv λi j=>.int (i*j)):=vd Q4 λ_ _ _=>.ofInt
def q8:R3:=λx y H Q=>match x,y with
 |.int i,.int j=>Q (.int (i+j)) H
 |.str i,.str j=>i.length+j.length<=ai/\Q (.str (i++j)) H
 |.ref a,.ref b=>match H a,H b with
  |some (.lst xs),ab (.lst ys)=>xs.length+ys.length<=ai/\∀p,H p=af->Q (.ref p) (eH H p (.lst (xs++ys)))
  |_,_=>False
 |.tup xs,.tup ys=>xs.length+ys.length<=ai/\Q (.tup (xs++ys)) H
 |_,_=>False
theorem Ex:AO X (br .Add) (λx y H Q=>∃a b p,x=.ref a/\y=.ref b/\A0 X.K H a []/\A0 X.K H b p/\Q (.ref b) H):=by
 intro m s Z H x y v u Q I z L h;obtain⟨a,b,p,rfl,rfl,N,E,q⟩:=h;cases z;cases L;obtain⟨D,B,A,_⟩:=I.tuple N;obtain⟨c,O,C,_⟩:=I.tuple E;cases B;obtain⟨⟨J,M,t,w⟩,o,l,n,k⟩:=id A;obtain⟨⟨r,g,j,i⟩,e,f,G,d⟩:=id C;simp only at l k f d;subst l k f d;exact o0 ⟨_,o,rfl⟩ ⟨_,e,rfl⟩ jI mT eW eM (SU _ _)
   (tuple_addW0 a b _ c.toArray n G M g w i ze) ⟨o,e,⟨.ref b,H,I,rfl,q⟩⟩
theorem bf:dh X (br .Add) q8:=by
 refine AO.imp (ZI.or (XG.or (WU.or (YA.or Ex)))) ?_;rintro x y H Q ⟨z,n,H3,A,m,o,c,h,k⟩;cases z with
 |int i =>
  cases n with
  |int j=>exact .inl ⟨i,j,m.int,o.int,k _ _ _ _ .refl c .ofInt h⟩
  |_=>exact h.elim
 |str i =>
  cases n with
  |str j=>exact .inr (.inl ⟨i,j,m.str,o.str,h.1,k _ _ _ _ .refl c .ofStr h.2⟩)
  |_=>exact h.elim
 |ref a =>
  cases n with
  |ref b =>
   have h':(match H3 a,H3 b with
    |some (.lst xs),ab (.lst l)=>xs.length+l.length<=ai/\∀p,H3 p=af->A (.ref p) (eH H3 p (.lst (xs++l)))
    |_,_=>False):=h
   split at h'
   ·
    rename_i xs l w v
    obtain⟨vs,D,f⟩:=c a _ w
    obtain⟨ws,B,g⟩:=c b _ v
    refine .inr (.inr (.inl ⟨a,b,vs,ws,m.ref,o.ref,D,B,by rw[<- f.length,<- g.length];exact h'.1,λp d=>?_⟩))
    exact k _ _ _ _ (aO d) (c.newLst d (f.append g)) .ofRef (h'.2 p (c.fresh d))
   ·
    exact h'.elim
  |_=>exact h.elim
 |tup xs =>
  cases n with
  |tup l =>
   obtain⟨a,vs,rfl,s,f⟩:=m.tup;obtain⟨b,ws,rfl,r,g⟩:=o.tup;by_cases t:vs=[]
   .subst t;have C:xs=[]:=MZ f.length;subst C;exact .inr (.inr (.inr (.inr ⟨a,b,ws,rfl,rfl,s,r,k _ _ _ _ .refl c (.ofTup r g) h.2⟩)))
   refine .inr (.inr (.inr (.inl ⟨a,b,vs,ws,rfl,rfl,s,r,t,by rw[<- f.length,<- g.length];exact h.1,λu=>?_,λu p d=>?_⟩)))
   .have e:l=[]:=by have:=g.length;rw[u] at this;exact MZ this
    have q:=h.2;rw[e,X_] at q;exact k _ _ _ _ .refl c (.ofTup s f) q
   exact k _ _ _ _ (aO d) (c.new d) (xr.newTup (H3:=H3) d (f.append g)) h.2
  |_=>exact h.elim
 |_=>exact h.elim
variable {ZO:List (ah × dP)}{Z:L2.St}{H:Hp}{s:aE}
def vh (c:Bool):R3:=λx y H Q=>match x,y with
 |.int i,.int j=>Q (.bl (if c then !decide (i=j) else decide (i=j))) H
 |.str i,.str j=>Q (.bl (if c then !decide (i=j) else decide (i=j))) H
 |.bl i,.bl j=>Q (.bl (if c then !decide (i=j) else decide (i=j))) H
 |.non,.non=>Q (.bl (if c then am else ag)) H
 |.tup xs,.tup ys=>xs.all (pl 20)=ag/\ys.all (pl 20)=ag/\Q (.bl (if c then !decide (xs=ys) else decide (xs=ys))) H
 |.ref a,.ref b=>match H a,H b with
  |some (.lst xs),ab (.lst ys)=>a≠b/\xs.all (pl 20)=ag/\ys.all (pl 20)=ag/\Q (.bl (if c then !decide (xs=ys) else decide (xs=ys))) H
  |_,_=>False
 |_,_=>False
theorem oH (I:y4 X ZO Z H s) {A:eD} (D:A.units+30<db) (g:ts.all (pl 20)=ag) (f:us.all (pl 20)=ag) (r:jj X.K H ts xs) (l:jj X.K H us k) (b:y7 xs a) (c:y7 k its'):
  ∀j (m:j<a.toArray.size) (i:j<its'.toArray.size),kC A.in1 s a.toArray[j] its'.toArray[j] (decide (ts[j]?=us[j]?)):=λj m i=>by
 have G:=r.length;have F:=l.length;have E:=b.length;have C:=c.length;rw[p_] at m i;have e:j<ts.length:=yT
 have d:j<us.length:=yT
 obtain⟨o,p,u⟩:=r.get (g_ e);obtain⟨v,n,B⟩:=l.get (g_ d);obtain⟨y,q,t⟩:=b.get p;obtain⟨z,x,w⟩:=c.get n;rw[J6 _ q,J6 _ x,g_ e,g_ d];rw[W_] at g f;have:=zB I 20 A.in1 ts[j] us[j] o v y z (g _ (C6 e)) (f _ (C6 d)) u B t w (by rw[BF];omega);rw[show decide (ab ts[j]=ab us[j])=decide (ts[j]=us[j]) by by_cases h:ts[j]=us[j] <;> simp [h]];exact this
theorem oK {ts us:List T}:((ae (min ts.length us.length)).all (λj=>decide (ts[j]?=us[j]?))&&ts.length==us.length)=decide (ts=us):=by
 rw[CA,oA,q_]
theorem Ca {c:Type} [BEq c] [LawfulBEq c] [DecidableEq c] (a b:c):(a==b)=decide (a=b):=by rw[CA];simp
theorem N5 (f:Bool) (L:X.A.units+30<db):dh X (be (bif f then .NotEq else .Eq)) (vh f):=by
 intro E s Z H x y v u Q I o n h;obtain⟨S,B,H3,M,w,C,J,h,k⟩:=h;have d:∀{b c:Bool},M (.bl b) H3->c=b->EP X E Z Q (.bool c) s:=λq e=>e▸⟨.bl _,H,I,rfl,k _ _ _ _ .refl J .ofBl q⟩;cases S with
 |int i =>
  cases B with
  |int j =>
   rw[w.int] at o;rw[C.int] at n;obtain⟨t,rfl⟩:=o;obtain⟨t',rfl⟩:=n;cases f
   .exact eq_int (d h (Ca ..))
   exact ne_int (d h (Q_ not (Ca ..)))
  |_=>exact h.elim
 |str i =>
  cases B with
  |str j =>
   rw[w.str] at o;rw[C.str] at n;obtain⟨t,rfl⟩:=o;obtain⟨t',rfl⟩:=n;cases f
   .exact eq_str (d h (Ca ..))
   exact ne_str (d h (Q_ not (Ca ..)))
  |_=>exact h.elim
 |bl i =>
  cases B with
  |bl j =>
   rw[w.bl] at o;rw[C.bl] at n;cases o;cases n;cases f
   .exact eq_bool (d h (Ca ..))
   exact ne_bool (d h (Q_ not (Ca ..)))
  |_=>exact h.elim
 |non =>
  cases B with
  |non =>
   rw[w.non] at o;rw[C.non] at n;cases o;cases n;cases f
   .exact PySem.EqNone.eq_none_none (d h rfl)
   exact PySem.EqNone.ne_none_none (d h rfl)
  |_=>exact h.elim
 |tup ts =>
  cases B with
  |tup us =>
   obtain⟨a,xs,rfl,O,r⟩:=w.tup;obtain⟨b,F,rfl,K,G⟩:=C.tup;cases o;cases n;obtain⟨D,l,p,_⟩:=I.tuple O;obtain⟨its',m,g,_⟩:=I.tuple K;have e:=oK (ts:=ts) (us:=us);rw[r.length,G.length,l.length,m.length] at e;have key:=oH I L h.1 h.2.1 r G l m;cases f
   .exact SeqAt.eq_tupleAt (e:=λj=>decide (ts[j]?=us[j]?)) p g yT key (d h.2.2 e)
   exact SeqAt.RcNeAt.tuples (e:=λj=>decide (ts[j]?=us[j]?)) p g yT key _ _ _ _ (d h.2.2 (Q_ not e))
  |_=>exact h.elim
 |ref a =>
  cases B with
  |ref b =>
   have h':(match H3 a,H3 b with
    |some (.lst xs),ab (.lst F)=>a≠b/\xs.all (pl 20)=ag/\F.all (pl 20)=ag/\M (.bl (if f then !decide (xs=F) else decide (xs=F))) H3
    |_,_=>False):=h
   split at h'
   ·
    rename_i ts us P N
    obtain⟨xs,U,r⟩:=J a _ P
    obtain⟨F,T,G⟩:=J b _ N
    cases w.ref;cases C.ref;cases o;cases n
    obtain⟨D,l,p,_⟩:=I.list (X:=X) (.of U)
    obtain⟨its',m,g,_⟩:=I.list (X:=X) (.of T)
    have V:D.length=ts.length:=by rw[<- l.length,<- r.length]
    have R:its'.length=us.length:=by rw[<- m.length,<- G.length]
    have key:=oH I L h'.2.1 h'.2.2.1 r G l m
    by_cases hsz:ts.length=us.length
    ·
     have e:=oK (ts:=ts) (us:=us)
     rw[<- hsz,Nat.min_self,beq_self_eq_true,NA,<- V] at e
     cases f
     ·
      exact sB (e:=λj=>decide (ts[j]?=us[j]?)) p.isList g.isList (by simp;omega) yT key (d h'.2.2.2 e)
     ·
      exact SeqAt.RcNeAt.lists (e:=λj=>decide (ts[j]?=us[j]?)) p.isList g.isList (by simp;omega) yT key _ _ _ _ (d h'.2.2.2 (Q_ not e))
    ·
     have e:decide (ts=us)=am:=I_ λz=>hsz (by rw[z])
     cases f
     ·
      exact SeqAt.eq_list_lengthsAt p.isList g.isList (by simp;omega) yT (d h'.2.2.2 e.symm)
     ·
      exact SeqAt.RcNeAt.lists_lengths p.isList g.isList (by simp;omega) yT _ _ _ _ (d h'.2.2.2 (by show ag=!decide (ts=us);rw[e];rfl))
   ·
    exact h'.elim
  |_=>exact h.elim
 |_=>exact h.elim
theorem cL (a:X.A.units+30<db):dh X (be .Eq) (vh am):=N5 am a
theorem jO (a:X.A.units+30<db):dh X (be .NotEq) (vh ag):=N5 ag a
def di (a:Bool) (x:T) (ts:List T):Bool:=if a then !decide (x∈ts) else decide (x∈ts)
def U1 (a:Bool) (i j:ap):Bool:=if a then !(!(bp j i 0 j.length 1).isEmpty) else !(bp j i 0 j.length 1).isEmpty
def vm (b:Bool):R3:=λx y H Q=>match y with
 |.tup ts=>pl 20 x=ag/\ts.all (pl 20)=ag/\Q (.bl (di b x ts)) H
 |.ref a=>match H a with
  |some (.lst ts)=>pl 20 x=ag/\ts.all (pl 20)=ag/\Q (.bl (di b x ts)) H
  |some (.rol ts)=>pl 20 x=ag/\ts.all (pl 20)=ag/\Q (.bl (di b x ts)) H
  |_=>False
 |.str j=>match x with
  |.str i=>Q (.bl (U1 b i j)) H
  |_=>False
 |_=>False
theorem Ey (I:y4 X ZO Z H s) (w:pl 20 x=ag) (d:ts.all (pl 20)=ag) (r:jj X.K H ts xs) (o:y7 xs a) (A:eD) (O:A.units+30<db) (B:zI X.K H x m) (D:zh m u):
  ∃e:av->Bool,(∀y,y∈a->kC A s y u (e y))/\a.any e=decide (x∈ts):=by
 rw[W_] at d;have j:∀y,y∈a->∃t v,t∈ts/\zI X.K H t v/\zh v y:=λy h=>by
  obtain⟨i,l,e⟩:=List.mem_iff_getElem.mp h;have P:=o.length;have E:a[i]?=ab y:=by rw[g_ l,e]
  have k:xs[i]?=ab xs[i]:=g_ yT;obtain⟨z,p,G⟩:=o.get k;rw[E] at p;cases p;obtain⟨t,M,b⟩:=r.get' k;exact⟨t,_,EW M,b,G⟩
 have g:∀t v y,t∈ts->zI X.K H t v->zh v y->(@decide (∃v,zh v y/\zI X.K H x v) (ay _)=ag↔t=x):=λt v y f b c=>by
  rw[@q_ _ (ay _)];constructor
  .rintro⟨N,F,L⟩;cases F.inj c;exact zA I 20 t x _ (d t f) w b L
  rintro rfl;exact⟨v,c,b⟩
 refine⟨λy=>@decide (∃v,zh v y/\zI X.K H x v) (ay _),λy h=>?_,?_⟩
 .obtain⟨t,v,f,b,c⟩:=j y h;have q:=zB I 20 A t x v m y u (d t f) w b B c D yT;have e:@decide (∃v,zh v y/\zI X.K H x v) (ay _)=decide (t=x):=by rw[CA,g t v y f b c,q_]
  show kC A s y u (@decide (∃v,zh v y/\zI X.K H x v) (ay _));rw[e];exact q
 rw[CA,F7,q_];constructor
 .rintro⟨y,h,e⟩;obtain⟨t,v,f,b,c⟩:=j y h;rw[<- (g t v y f b c).mp e];exact f
 intro k;obtain⟨i,l,e⟩:=List.mem_iff_getElem.mp k;obtain⟨v,C,n⟩:=r.get (show ts[i]?=ab x by rw[g_ l,e]);obtain⟨y,J,c⟩:=o.get C;exact⟨y,EW J,(g x v y k n c).mpr rfl⟩
theorem N6 (d:Bool) (R:X.A.units+31<db):dh X (be (bif d then .NotIn else .In)) (vm d):=by
 intro f s Z H x y v u Q I L z h;obtain⟨o,P,H3,J,G,M,E,h,k⟩:=h;have F:X.A.in1.units+30<db:=by rw[BF];omega
 have l:∀{b c:Bool},J (.bl b) H3->c=b->EP X f Z Q (.bool c) s:=λq e=>e▸⟨.bl _,H,I,rfl,k _ _ _ _ .refl E .ofBl q⟩;have B:∀{a:ah} {ts:List T} {xs:List V},A8 X.K H a xs->jj X.K H ts xs->u=.ref a->pl 20 o=ag->ts.all (pl 20)=ag->J (.bl (di d o ts)) H3->ax (aI X.prog X.w) X.A (be (bif d then .NotIn else .In) v u) (EP X f Z Q) X.xe s:=by
  intro a ts xs n r e N O q;subst e;obtain⟨g,t,C,_⟩:=I.list n;obtain⟨e,D,m⟩:=Ey I N O r t X.A.in1 F G L;rw[<- show g.toArray.any e=g.any e by simp] at m;cases d
  .exact SeqAt.in_listAt e C.isList (λy p=>D y (by simpa using p)) (l q m)
  exact SeqAt.notIn_listAt e C.isList (λy p=>D y (by simpa using p)) (l q (Q_ not m))
 cases P with
 |tup ts =>
  obtain⟨a,xs,rfl,n,r⟩:=M.tup;cases z;obtain⟨g,t,C,_⟩:=I.tuple n;obtain⟨e,D,m⟩:=Ey I h.1 h.2.1 r t X.A.in1 F G L;rw[<- show g.toArray.any e=g.any e by simp] at m;cases d
  .exact SeqAt.in_tupleAt e C (λy p=>D y (by simpa using p)) (l h.2.2 m)
  exact SeqAt.notIn_tupleAt e C (λy p=>D y (by simpa using p)) (l h.2.2 (Q_ not m))
 |ref a =>
  have h':(match H3 a with
   |some (.lst ts)=>pl 20 o=ag/\ts.all (pl 20)=ag/\J (.bl (di d o ts)) H3
   |some (.rol ts)=>pl 20 o=ag/\ts.all (pl 20)=ag/\J (.bl (di d o ts)) H3
   |_=>False):=h
  rw[M.ref] at z
  split at h'
  ·
   rename_i ts e
   obtain⟨xs,n,r⟩:=E.sqL (.inl e)
   exact B n r z h'.1 h'.2.1 h'.2.2
  ·
   rename_i ts e
   obtain⟨xs,n,r⟩:=E.sqL (.inr e)
   exact B n r z h'.1 h'.2.1 h'.2.2
  ·
   exact h'.elim
 |str j =>
  cases o with
  |str i =>
   cases d
   .exact Bt f s Z H x y v u Q I L z ⟨i,j,G.str,M.str,k _ _ _ _ .refl E .ofBl h⟩
   exact sE f s Z H x y v u Q I L z ⟨i,j,G.str,M.str,k _ _ _ _ .refl E .ofBl h⟩
  |_=>exact h.elim
 |_=>exact h.elim
theorem q9 (a:X.A.units+31<db):dh X (be .In) (vm am):=N6 am a
theorem oM (a:X.A.units+31<db):dh X (be .NotIn) (vm ag):=N6 ag a
def oq {a:Type}(o:Option a) (Q:a->Prop):Prop:=match o with
 |some v=>Q v
 |none=>False
def vo:R3:=λx y H Q=>match x,y with
 |.ref a,.int i=>match H a with
  |some (.lst ts)=>oq (AA ts i) λt=>Q t H
  |some (.rol ts)=>oq (AA ts i) λt=>Q t H
  |_=>False
 |.tup ts,.int i=>oq (AA ts i) λt=>Q t H
 |.str z,.int i=>z.length<=ai/\oq (AA z.cps.toList i) λc=>Q (.str ⟨#[c]⟩) H
 |_,_=>False
theorem zF {K:a3} (r:jj K H ts xs) (h:AA ts i=ab t):∃v,AA xs i=ab v/\zI K H t v:=by
 unfold AA at h |-;rw[<- r.length];cases e:BH ts.length i with
 |none=>rw[e] at h;cases h
 |some j =>
 rw[e] at h;exact r.get h
theorem zD:WD X vo:=by
 refine EK.imp Rn ?_;rintro x y H Q ⟨u,o,H3,f,l,j,g,h,k⟩;have d:∀{a:ah} {ts:List T} {xs:List V} {i:Int},A8 X.K H a xs->jj X.K H ts xs->x=.ref a->y=.int i->oq (AA ts i) (λt=>f t H3)->UF X.K x y H Q:=by
  intro a ts xs i b r m s q;cases e:AA ts i with
  |none=>rw[e] at q;exact q.elim
  |some t =>
  rw[e] at q;obtain⟨v,p,n⟩:=zF r e;exact .inl ⟨a,xs,i,v,m,s,b,p,k _ _ _ _ .refl g n q⟩
 cases u with
 |ref a =>
  cases o with
  |int i =>
   have h':(match H3 a with
    |some (.lst ts)=>oq (AA ts i) λt=>f t H3
    |some (.rol ts)=>oq (AA ts i) λt=>f t H3
    |_=>False):=h
   split at h'
   ·
    rename_i ts e
    obtain⟨xs,b,r⟩:=g.sqL (.inl e)
    exact d b r l.ref j.int h'
   ·
    rename_i ts e
    obtain⟨xs,b,r⟩:=g.sqL (.inr e)
    exact d b r l.ref j.int h'
   ·
    exact h'.elim
  |_=>exact h.elim
 |tup ts =>
  cases o with
  |int i =>
   have h':oq (AA ts i) λt=>f t H3:=h
   cases e:AA ts i with
   |none=>rw[e] at h';exact h'.elim
   |some t =>
    rw[e] at h'
    obtain⟨a,xs,m,b,r⟩:=l.tup
    obtain⟨v,p,n⟩:=zF r e
    exact .inr (.inl ⟨a,xs,i,v,m,j.int,b,p,k _ _ _ _ .refl g n h'⟩)
  |_=>exact h.elim
 |str z =>
  cases o with
  |int i =>
   have h':z.length<=ai/\oq (AA z.cps.toList i) λc=>f (.str ⟨#[c]⟩) H3:=h
   cases e:AA z.cps.toList i with
   |none=>rw[e] at h';exact h'.2.elim
   |some c =>
    rw[e] at h'
    exact .inr (.inr ⟨z,i,c,l.str,j.int,h'.1,e,k _ _ _ _ .refl g .ofStr h'.2⟩)
  |_=>exact h.elim
 |_=>exact h.elim
def Ez:uZ:=λo i v H Q=>match o,i with
 |.ref a,.int k=>match H a with
  |some (.lst ts)=>oq (BH ts.length k) λj=>Q (eH H a (.lst (ts.set j v)))
  |_=>False
 |_,_=>False
theorem xr.wrL {K:a3} (s:xr K H3 H) (g:H a=ab (.lst xs)) (r:jj K H ts c):xr K (eH H3 a (.lst ts)) (zw H a (.lst c)):=λb o e=>by
 have f:R7 K H (zw H a (.lst c)):=bC (by rw[g];exact trivial);by_cases d:b=a
 .subst d;rw[aC] at e;cases e;exact⟨c,bR,r.mono f⟩
 rw[aD d] at e;exact (s b o e).stay f λu q=>by rw[aY d];exact q
theorem rm:NP X Ez:=by
 refine LM.imp GG ?_;rintro o i v H Q ⟨m,f,l,H3,p,s,q,g,d,h,k⟩;cases m with
 |ref a =>
  cases f with
  |int n =>
   have h':(match H3 a with
    |some (.lst ts)=>oq (BH ts.length n) λj=>p (eH H3 a (.lst (ts.set j l)))
    |_=>False):=h
   split at h'
   ·
    rename_i ts e
    obtain⟨xs,b,r⟩:=d a _ e
    cases c:BH ts.length n with
    |none=>rw[c] at h';exact h'.elim
    |some j =>
     rw[c] at h'
     exact⟨a,xs,n,j,s.ref,q.int,b,by rw[<- r.length];exact c,k _ _ (bC (by rw[b];exact trivial)) (d.wrL b (r.set j g)) h'⟩
   ·
    exact h'.elim
  |_=>exact h.elim
 |_=>exact h.elim
abbrev JY:=AJ->gV->(Option Int->gV->Prop)->Prop
def VW (K:a3) (d:JY):TO:=λZ H Q=>∃c H3 b,BM K H c Z/\xr K H3 H/\d c H3 b/\∀o H' a,R7 K H H'->xr K a H'->b o a->Q o H'
def ML (X:Cx) (e:Option Expr) (t:JY):Prop:=PO X e (VW X.K t)
theorem PO.imp (h:PO X e t) (w:∀Z H Q,t' Z H Q->t Z H Q):PO X e t':=λa s Z H Q I q=>h a s Z H Q I (w Z H Q q)
def vp:JY:=λ_ H Q=>Q af H
def EY (t:zS):JY:=λZ H Q=>t Z H λx a=>match x with
 |.int i=>Q (ab i) a
 |_=>False
theorem jP:ML X af vp:=by
 refine PO.imp JN ?_;rintro Z H Q ⟨d,H3,b,c,a,h,k⟩;exact k _ _ _ .refl a h
theorem fP (h:Z7 X e te):ML X (ab e) (EY te):=by
 refine PO.imp (JP h) ?_;rintro Z H Q ⟨g,H3,j,b,f,h,k⟩;refine⟨g,H3,_,b,f,h,λv H' t c d a r q=>?_⟩;cases t with
 |int i=>exact⟨i,r.int,k _ _ _ d a q⟩
 |_=>exact q.elim
theorem Rz:KO X (λx m f H Q=>∃z,x=.str z/\z.length<=ai/\Q (.str (j2 z m f)) H):=by
 intro b s Z H x v A B m f y Q I w r pl p h;obtain⟨z,rfl,hz,q⟩:=h;obtain⟨t,rfl⟩:=w;refine⟨"str",_,F.slot_str_getitem.lookup,tj _ _ _,?_⟩;obtain⟨o,e,c,d⟩:=r;have a:∀(t':Tok) (k:Nat),EP X b Z Q (.str (j2 z m f) t') { s with toks:=k}:=λt' k=>⟨.str _,H,I.tok k,⟨t',rfl⟩,q⟩;cases pl with
 |none =>
  cases p with
  |none=>exact PY (l:=af) (u:=af) (st:=af) ⟨o,e,c,d⟩ rfl (fw ⟨U_ (kA z _ _) hz,a⟩)
  |int j g=>exact PY (l:=af) (u:=ab (j,g)) (st:=af) ⟨o,e,c,d⟩ rfl (fw ⟨U_ (kA z _ _) hz,a⟩)
 |int i n =>
 cases p with
 |none=>exact PY (l:=ab (i,n)) (u:=af) (st:=af) ⟨o,e,c,d⟩ rfl (fw ⟨U_ (kA z _ _) hz,a⟩)
 |int j g=>exact PY (l:=ab (i,n)) (u:=ab (j,g)) (st:=af) ⟨o,e,c,d⟩ rfl (fw ⟨U_ (kA z _ _) hz,a⟩)
def gC (ts:List T) (a b:Option Int):List T:=(ts.drop (HT.sIx ts.length 0 a)).take (HT.sIx ts.length ts.length b - HT.sIx ts.length 0 a)
def J7:T->Option Int->Option Int->gV->Z1->Prop:=λx c b H Q=>match x with
 |.ref a=>match H a with
  |some (.lst ts)=>∀p,H p=af->Q (.ref p) (eH H p (.lst (gC ts c b)))
  |some (.rol ts)=>∀p,H p=af->Q (.ref p) (eH H p (.lst (gC ts c b)))
  |_=>False
 |.tup ts=>¬(HT.sIx ts.length 0 c=0/\HT.sIx ts.length ts.length b=ts.length)/\Q (.tup (gC ts c b)) H
 |.str z=>z.length<=ai/\Q (.str (j2 z c b)) H
 |_=>False
def WL (te:zS) (c d:JY):zS:=λZ H Q=>te Z H λx b=>c Z b λl a=>d Z a λu H3=>J7 x l u H3 Q
theorem tG {K:a3} (r:jj K H ts xs) (a b:Option Int):jj K H (gC ts a b) (uN xs a b):=by
 unfold gC uN;rw[<- r.length];exact (r.drop _).take _
theorem jQ (M:Z7 X e te) (O:ML X B F) (I:ML X D C):Z7 X (.Subscript e (.Slice B D af L) t) (WL te F C):=by
 refine PE.imp (DY (ZA.or (Y2.or Rz)) M O I) ?_;rintro Z H Q ⟨s,H3,E,q,N,h,k⟩;refine⟨s,H3,_,q,N,h,λx R J w g y G K=>⟨s,w,_,q.mono g,y,K,λl T A i v P=>⟨s,A,_,q.mono (g.trans i),v,P,λu S c n b j=>?_⟩⟩⟩;have o:=k.at (g.trans (i.trans n));have f:=G.mono (i.trans n);cases J with
 |ref a =>
  have h':(match c a with
   |some (.lst ts)=>∀p,c p=af->E (.ref p) (eH c p (.lst (gC ts l u)))
   |some (.rol ts)=>∀p,c p=af->E (.ref p) (eH c p (.lst (gC ts l u)))
   |_=>False):=j
  split at h'
  ·
   rename_i ts e
   obtain⟨xs,m,r⟩:=b.sqL (.inl e)
   exact .inl ⟨a,xs,f.ref,m,λp d=>o _ _ _ _ (aO d) (b.newLst d (tG r l u)) .ofRef (h' p (b.fresh d))⟩
  ·
   rename_i ts e
   obtain⟨xs,m,r⟩:=b.sqL (.inr e)
   exact .inl ⟨a,xs,f.ref,m,λp d=>o _ _ _ _ (aO d) (b.newLst d (tG r l u)) .ofRef (h' p (b.fresh d))⟩
  ·
   exact h'.elim
 |tup ts=>obtain⟨a,xs,rfl,m,r⟩:=f.tup;refine .inr (.inl ⟨a,xs,rfl,m,by rw[<- r.length];exact j.1,λp d=>o _ _ _ _ (aO d) (b.new d) (xr.newTup (H3:=c) d (tG r l u)) j.2⟩)
 |str z=>exact .inr (.inr ⟨z,f.str,j.1,o _ _ _ _ .refl b .ofStr j.2⟩)
 |_=>exact j.elim
def aP (k:ap):List (ap × T)->Option T
 |[]=>af
 | (k',v)::r=>if k'=k then ab v else aP k r
def AT (k:ap) (v:T) (kvs:List (ap × T)):List (ap × T) :=
 if (kvs.any λa=>decide (a.1=k))=ag then kvs.map (λa=>if a.1=k then (a.1,v) else a) else kvs++[(k,v)]
def VA:R3:=λx y H Q=>match x,y with
 |.ref a,.str k=>match H a with
  |some (.dct kvs)=>oq (aP k kvs) λt=>Q t H
  |_=>False
 |_,_=>False
theorem oN {K:a3}:∀{kvs:List (ap × T)}{vs:List (z5 × V)}{t:T},CC K H kvs vs->aP k kvs=ab t->∃v,fK vs (ca k:z5)=ab v/\zI K H t v
 |[],_,_,_,e=>by cases e
 | (k',t')::r,_,t,.cons (b:=(kk,v')) ⟨e1,rv⟩ rr,e=>by
  simp only at e1 rv
  subst e1
  unfold aP at e
  by_cases a:k'=k
  ·
   rw[zi a] at e
   cases e
   exact⟨v',by rw[fL (by rw[a])],rv⟩
  ·
   rw[y9 a] at e
   obtain⟨v,c,q⟩:=oN rr e
   exact⟨v,by rw[fM (by intro z;exact a (iq z))];exact c,q⟩
theorem cD (B:X.A.units+1<db) (K:Z7 X o u) (E:Z7 X i q) (N:Ec i:=by exact λ_ _=>rfl):Z7 X (.Subscript o i f) (sY VA u q):=by
 refine PE.imp (sU B K E N) ?_;rintro Z H Q ⟨s,H3,F,p,J,h,k⟩;refine⟨s,H3,_,p,J,h,λx O C l b m w D=>⟨s,l,_,p.mono b,m,D,λy P I d g c M n=>?_⟩⟩;cases C with
 |ref a =>
  cases I with
  |str key =>
   have h':(match d a with
    |some (.dct kvs)=>oq (aP key kvs) λt=>F t d
    |_=>False):=n
   split at h'
   ·
    rename_i kvs e
    obtain⟨vs,G,r⟩:=c a _ e
    cases j:aP key kvs with
    |none=>rw[j] at h';exact h'.elim
    |some t =>
     rw[j] at h'
     obtain⟨v,z,L⟩:=oN r j
     refine⟨a,v,w.ref,?_,k.at (b.trans g) _ _ _ _ .refl c L h'⟩
     rw[M.str,<- z]
     exact Db.k (k:=ca key) G
   ·
    exact h'.elim
  |_=>exact n.elim
 |_=>exact n.elim
def Fb (f c d:zS):BY:=λD Z H=>d Z H λv b=>f Z b λx e=>c Z e λy H3=>match x,y with
 |.ref a,.str k=>match H3 a with
  |some (.dct kvs)=>kvs.length<ai/\D.nx Z (eH H3 a (.dct (AT k v kvs)))
  |_=>False
 |_,_=>False
theorem J8 {K:a3} (m:zI K H t v) (r:CC K H kvs vs):CC K H (AT k t kvs) (AK vs (ca k:z5) v):=by
 have e:∀{kvs:List (ap × T)} {vs:List (z5 × V)},CC K H kvs vs->(kvs.any λc=>decide (c.1=k))=(vs.any λc=>decide (c.1=(ca k:z5)))/\CC K H (kvs.map (λc=>if c.1=k then (c.1,t) else c)) (vs.map (λc=>if c.1=(ca k:z5) then (c.1,v) else c)):=by
  intro kvs;induction kvs with
  |nil=>intro vs r;cases r;exact⟨rfl,.nil⟩
  |cons p l s =>
  intro vs r;cases r with
  |cons q u =>
  rename_i b w;obtain⟨i,g⟩:=s u;obtain⟨n,o⟩:=q;obtain⟨x,y⟩:=b;simp only at n o;subst n;by_cases f:p.1=k
  .refine⟨by simp [f],?_⟩;simp only[z_,f,if_true];exact .cons ⟨rfl,m⟩ g
  have d:¬(ca p.1:z5)=ca k:=λz=>f (iq z);refine⟨by simp only[MQ,f,d,ER,jp];exact i,?_⟩;simp only[z_,f,d,Y_];exact .cons ⟨rfl,o⟩ g
 obtain⟨i,g⟩:=e r;unfold AT AK;rw[i];split
 .exact g
 have j:∀{a:List (ap × T)} {b:List (z5 × V)},CC K H a b->CC K H (a++[(k,t)]) (b++[((ca k:z5),v)]):=λh=>l5 h ⟨rfl,m⟩;exact j r
theorem xr.wrD {K:a3} (s:xr K H3 H) (g:H a=ab (.dK h)) (r:CC K H kvs c):xr K (eH H3 a (.dct kvs)) (zw H a (.dK c)):=λb o e=>by
 have f:R7 K H (zw H a (.dK c)):=bC (by rw[g];exact trivial);by_cases d:b=a
 .subst d;rw[aC] at e;cases e;exact⟨c,bR,r.mono f⟩
 rw[aD d] at e;exact (s b o e).stay f λu q=>by rw[aY d];exact q
theorem jR {G s t:zS} (M:X.A.units+1<db) (S:Z7 X o G) (Q:Z7 X i s) (N:Z7 X b t) (V:d6 b (ab (.Subscript o i g)) l.line X.env=bE am:=by rfl):
  D3 X (.Assign [.Subscript o i g] b l) (Fb G s t):=by
 refine PS.imp (zf M S Q N V) ?_;rintro D Z H ⟨q,H3,W,p,R,h,L,_⟩;refine⟨q,H3,_,p,R,h,λv H1 t B c E T O=>⟨q,B,_,p.mono c,E,O,λx H2 P F f z J Y=>⟨q,F,_,p.mono (c.trans f),z,Y,λy I s m d j U C=>?_⟩⟩⟩;cases P with
 |ref a =>
  cases s with
  |str key =>
   have h':(match m a with
    |some (.dct kvs)=>kvs.length<ai/\W.nx q (eH m a (.dct (AT key t kvs)))
    |_=>False):=C
   split at h'
   ·
    rename_i kvs e
    obtain⟨vs,u,r⟩:=j a _ e
    have w:=T.mono (f.trans d)
    have n:R7 X.K I (zw I a (.dK (AK vs (ca key:z5) v))):=bC (by rw[u];exact trivial)
    refine⟨a,_,(J.mono d).ref,?_,L _ _ _ _ (c.trans (f.trans (d.trans n))) (p.mono (c.trans (f.trans (d.trans n)))) (j.wrD u (J8 w r)) h'.2⟩
    rw[U.str]
    exact Jn.k (k:=ca key) u (by rw[<- FK r];exact h'.1)
   ·
    exact h'.elim
  |_=>exact C.elim
 |_=>exact C.elim
def WM:List (ap × zS)->AJ->gV->(List (ap × T)->gV->Prop)->Prop
 |[],_,H,Q=>Q [] H
 | (k,tv)::r,Z,H,Q=>tv Z H λy a=>WM r Z a λb H3=>Q ((k,y)::b) H3
def VT (kvs a:List (ap × T)):List (ap × T):=a.foldl (λb c=>AT c.1 c.2 b) kvs
def RB (a:List (ap × zS)):zS:=λZ H Q=>∀p,H p=af->WM a Z (eH H p (.dct [])) λc b=>b p=ab (.dct [])/\c.length<=15/\Q (.ref p) (eH b p (.dct (VT [] c)))
variable {p ZT:kc}{es:List Expr}{id Ty:String}
def RC (r:List T->gV->Z1->Prop) (t:DM):zS:=λZ H Q=>t Z H λvs a=>r vs a Q
theorem aQ (v:dO X (.builtin id) r) (n:Gl X x) (i:X.mg x=af) (j:ba x=ab (.builtin id)) (m:DZ X (e::es) t) (g:x≠"__name__":=by decide) (d:(x==("__debug__":ap))=am:=by decide)
  (o:aw (e::es) X.env=(am,bo e X.env)::aw es X.env:=by rfl) (b:(bb ZT (aw es X.env)).any (·.1)=am:=by rfl):Z7 X (.Call (.Name x p) (e::es) [] ZT) (RC r t):=by
 refine PE.imp (DW v n i j m g d o b) ?_;rintro Z H Q ⟨l,H3,s,f,w,h,k⟩;exact⟨l,H3,_,f,w,h,λvs H' ts a u c r q=>⟨ts,a,s,r,c,q,k.at u⟩⟩
theorem bu (v:dO X (.type Ty) r) (n:Gl X x) (i:X.mg x=af) (j:ba x=ab (.type Ty)) (m:DZ X (e::es) t) (g:x≠"__name__":=by decide) (d:(x==("__debug__":ap))=am:=by decide)
  (o:aw (e::es) X.env=(am,bo e X.env)::aw es X.env:=by rfl) (b:(bb ZT (aw es X.env)).any (·.1)=am:=by rfl):Z7 X (.Call (.Name x p) (e::es) [] ZT) (RC r t):=by
 refine PE.imp (By v n i j m g d o b) ?_;rintro Z H Q ⟨l,H3,s,f,w,h,k⟩;exact⟨l,H3,_,f,w,h,λvs H' ts a u c r q=>⟨ts,a,s,r,c,q,k.at u⟩⟩
theorem jj.one' {K:a3}{t:T} (r:jj K H [t] vs):∃v,vs=[v]/\zI K H t v:=by
 obtain⟨v,_,rfl,a,b⟩:=r.inv;rw[b.inv0];exact⟨v,rfl,a⟩
theorem jj.two' {K:a3}{t u:T} (r:jj K H [t,u] vs):∃v w,vs=[v,w]/\zI K H t v/\zI K H u w:=by
 obtain⟨v,_,rfl,a,b⟩:=r.inv;obtain⟨w,rfl,c⟩:=b.one';exact⟨v,w,rfl,a,c⟩
def zG:List T->gV->Z1->Prop:=λts H Q=>match ts with
 |[.ref a]=>match H a with
  |some (.lst xs)=>Q (.int xs.length) H
  |some (.rol xs)=>Q (.int xs.length) H
  |_=>False
 |[.tup xs]=>Q (.int xs.length) H
 |[.str z]=>z.length<=ai/\Q (.int z.length) H
 |_=>False
theorem b8:dO X (.builtin "len") zG:=by
 refine Cf.imp (YR.or sO) ?_;rintro xs H Q ⟨ts,H3,i,r,c,h,k⟩
 match ts,h,r with
 |[.ref a],h,r =>
  obtain⟨v,rfl,b⟩:=r.one';have h':(match H3 a with
   |some (.lst xs)=>i (.int xs.length) H3
   |some (.rol xs)=>i (.int xs.length) H3
   |_=>False):=h
  split at h'
  .rename_i us e;obtain⟨f,g,d⟩:=c.sqL (.inl e);exact .inl ⟨a,f,by rw[b.ref],.inl g,by rw[<- d.length];exact k _ _ _ _ .refl c .ofInt h'⟩
  .rename_i us e;obtain⟨f,g,d⟩:=c.sqL (.inr e);exact .inl ⟨a,f,by rw[b.ref],.inl g,by rw[<- d.length];exact k _ _ _ _ .refl c .ofInt h'⟩
  exact h'.elim
 |[.tup us],h,r=>obtain⟨v,rfl,b⟩:=r.one';obtain⟨a,f,rfl,g,d⟩:=b.tup;exact .inl ⟨a,f,rfl,.inr g,by rw[<- d.length];exact k _ _ _ _ .refl c .ofInt h⟩
 |[.str z],h,r =>
 obtain⟨v,rfl,b⟩:=r.one';exact .inr ⟨z,by rw[b.str],h.1,k _ _ _ _ .refl c .ofInt h.2⟩
def tH:List T->gV->Z1->Prop:=λts H Q=>match ts with
 |[.ref a]=>match H a with
  |some (.lst xs)=>∀p,H p=af->Q (.ref p) (eH H p (.lst xs))
  |some (.rol xs)=>∀p,H p=af->Q (.ref p) (eH H p (.lst xs))
  |_=>False
 |[.tup xs]=>∀p,H p=af->Q (.ref p) (eH H p (.lst xs))
 |_=>False
theorem tK:dO X (.type "list") tH:=by
 refine Cf.imp sS ?_;rintro xs H Q ⟨ts,H3,j,r,c,h,k⟩
 match ts,h,r with
 |[.ref a],h,r =>
  obtain⟨v,rfl,i⟩:=r.one';have h':(match H3 a with
   |some (.lst xs)=>∀p,H3 p=af->j (.ref p) (eH H3 p (.lst xs))
   |some (.rol xs)=>∀p,H3 p=af->j (.ref p) (eH H3 p (.lst xs))
   |_=>False):=h
  split at h'
  .rename_i us e;obtain⟨f,g,d⟩:=c.sqL (.inl e);exact⟨a,f,by rw[i.ref],.inl g,λl b=>k _ _ _ _ (aO b) (c.newLst b d) .ofRef (h' l (c.fresh b))⟩
  .rename_i us e;obtain⟨f,g,d⟩:=c.sqL (.inr e);exact⟨a,f,by rw[i.ref],.inl g,λl b=>k _ _ _ _ (aO b) (c.newLst b d) .ofRef (h' l (c.fresh b))⟩
  exact h'.elim
 |[.tup us],h,r =>
 obtain⟨v,rfl,i⟩:=r.one';obtain⟨a,f,rfl,g,d⟩:=i.tup;exact⟨a,f,rfl,.inr g,λl b=>k _ _ _ _ (aO b) (c.newLst b d) .ofRef (h l (c.fresh b))⟩
def tL:List T->gV->Z1->Prop:=λts H Q=>match ts with
 |[.ref a]=>match H a with
  |some (.lst xs)=>Q (.tup xs) H
  |some (.rol xs)=>Q (.tup xs) H
  |_=>False
 |[.tup xs]=>Q (.tup xs) H
 |_=>False
theorem b7:dO X (.type "tuple") tL:=by
 refine Cf.imp qg ?_;rintro xs H Q ⟨ts,H3,j,r,g,h,k⟩
 match ts,h,r with
 |[.ref a],h,r =>
  obtain⟨v,rfl,i⟩:=r.one';have h':(match H3 a with
   |some (.lst xs)=>j (.tup xs) H3
   |some (.rol xs)=>j (.tup xs) H3
   |_=>False):=h
  split at h'
  .rename_i us e;obtain⟨f,c,d⟩:=g.sqL (.inl e);exact⟨a,f,by rw[i.ref],.inl ⟨c,λl b=>k _ _ _ _ (aO b) (g.new b) (xr.newTup (H3:=H3) b d) h'⟩⟩
  .rename_i us e;obtain⟨f,c,d⟩:=g.sqL (.inr e);exact⟨a,f,by rw[i.ref],.inl ⟨c,λl b=>k _ _ _ _ (aO b) (g.new b) (xr.newTup (H3:=H3) b d) h'⟩⟩
  exact h'.elim
 |[.tup us],h,r =>
 obtain⟨v,rfl,i⟩:=r.one';obtain⟨a,f,rfl,c,d⟩:=i.tup;exact⟨a,f,rfl,.inr ⟨c,k _ _ _ _ .refl g (.ofTup c d) h⟩⟩
def Fd:List T->gV->Z1->Prop:=λts H Q=>match ts with
 |[.int i]=>Q (.int i) H
 |[.bl b]=>Q (.int (if b then 1 else 0)) H
 |_=>False
theorem J9:dO X (.type "int") Fd:=by
 refine Cf.imp Bu ?_;rintro xs H Q ⟨ts,H3,d,r,c,h,k⟩
 match ts,h,r with
 |[.int i],h,r=>obtain⟨v,rfl,a⟩:=r.one';exact .inl ⟨i,by rw[a.int],k _ _ _ _ .refl c .ofInt h⟩
 |[.bl b],h,r =>
 obtain⟨v,rfl,a⟩:=r.one';exact .inr ⟨b,by rw[a.bl],k _ _ _ _ .refl c .ofInt h⟩
def zv:List T->Option (List Int)
 |[]=>ab []
 |.int i::r=>(zv r).map (i::·)
 |_=>af
theorem cN:∀(ns:List Int),zv (ns.map T.int)=ab ns
 |[]=>rfl
 |n::r=>by simp [zv,cN r]
theorem ir {K:a3}:∀{ts:List T}{xs:List V}{us:List av}{ns:List Int},zv ts=ab ns->jj K H ts xs->y7 xs us->eh us ns
 |[],xs,us,ns,e,r,v=>by
  cases e
  rw[r.inv0] at v
  cases v
  exact .nil
 |.int i::l,xs,us,ns,e,r,v=>by
  obtain⟨x,g,rfl,f,d⟩:=r.inv
  cases v with
  |cons a b =>
   rw[f.int] at a
   obtain⟨t,rfl⟩:=a
   cases c:zv l with
   |none=>simp [zv,c] at e
   |some h =>
    simp [zv,c] at e
    subst e
    exact .cons _ _ (ir c d b)
 |.non::_,_,_,_,e,_,_=>by simp [zv] at e
 |.bl _::_,_,_,_,e,_,_=>by simp [zv] at e
 |.str _::_,_,_,_,e,_,_=>by simp [zv] at e
 |.tup _::_,_,_,_,e,_,_=>by simp [zv] at e
 |.ref _::_,_,_,_,e,_,_=>by simp [zv] at e
 |.ty _::_,_,_,_,e,_,_=>by simp [zv] at e
def N7:List T->gV->Z1->Prop:=λts H Q=>match ts with
 |[.ref a]=>match H a with
  |some (.lst xs)=>oq (zv xs) λns=>Q (.int ns.sum) H
  |some (.rol xs)=>oq (zv xs) λns=>Q (.int ns.sum) H
  |_=>False
 |_=>False
theorem lu (D:X.calm=ag):dO X (.builtin "sum") N7:=by
 intro i s Z H xs us Q I E h;obtain⟨ts,H3,p,r,t,h,k⟩:=h
 match ts,h,r with
 |[.ref a],h,r =>
 obtain⟨v,rfl,o⟩:=r.one';obtain⟨u,rfl,z⟩:=AQ E;rw[o.ref] at z;cases z;have b:∀{d:List T} {l:List V},A8 X.K H a l->jj X.K H d l->oq (zv d) (λns=>p (.int ns.sum) H3)->ax (aI X.prog X.w) X.A (jS (.builtin "sum") [.ref a]) (EP X i Z Q) X.xe s:=by
  intro d l g j q;cases e:zv d with
  |none=>rw[e] at q;exact q.elim
  |some ns =>
  rw[e] at q;obtain⟨c,x,F,_⟩:=I.list g;have C:=ir e j x;have f:AllInts c.toArray:=C.allInts;obtain⟨m,y⟩:=f.items;have n:s.heap.IsList a (xS m):=by rw[<- y];exact F.isList
  refine sum_intListG (I.ok.hd D) n λh' tk t' J=>?_;have G:preSum (numAt m) m.size=ns.sum:=by have B:=m3 m;rw[<- y,show c.toArray.toList=c from rfl,C.numsOf] at B;rw[preSum_eq,M0 ze,<- B]
  rw[G];exact⟨.int ns.sum,H,I.kept J,⟨t',rfl⟩,k _ _ _ _ .refl t .ofInt q⟩
 have h':(match H3 a with
  |some (.lst xs)=>oq (zv xs) λns=>p (.int ns.sum) H3
  |some (.rol xs)=>oq (zv xs) λns=>p (.int ns.sum) H3
  |_=>False):=h
 split at h'
 .rename_i d e;obtain⟨l,g,j⟩:=t.sqL (.inl e);exact b g j h'
 .rename_i d e;obtain⟨l,g,j⟩:=t.sqL (.inr e);exact b g j h'
 exact h'.elim
variable {ZY ZU:kc}
def OF (b:String):T->gV->Prop:=λx H=>match x with
 |.str _=>b="str"
 |.tup _=>b="tuple"
 |.ref a=>b="list"/\match H a with
  |some (.lst _)=>True
  |some (.rol _)=>True
  |_=>False
 |_=>False
theorem N8 {K:a3}{t:T} (d:xr K H3 H) (r:zI K H t v) (h:OF Ty t H3):Pf K Ty v H:=by
 cases t with
 |str z=>rw[r.str];exact h
 |tup ts=>obtain⟨a,xs,rfl,c,_⟩:=r.tup;exact .inr (.inl ⟨h,xs,c⟩)
 |ref a =>
  rw[r.ref];refine .inl ⟨h.1,?_⟩;have b:=h.2;cases e:H3 a with
  |none=>rw[e] at b;exact b.elim
  |some o =>
  rw[e] at b;cases o with
  |lst ts=>obtain⟨xs,c,_⟩:=d.sqL (.inl e);exact⟨xs,c⟩
  |rol ts=>obtain⟨xs,c,_⟩:=d.sqL (.inr e);exact⟨xs,c⟩
  |dct _=>exact b.elim
  |dcp _=>exact b.elim
  |exc _ _=>exact b.elim
  |xdt _=>exact b.elim
  |dci _=>exact b.elim
  |dif _ _=>exact b.elim
  |dsf _ _=>exact b.elim
  |ins _ _=>exact b.elim
 |_=>exact h.elim
def WN (b:String) (m:T->List T->gV->Z1->Prop) (d:zS) (t:DM):zS:=λZ H Q=>d Z H λx a=>OF b x a/\t Z a λxs c=>m x xs c Q
theorem cW (A:nI Ty) (f:xo Ty name id) (l:x9 (.builtin id)=bE (.type "method_descriptor")) (w:sX X id m) (D:Z7 X o to) (F:DZ X (e::es) t)
  (c:cS o name X.env (bo o X.env)=bo o X.env:=by rfl)
  (g:((bb ZU (aw (e::es) X.env)).all (λx=>!x.1)&&(pa ZU (im [] X.env)).all (λx=>x.1.isSome)
   && decide ((e::es).length+([]:List qa).length+(if ([]:List qa).isEmpty then 0 else 1)<30))=ag:=by rfl)
  (b:(ZY.endLine==ZU.line)=ag:=by rfl) (E:aw (e::es) X.env=(am,bo e X.env)::aw es X.env:=by rfl) (a:(bb ZU (aw es X.env)).any (·.1)=am:=by rfl) :
  Z7 X (.Call (.Attribute o name ZY) (e::es) [] ZU) (WN Ty m to t):=by
 refine PE.imp (Wq A f l w D F c g b E a) ?_;rintro Z H Q ⟨u,H3,z,r,C,h,k⟩;exact⟨u,H3,_,r,C,h,λx I y p d j s v=>⟨N8 j s v.1,u,p,_,r.mono d,j,v.2,λvs J ts q i n B G=>⟨y,ts,q,z,s.mono i,B,n,G,k.at (d.trans i)⟩⟩⟩
def Oa:T->List T->gV->Z1->Prop:=λx ts H Q=>match x,ts with
 |.ref a,[t]=>match H a with
  |some (.lst xs)=>xs.length<ai/\Q .non (eH H a (.lst (xs++[t])))
  |_=>False
 |_,_=>False
theorem bB:sX X "list.append" Oa:=by
 refine E7.imp BJ ?_;rintro x xs H Q ⟨j,ts,H3,l,d,c,f,h,k⟩
 match j,ts,h,d,c with
 |.ref a,[t],h,d,c =>
 obtain⟨v,rfl,g⟩:=c.one';have h':(match H3 a with
  |some (.lst xs)=>xs.length<ai/\l .non (eH H3 a (.lst (xs++[t])))
  |_=>False):=h
 split at h'
 .rename_i m e;obtain⟨i,b,r⟩:=f a _ e;exact⟨a,i,v,d.ref,rfl,b,by rw[<- r.length];exact h'.1,k _ _ _ _ (bC (by rw[b];exact trivial)) (f.wrL b (r.append (.cons g .nil))) .ofNon h'.2⟩
 exact h'.elim
def Ob:T->List T->gV->Z1->Prop:=λx ts H Q=>match x,ts with
 |.ref a,[.ref b]=>match H a,H b with
  |some (.lst xs),ab (.lst ys)=>xs.length+ys.length<=ai/\Q .non (eH H a (.lst (xs++ys)))
  |_,_=>False
 |_,_=>False
theorem Ce:sX X "list.extend" Ob:=by
 refine E7.imp BK ?_;rintro x xs H Q ⟨o,ts,H3,q,g,f,i,h,k⟩
 match o,ts,h,g,f with
 |.ref a,[.ref b],h,g,f =>
 obtain⟨v,rfl,m⟩:=f.one';have h':(match H3 a,H3 b with
  |some (.lst xs),ab (.lst c)=>xs.length+c.length<=ai/\q .non (eH H3 a (.lst (xs++c)))
  |_,_=>False):=h
 split at h'
 .rename_i s t l n;obtain⟨c,e,r⟩:=i a _ l;obtain⟨p,d,j⟩:=i b _ n;exact⟨a,b,c,p,g.ref,by rw[m.ref],e,d,by rw[<- r.length,<- j.length];exact h'.1,k _ _ _ _ (bC (by rw[e];exact trivial)) (i.wrL e (r.append j)) .ofNon h'.2⟩
 exact h'.elim
def zH:T->List T->gV->Z1->Prop:=λx ts H Q=>match x,ts with
 |.ref a,[.int i]=>match H a with
  |some (.lst xs)=>oq (BH xs.length i) λj=>oq (xs[j]?) λt=>Q t (eH H a (.lst (xs.eraseIdx j)))
  |_=>False
 |_,_=>False
theorem Fe:sX X "list.pop" zH:=by
 intro b s Z H x xs v us Q I d g C;obtain⟨B,ts,H3,q,f,m,u,h,k⟩:=C;refine Eb b s Z H x xs v us Q I d g ?_
 match B,ts,h,f,m with
 |.ref a,[.int i],h,f,m =>
 obtain⟨w,rfl,F⟩:=m.one';have h':(match H3 a with
  |some (.lst xs)=>oq (BH xs.length i) λj=>oq (xs[j]?) λt=>q t (eH H3 a (.lst (xs.eraseIdx j)))
  |_=>False):=h
 split at h'
 .rename_i n e;obtain⟨z,c,r⟩:=u a _ e;have hz:=(I.lstM c).1;cases l:BH n.length i with
  |none=>rw[l] at h';exact h'.elim
  |some j =>
  rw[l] at h';cases o:n[j]? with
  |none=>simp only[oq,o] at h'
  |some t =>
   have A:q t (eH H3 a (.lst (n.eraseIdx j))):=by simpa only[oq,o] using h'
   obtain⟨D,M,L,O⟩:=sH l
   obtain⟨y,E,J⟩:=r.get o
   have G:=r.length
   have N:=eV
   have p:R7 X.K H (zw H a (.lst (z.eraseIdx j))):=bC (by rw[c];exact trivial)
   exact⟨a,z,i,j,y,f.ref,by rw[F.int],c,yT,yT,by rw[<- G];exact D,E,k _ _ _ _ p (u.wrL c (r.eraseIdx j)) (J.mono p) A⟩
 exact h'.elim
def zJ:T->List T->gV->Z1->Prop:=λx ts H Q=>match x,ts with
 |.str z,[.str y]=>match bp z y 0 z.length 1 with
  |i::_=>Q (.int i) H
  |[]=>False
 |_,_=>False
theorem Ff:sX X "str.index" zJ:=by
 intro f s Z H x xs v us Q I a d j;obtain⟨m,ts,H3,n,c,b,o,h,k⟩:=j
 match m,ts,h,c,b with
 |.str z,[.str y],h,c,b =>
 obtain⟨w,rfl,l⟩:=b.one';obtain⟨u,rfl,g⟩:=AQ d;rw[l.str] at g;obtain⟨t',rfl⟩:=g;rw[c.str] at a;obtain⟨t,rfl⟩:=a;have h':(match bp z y 0 z.length 1 with
  |i::_=>n (.int i) H3
  |[]=>False):=h
 split at h'
 .rename_i i zk e;exact SC.index e ⟨.int i,H,I.tok _,⟨_,rfl⟩,k _ _ _ _ .refl o .ofInt h'⟩
 exact h'.elim
end
def BA (n0:List (ap × ev)) (N:List ap) (b:Bool) (a:List (ap × ev)) (N':List ap) (nt:Nat) (cap:List Nat):Bool :=
 b&&a.all (λy=>y.2 != .cell||a.lookup y.1==ab .cell)&&a.all (λx=>x.2 != .local||a.lookup x.1==ab .local)&&a.all (λy=>y.2 != .free||n0.lookup y.1==ab .cell||n0.lookup y.1==ab .free)
  && N'.length==nt+cap.length&&(ae cap.length).all λj=>match N'[nt+j]?,cap[j]? with
   |some x,ab i=>N[i]?==ab x&&a.lookup x==ab .free
   |_,_=>am
theorem bz (l:X.env.scope.names=n0) (d:X.N=N) (h:BA n0 N (scope.kind==.function) scope.names N' nt cap=ag):IE X N' nt cap scope:=by
 unfold BA at h;simp only[CL,W_,Gc,bne_iff_ne,kX,K_] at h;obtain⟨⟨⟨⟨⟨o,g⟩,p⟩,m⟩,n⟩,k⟩:=h;refine⟨o,λy a e=>(g y a).resolve_left λz=>z e,λx c e=>(p x c).resolve_left λz=>z e,λy a e=>?_,n,λj x e=>?_⟩
 .show X.env.scope.names.lookup y.1=_\/X.env.scope.names.lookup y.1=_;rw[l];rcases m y a with (z | z) | z
  .exact As e z
  .exact .inl z
  exact .inr z
 have f:j<cap.length:=by have:=(HV.mp e).1;omega
 have q:=k j f;rw[e] at q;cases b:cap[j]? with
 |none=>rw[b] at q;cases q
 |some i =>
 rw[b] at q;simp only[CL,Gc] at q;exact⟨i,rfl,by rw[d];exact q.1,q.2⟩
def RD (n00 a:List (ap × ev)):List (ap × ev):=a.map λ(n,k)=>if (k==c8&&n00.lookup n==ab .cell)=ag then (n,ef) else (n,k)
theorem zK (i:X.env.scope.names=n00) (j:X.env.scope.kind=.function) (d:c=N) (h:BA (RD n00 a.names) N (scope.kind==.function) scope.names N' nt cap=ag):IE (bY X c a g b s H C f) N' nt cap scope:=by
 refine bz (n0:=RD n00 a.names) (N:=N) ?_ d h;show (oB a X.env).names=_;unfold oB RD;dsimp only;refine C7 λy l=>?_;obtain⟨n,k⟩:=y;have e:X.env.kindOf n=n00.lookup n:=by unfold Env.kindOf;rw[i]
 simp only[e,j,beq_self_eq_true,NA]
structure G3 (K:a3) (mg:ap->Option av) (x:ap) (st:eB) (ps:List ap) (f:ah) (fd:de):Prop where
 fn:GT K x x st f fd
 b:AS K fd ps []
 m:mg x=ab (.ref f)
structure Bl (mg:ap->Option av):Prop where
 len_:mg "len"=af
 sum_:mg "sum"=af
 isinstance_:mg "isinstance"=af
 all_:mg "all"=af
 any_:mg "any"=af
 list_:mg "list"=af
 tuple_:mg "tuple"=af
 int_:mg "int"=af
 str_:mg "str"=af
 bool_:mg "bool"=af
 range_:mg "range"=af
 zip_:mg "zip"=af
 reversed_:mg "reversed"=af
 enumerate_:mg "enumerate"=af
 set_:mg "set"=af
 sorted_:mg "sorted"=af
 min_:mg "min"=af
 max_:mg "max"=af
 dict_:mg "dict"=af
 repr_:mg "repr"=af
theorem cg:ba "len"=ab (.builtin "len"):=by decide +kernel
theorem lw:ba "sum"=ab (.builtin "sum"):=by decide +kernel
theorem RG:ba "any"=ab (.builtin "any"):=by decide +kernel
theorem jT:ba "list"=ab (.type "list"):=by decide +kernel
theorem bT:ba "tuple"=ab (.type "tuple"):=by decide +kernel
theorem RJ:ba "int"=ab (.type "int"):=by decide +kernel
theorem Pr.u30 (r:Pr k A):A.units+30<db:=by have:=r.un;omega
theorem Pr.u31 (r:Pr k A):A.units+31<db:=by have:=r.un;omega
theorem Pr.u1 (r:Pr k A):A.units+1<db:=by have:=r.un;omega
def vq (o:Option (Option T)) (Q:T->Prop):Prop:=match o with
 |some (ab t)=>Q t
 |_=>False
theorem aae (t:T) (Q:T->Prop):vq (ab (ab t)) Q=Q t:=rfl
theorem Fg (i:Nat):uW i Z H Q=vq (Z[i]?) λt=>Q t H:=rfl
def bq (x:T) (Q:Bool->Prop):Prop:=match x with
 |.bl k=>Q k
 |_=>False
theorem gJ (b:Bool) (Q:Bool->Prop):bq (.bl b) Q=Q b:=rfl
theorem RK (t:zS) (Q:Bool->gV->Prop):lg t Z H Q=t Z H λx H'=>bq x λk=>Q k H':=rfl
theorem RL (a b:zS):Ek a b Z H Q=a Z H λx d=>bq x λc=>if c=ag then b Z d Q else Q (.bl am) d:=rfl
theorem WP (a b:zS):Nx a b Z H Q=a Z H λx d=>bq x λc=>if c=ag then Q (.bl ag) d else b Z d Q:=rfl
theorem iu (v:a) (Q:a->Prop):oq (ab v) Q=Q v:=rfl
theorem q_I (C:Int->Int->Prop) (g:Int->Int->T) (i j:Int):Ic C g (.int i) (.int j) H Q=(C i j/\Q (g i j) H):=rfl
theorem aaf (g:Int->Int->T) (i j:Int):tE g (.int i) (.int j) H Q=Q (g i j) H:=rfl
theorem Fi (i j:Int):q8 (.int i) (.int j) H Q=Q (.int (i+j)) H:=rfl
theorem RM (i j:ap):q8 (.str i) (.str j) H Q=(i.length+j.length<=ai/\Q (.str (i++j)) H):=rfl
theorem RN (xs a:List T):q8 (.tup xs) (.tup a) H Q=(xs.length+a.length<=ai/\Q (.tup (xs++a)) H):=rfl
def WQ (o u:Option O3) (H:gV) (Q:Z1):Prop:=match o,u with
 |some (.lst xs),ab (.lst ys)=>xs.length+ys.length<=ai/\∀p,H p=af->Q (.ref p) (eH H p (.lst (xs++ys)))
 |_,_=>False
theorem Fj (a b:ah):q8 (.ref a) (.ref b) H Q=WQ (H a) (H b) H Q:=rfl
theorem lz (xs a:List T):WQ (ab (.lst xs)) (ab (.lst a)) H Q=(xs.length+a.length<=ai/\∀p,H p=af->Q (.ref p) (eH H p (.lst (xs++a)))):=rfl
theorem Oc (n:Bool) (i j:Int):vh n (.int i) (.int j) H Q=Q (.bl (if n then !decide (i=j) else decide (i=j))) H:=rfl
theorem WR (n:Bool) (i j:ap):vh n (.str i) (.str j) H Q=Q (.bl (if n then !decide (i=j) else decide (i=j))) H:=rfl
theorem WT (n:Bool) (i j:Bool):vh n (.bl i) (.bl j) H Q=Q (.bl (if n then !decide (i=j) else decide (i=j))) H:=rfl
theorem WW (n:Bool) (xs a:List T):vh n (.tup xs) (.tup a) H Q=(xs.all (pl 20)=ag/\a.all (pl 20)=ag/\Q (.bl (if n then !decide (xs=a) else decide (xs=a))) H):=rfl
def TU (n:Bool) (a b:ah) (o u:Option O3) (H:gV) (Q:Z1):Prop:=match o,u with
 |some (.lst xs),ab (.lst ys)=>a≠b/\xs.all (pl 20)=ag/\ys.all (pl 20)=ag/\Q (.bl (if n then !@decide (xs=ys) (instDecidableEqList xs ys) else @decide (xs=ys) (instDecidableEqList xs ys))) H
 |_,_=>False
theorem WX (n:Bool) (a b:ah):vh n (.ref a) (.ref b) H Q=TU n a b (H a) (H b) H Q:=rfl
theorem zL (n:Bool) (a b:ah) (xs c:List T):TU n a b (ab (.lst xs)) (ab (.lst c)) H Q=(a≠b/\xs.all (pl 20)=ag/\c.all (pl 20)=ag/\Q (.bl (if n then !decide (xs=c) else decide (xs=c))) H):=rfl
theorem Od (n:Bool) (x:T) (ts:List T):vm n x (.tup ts) H Q=(pl 20 x=ag/\ts.all (pl 20)=ag/\Q (.bl (di n x ts)) H):=rfl
theorem WY (n:Bool) (i j:ap):vm n (.str i) (.str j) H Q=Q (.bl (U1 n i j)) H:=rfl
def UB (n:Bool) (x:T) (o:Option O3) (H:gV) (Q:Z1):Prop:=match o with
 |some (.lst ts)=>pl 20 x=ag/\ts.all (pl 20)=ag/\Q (.bl (di n x ts)) H
 |some (.rol ts)=>pl 20 x=ag/\ts.all (pl 20)=ag/\Q (.bl (di n x ts)) H
 |_=>False
theorem Fl (n:Bool) (x:T) (a:ah):vm n x (.ref a) H Q=UB n x (H a) H Q:=rfl
theorem Fo (n:Bool) (x:T) (ts:List T):UB n x (ab (.lst ts)) H Q=(pl 20 x=ag/\ts.all (pl 20)=ag/\Q (.bl (di n x ts)) H):=rfl
def SF (o:Option O3) (i:Int) (H:gV) (Q:Z1):Prop:=match o with
 |some (.lst ts)=>oq (AA ts i) λt=>Q t H
 |some (.rol ts)=>oq (AA ts i) λt=>Q t H
 |_=>False
theorem W0 (a:ah) (i:Int):vo (.ref a) (.int i) H Q=SF (H a) i H Q:=rfl
theorem W3 (ts:List T) (i:Int):SF (ab (.lst ts)) i H Q=oq (AA ts i) λt=>Q t H:=rfl
theorem W4 (ts:List T) (i:Int):vo (.tup ts) (.int i) H Q=oq (AA ts i) λt=>Q t H:=rfl
theorem W5 (z:ap) (i:Int):vo (.str z) (.int i) H Q=(z.length<=ai/\oq (AA z.cps.toList i) λc=>Q (.str ⟨#[c]⟩) H):=rfl
def T2 (o:Option O3) (a:ah) (k:Int) (v:T) (H:gV) (Q:gV->Prop):Prop:=match o with
 |some (.lst ts)=>oq (BH ts.length k) λj=>Q (eH H a (.lst (ts.set j v)))
 |_=>False
theorem RP (a:ah) (k:Int) (v:T) (Q:gV->Prop):Ez (.ref a) (.int k) v H Q=T2 (H a) a k v H Q:=rfl
theorem W6 (ts:List T) (a:ah) (k:Int) (v:T) (Q:gV->Prop):T2 (ab (.lst ts)) a k v H Q=oq (BH ts.length k) λj=>Q (eH H a (.lst (ts.set j v))):=rfl
def pq (x:T) (Q:Option Int->Prop):Prop:=match x with
 |.int i=>Q (ab i)
 |_=>False
theorem aag (i:Int) (Q:Option Int->Prop):pq (.int i) Q=Q (ab i):=rfl
theorem RQ (t:zS) (Q:Option Int->gV->Prop):EY t Z H Q=t Z H λx a=>pq x λo=>Q o a:=rfl
def Sk (o:Option O3) (a b:Option Int) (H:gV) (Q:Z1):Prop:=match o with
 |some (.lst ts)=>∀p,H p=af->Q (.ref p) (eH H p (.lst (gC ts a b)))
 |some (.rol ts)=>∀p,H p=af->Q (.ref p) (eH H p (.lst (gC ts a b)))
 |_=>False
theorem W7 (a:ah) (b c:Option Int):J7 (.ref a) b c H Q=Sk (H a) b c H Q:=rfl
theorem Oe (ts:List T) (a b:Option Int):Sk (ab (.lst ts)) a b H Q=∀p,H p=af->Q (.ref p) (eH H p (.lst (gC ts a b))):=rfl
theorem RV (ts:List T) (a b:Option Int):Sk (ab (.rol ts)) a b H Q=∀p,H p=af->Q (.ref p) (eH H p (.lst (gC ts a b))):=rfl
theorem W8 (ts:List T) (a b:Option Int):J7 (.tup ts) a b H Q=(¬(HT.sIx ts.length 0 a=0/\HT.sIx ts.length ts.length b=ts.length)/\Q (.tup (gC ts a b)) H):=rfl
theorem W9 (z:ap) (b a:Option Int):J7 (.str z) b a H Q=(z.length<=ai/\Q (.str (j2 z b a)) H):=rfl
def UY (o:Option O3) (k:ap) (H:gV) (Q:Z1):Prop:=match o with
 |some (.dct kvs)=>oq (aP k kvs) λt=>Q t H
 |_=>False
theorem q_D (a:ah) (k:ap):VA (.ref a) (.str k) H Q=UY (H a) k H Q:=rfl
theorem Xa (kvs:List (ap × T)) (k:ap):UY (ab (.dct kvs)) k H Q=oq (aP k kvs) λt=>Q t H:=rfl
def UD (x y v:T) (H:gV) (Q:gV->Prop):Prop:=match x,y with
 |.ref a,.str k=>match H a with
  |some (.dct kvs)=>kvs.length<ai/\Q (eH H a (.dct (AT k v kvs)))
  |_=>False
 |_,_=>False
def UR (o:Option O3) (a:ah) (k:ap) (v:T) (H:gV) (Q:gV->Prop):Prop:=match o with
 |some (.dct kvs)=>kvs.length<ai/\Q (eH H a (.dct (AT k v kvs)))
 |_=>False
theorem RW (c a b:zS) (D:Rs):Fb c a b D Z H=b Z H λv d=>c Z d λx f=>a Z f λy H3=>UD x y v H3 λe=>D.nx Z e:=rfl
theorem Xb (a:ah) (k:ap) (v:T) (Q:gV->Prop):UD (.ref a) (.str k) v H Q=UR (H a) a k v H Q:=rfl
theorem Xc (kvs:List (ap × T)) (a:ah) (k:ap) (v:T) (Q:gV->Prop):UR (ab (.dct kvs)) a k v H Q=(kvs.length<ai/\Q (eH H a (.dct (AT k v kvs)))):=rfl
def UH (o:Option O3) (H:gV) (Q:Z1):Prop:=match o with
 |some (.lst xs)=>Q (.int xs.length) H
 |some (.rol xs)=>Q (.int xs.length) H
 |_=>False
theorem RX (a:ah):zG [.ref a] H Q=UH (H a) H Q:=rfl
theorem Xd (xs:List T):UH (ab (.lst xs)) H Q=Q (.int xs.length) H:=rfl
theorem RZ (xs:List T):zG [.tup xs] H Q=Q (.int xs.length) H:=rfl
theorem Sd (z:ap):zG [.str z] H Q=(z.length<=ai/\Q (.int z.length) H):=rfl
def UM (o:Option O3) (H:gV) (Q:Z1):Prop:=match o with
 |some (.lst xs)=>∀p,H p=af->Q (.ref p) (eH H p (.lst xs))
 |some (.rol xs)=>∀p,H p=af->Q (.ref p) (eH H p (.lst xs))
 |_=>False
theorem zM (a:ah):tH [.ref a] H Q=UM (H a) H Q:=rfl
theorem Og (xs:List T):UM (ab (.lst xs)) H Q=∀p,H p=af->Q (.ref p) (eH H p (.lst xs)):=rfl
theorem zN (xs:List T):tH [.tup xs] H Q=∀p,H p=af->Q (.ref p) (eH H p (.lst xs)):=rfl
def UQ (o:Option O3) (H:gV) (Q:Z1):Prop:=match o with
 |some (.lst xs)=>Q (.tup xs) H
 |some (.rol xs)=>Q (.tup xs) H
 |_=>False
theorem Sg (a:ah):tL [.ref a] H Q=UQ (H a) H Q:=rfl
theorem Xe (xs:List T):UQ (ab (.lst xs)) H Q=Q (.tup xs) H:=rfl
theorem Sh (xs:List T):tL [.tup xs] H Q=Q (.tup xs) H:=rfl
theorem Sq (i:Int):Fd [.int i] H Q=Q (.int i) H:=rfl
theorem Ss (b:Bool):Fd [.bl b] H Q=Q (.int (if b then 1 else 0)) H:=rfl
def UZ (o:Option O3) (H:gV) (Q:Z1):Prop:=match o with
 |some (.lst xs)=>oq (zv xs) λns=>Q (.int ns.sum) H
 |some (.rol xs)=>oq (zv xs) λns=>Q (.int ns.sum) H
 |_=>False
theorem Su (a:ah):N7 [.ref a] H Q=UZ (H a) H Q:=rfl
theorem Xf (xs:List T):UZ (ab (.lst xs)) H Q=oq (zv xs) λns=>Q (.int ns.sum) H:=rfl
theorem Xg (a:String) (z:ap):OF a (.str z) H=(a="str"):=rfl
def VI (o:Option O3):Prop:=match o with
 |some (.lst _)=>True
 |some (.rol _)=>True
 |_=>False
theorem Xh (b:String) (a:ah):OF b (.ref a) H=(b="list"/\VI (H a)):=rfl
theorem Xi (xs:List T):VI (ab (.lst xs))=True:=rfl
def VE (o:Option O3) (a:ah) (t:T) (H:gV) (Q:Z1):Prop:=match o with
 |some (.lst xs)=>xs.length<ai/\Q .non (eH H a (.lst (xs++[t])))
 |_=>False
theorem Xj (a:ah) (t:T):Oa (.ref a) [t] H Q=VE (H a) a t H Q:=rfl
theorem Oh (xs:List T) (a:ah) (t:T):VE (ab (.lst xs)) a t H Q=(xs.length<ai/\Q .non (eH H a (.lst (xs++[t])))):=rfl
def UI (o u:Option O3) (a:ah) (H:gV) (Q:Z1):Prop:=match o,u with
 |some (.lst xs),ab (.lst ys)=>xs.length+ys.length<=ai/\Q .non (eH H a (.lst (xs++ys)))
 |_,_=>False
theorem Xk (a b:ah):Ob (.ref a) [.ref b] H Q=UI (H a) (H b) a H Q:=rfl
theorem Oi (xs b:List T) (a:ah):UI (ab (.lst xs)) (ab (.lst b)) a H Q=(xs.length+b.length<=ai/\Q .non (eH H a (.lst (xs++b)))):=rfl
def U2 (o:Option O3) (a:ah) (i:Int) (H:gV) (Q:Z1):Prop:=match o with
 |some (.lst xs)=>oq (BH xs.length i) λj=>oq (xs[j]?) λt=>Q t (eH H a (.lst (xs.eraseIdx j)))
 |_=>False
theorem Xl (a:ah) (i:Int):zH (.ref a) [.int i] H Q=U2 (H a) a i H Q:=rfl
theorem Xm (xs:List T) (a:ah) (i:Int):U2 (ab (.lst xs)) a i H Q=oq (BH xs.length i) λj=>oq (xs[j]?) λt=>Q t (eH H a (.lst (xs.eraseIdx j))):=rfl
def VC (o:List Nat) (H:gV) (Q:Z1):Prop:=match o with
 |i::_=>Q (.int i) H
 |[]=>False
theorem Ka (z y:ap):zJ (.str z) [.str y] H Q=VC (bp z y 0 z.length 1) H Q:=rfl
theorem Xn (i:Nat) (r:List Nat):VC (i::r) H Q=Q (.int i) H:=rfl
def SD (vs:List T) (H:gV) (R:List T->(gV->Prop)->gV->Prop):Prop:=match vs with
 |[.int j]=>-(2^62)<=j/\j<2^62/\R (dM 0 j.toNat) cC H
 |[.int i,.int j]=>(-(2^62)<=i/\i<2^62 /\ -(2^62)<=j/\j<2^62)/\R (dM i (j - i).toNat) cC H
 |_=>False
theorem Xo (a:DM) (R:List T->(gV->Prop)->gV->Prop):Er a Z H R=a Z H λvs b=>SD vs b R:=rfl
theorem Xp (j:Int) (R:List T->(gV->Prop)->gV->Prop):SD [.int j] H R=(-(2^62)<=j/\j<2^62/\R (dM 0 j.toNat) cC H):=rfl
theorem Xq (i j:Int) (R:List T->(gV->Prop)->gV->Prop):SD [.int i,.int j] H R=((-(2^62)<=i/\i<2^62 /\ -(2^62)<=j/\j<2^62)/\R (dM i (j - i).toNat) cC H):=rfl
def UA (x:T) (H:gV) (R:List T->(gV->Prop)->gV->Prop):Prop:=match x with
 |.tup ts=>R ts cC H
 |_=>False
theorem Sv (a:zS) (R:List T->(gV->Prop)->gV->Prop):NT a Z H R=a Z H λx b=>UA x b R:=rfl
theorem Oj (ts:List T) (R:List T->(gV->Prop)->gV->Prop):UA (.tup ts) H R=R ts cC H:=rfl
def Nn (x:T) (H:gV) (R:List T->(gV->Prop)->gV->Prop):Prop:=match x with
 |.ref a=>match H a with
  |some (.lst ts)=>R ts (bZ a ts) H
  |some (.rol ts)=>R ts (bZ a ts) H
  |_=>False
 |_=>False
def PV (o:Option O3) (a:ah) (H:gV) (R:List T->(gV->Prop)->gV->Prop):Prop:=match o with
 |some (.lst ts)=>R ts (bZ a ts) H
 |some (.rol ts)=>R ts (bZ a ts) H
 |_=>False
theorem Kc (a:zS) (R:List T->(gV->Prop)->gV->Prop):Eo a Z H R=a Z H λx b=>Nn x b R:=rfl
theorem rA (a:ah) (R:List T->(gV->Prop)->gV->Prop):Nn (.ref a) H R=PV (H a) a H R:=rfl
theorem lX (ts:List T) (a:ah) (R:List T->(gV->Prop)->gV->Prop):PV (ab (.lst ts)) a H R=R ts (bZ a ts) H:=rfl
theorem Sw (Q:AJ->gV->Prop):zx [] Z H Q=Q Z H:=rfl
theorem Kd (t:ED) (u:oh) (x:T) (r:List T) (Q:AJ->gV->Prop):jB t u (x::r) Z H Q=t x Z H λa H'=>u r a H' Q:=rfl
theorem Sx (n:Nat) (g:oh) (ts:List T) (Q:AJ->gV->Prop):uX n g (.tup ts) Z H Q=(ts.length=n/\g ts Z H Q):=rfl
theorem tM (h:j<n):BH n (j:Int)=ab j:=by
 unfold BH;rw[zi (Lc j),zi yT,F3]
theorem WO (a:b) (r:List b):AA (a::r) 0=ab a:=bQ (j:=0) rfl
theorem VO (a b:c) (r:List c):AA (a::b::r) 1=ab b:=bQ (j:=1) rfl
theorem N9 (a b c:d) (r:List d):AA (a::b::c::r) 2=ab c:=bQ (j:=2) rfl
theorem UK (a b c d:e) (r:List e):AA (a::b::c::d::r) 3=ab d:=bQ (j:=3) rfl
theorem vz (xs:List b) (i:Int) (c:0<=i) (d:i<xs.length):∃z,z∈xs/\AA xs i=ab z:=by
 obtain⟨j,rfl⟩:=kf c;have a:j<xs.length:=yT
 exact⟨xs[j],C6 a,bQ (g_ a)⟩
theorem oO (f:a->b) (xs:List a) (i:Int):AA (xs.map f) i=(AA xs i).map f:=by
 unfold AA;rw[d_];cases BH xs.length i with
 |none=>rfl
 |some j=>simp
theorem m6 (I:List T->AJ->gV->Prop) (c:I ts Z H) (e:∀Z H,I [] Z H->still H/\D.nx Z H) (f:∀t r Z H (N:AJ->gV->Prop),I (t::r) Z H->(∀a H',I r a H'->N a H')->still H/\g t Z H λZ2 H2=>b { D with nx:=N,ct:=N,bk:=D.nx} Z2 H2):DU g b D still ts Z H:=by
 induction ts generalizing Z H with
 |nil=>exact e Z H c
 |cons t r d=>exact f t r Z H (DU g b D still r) c λa H' h=>d h
theorem iK (I:List T->List T->AJ->gV->Prop) (f:I ts a Z H) (j:∀a Z H,I [] a Z H->still H/\a.length<=ai/\d a H) (k:∀t r a Z H (N:List T->AJ->gV->Prop),I (t::r) a Z H->(∀c e H',I r c e H'->N c e H') ->
   still H/\g t Z H λZ2 H2=>tt Z2 H2 λb H3=>if b=ag then te Z2 H3 λy H4=>a.length<ai/\N (a++[y]) Z2 H4 else N a Z2 H3):C4 g tt te still d ts a Z H:=by
 induction ts generalizing Z H a with
 |nil=>exact j a Z H f
 |cons t r i=>exact k t r a Z H (C4 g tt te still d r) f λc e H' h=>i h
theorem W1 (n:Nat):HT.sIx n 0 af=0:=rfl
theorem Sy {k:Nat}:gC ts af (ab (k:Int))=ts.take k:=by
 unfold gC;rw[W1,HT.af5,wx,Nat.sub_zero];by_cases h:k<=ts.length
 .rw[fF h]
 rw[r4 yT,fh,M0 yT]
theorem Fp {k:Nat}:gC ts (ab (k:Int)) af=ts.drop k:=by
 unfold gC;rw[HT.agy,HT.af5];by_cases h:k<=ts.length
 .rw[fF h,M0 ze]
 rw[r4 yT,e7 (l_ _),e7 yT,xt]
theorem cA (h:eH H a o b=af):b≠a/\H b=af:=by
 by_cases e:b=a
 .subst e;rw[aC] at h;cases h
 rw[aD e] at h;exact⟨e,h⟩
theorem Fq (h:a≠b):eH (eH H a o) b u=eH (eH H b u) a o:=by
 funext c;by_cases e:c=b
 .subst e;rw[aC,aD (aS h),aC]
 rw[aD e];by_cases d:c=a
 .subst d;rw[aC,aC]
 rw[aD d,aD d,aD e]
theorem bO {m:Type} (d f:m->T) (g:List m) (zk:AJ) (h:still H) (q:g.length<=ai) (p:∀a∈g,∀Q:Z1,Q (f a) H->te (ab (d a)::zk) H Q) (i:k (g.map f) H):C4 (eX 0) zy te still k (g.map d) [] (v::zk) H:=by
 refine iK (λr n Z H'=>∃(e j:List m) (v:Option T),Z=v::zk/\r=e.map d/\n=j.map f/\j++e=g/\H'=H) ⟨g,[],v,rfl,rfl,rfl,rfl,rfl⟩ ?_ ?_
 .rintro n Z H' ⟨e,j,v,rfl,c,rfl,b,rfl⟩;have l:e=[]:=MG.mp c.symm;subst l;rw[X_] at b;subst b;exact⟨h,by rw[d_];exact q,i⟩
 rintro x r n Z H' N ⟨e,j,v,rfl,c,rfl,b,rfl⟩ o;cases e with
 |nil=>cases c
 |cons t e =>
 injection c with e1 e2;subst e1 e2;refine⟨h,?_⟩;show te (ab (d t)::zk) H' _;refine p t (by rw[<- b];simp) _ ⟨?_,o _ _ _ ⟨e,j++[t],_,rfl,rfl,ze,by rw[<- b];simp,rfl⟩⟩;have:=Q_ aT b;simp only[b_,j_] at this;rw[d_];omega
def cU:List T->Option (List Bool)
 |[]=>ab []
 |.bl x::r=>(cU r).map (x::·)
 |_=>af
theorem oR:∀(ns:List Bool),cU (ns.map T.bl)=ab ns
 |[]=>rfl
 |n::r=>by simp [cU,oR r]
theorem lY {K:a3}:∀{ts:List T}{xs:List V}{us:List av}{c:List Bool},cU ts=ab c->jj K H ts xs->y7 xs us->us=c.map ff
 |[],xs,us,c,e,r,v=>by
  cases e
  rw[r.inv0] at v
  cases v
  rfl
 |.bl i::l,xs,us,c,e,r,v=>by
  obtain⟨x,h,rfl,g,f⟩:=r.inv
  cases v with
  |cons a b =>
   rw[g.bl] at a
   cases d:cU l with
   |none=>simp [cU,d] at e
   |some j =>
    simp [cU,d] at e
    subst e
    cases a
    rw[lY d f b]
    rfl
 |.non::_,_,_,_,e,_,_=>by simp [cU] at e
 |.int _::_,_,_,_,e,_,_=>by simp [cU] at e
 |.str _::_,_,_,_,e,_,_=>by simp [cU] at e
 |.tup _::_,_,_,_,e,_,_=>by simp [cU] at e
 |.ref _::_,_,_,_,e,_,_=>by simp [cU] at e
 |.ty _::_,_,_,_,e,_,_=>by simp [cU] at e
def YV:T->Option z5
 |.int i=>ab (.inl i)
 |.str x=>ab (.inr x)
 |_=>af
def Ft:List T->Option (List z5)
 |[]=>ab []
 |t::r=>match YV t,Ft r with
  |some k,ab ks=>ab (k::ks)
  |_,_=>af
def Ol (k:List z5):List (List z5 × T)->Option T
 |[]=>af
 | (k',v)::r=>if k'=k then ab v else Ol k r
def XU (k:List z5) (v:T) (kvs:List (List z5 × T)):List (List z5 × T) :=
 if (kvs.any λa=>decide (a.1=k))=ag then kvs.map (λa=>if a.1=k then (a.1,v) else a) else kvs++[(k,v)]
def Zs (o:Option O3) (ts:List T) (H:gV) (Q:Z1):Prop:=match o with
 |some (.dcp kvs)=>oq (Ft ts) λa=>oq (Ol a kvs) λt=>Q t H
 |_=>False
def XZ (x:T) (ts:List T) (H:gV) (Q:Z1):Prop:=match x with
 |.ref a=>Zs (H a) ts H Q
 |_=>False
def Ke (b:zS) (a:DM):zS:=λZ H Q=>b Z H λx c=>a Z c λts d=>ts.length<=ai/\XZ x ts d Q
def XT (o:Option O3) (a:ah) (ts:List T) (v:T) (H:gV) (Q:gV->Prop):Prop:=match o with
 |some (.dcp kvs)=>oq (Ft ts) λb=>kvs.length<ai/\Q (eH H a (.dcp (XU b v kvs)))
 |_=>False
def XY (x:T) (ts:List T) (v:T) (H:gV) (Q:gV->Prop):Prop:=match x with
 |.ref a=>XT (H a) a ts v H Q
 |_=>False
def Kf (e:zS) (d:DM) (c:zS):BY:=λD Z H=>c Z H λv a=>e Z a λx f=>d Z f λts H3=>ts.length<=ai/\XY x ts v H3 λb=>D.nx Z b
section
variable {H:gV}{Q:Z1}
variable {X:Cx}{o i k value:Expr}
def Fv:zS:=λ_ H Q=>∀p,H p=af->Q (.ref p) (eH H p (.dct []))
def Kg:zS:=λ_ H Q=>∀p,H p=af->Q (.ref p) (eH H p (.dcp []))
theorem xr.newD {K:a3}{H:Hp} (s:xr K H3 H) (c:H p=af):xr K (eH H3 p (.dct [])) (zw H p (.dK [])):=λa o e=>by
 by_cases b:a=p
 .subst b;rw[aC] at e;cases e;exact⟨[],bR,.nil⟩
 rw[aD b] at e;exact s.new c a o e
theorem m7:Z7 X (.Dict [] [] ZT) Fv:=by
 refine PE.imp uT ?_;rintro Z H Q ⟨e,H3,d,c,b,h,k⟩ p a;exact k _ _ _ _ (aO a) (b.newD a) .ofRef (h p (b.fresh a))
def UX (y:T) (p:ah) (v:T) (H:gV) (Q:Z1):Prop:=match y with
 |.str k=>H p=ab (.dct [])/\Q (.ref p) (eH H p (.dct [(k,v)]))
 |_=>False
def Fw (tk a:zS):zS:=λZ H Q=>∀p,H p=af->tk Z (eH H p (.dct [])) λy c=>a Z c λv b=>UX y p v b Q
theorem Xr (x:ap) (p:ah) (v:T):UX (.str x) p v H Q=(H p=ab (.dct [])/\Q (.ref p) (eH H p (.dct [(x,v)]))):=rfl
theorem Fx (C:Z7 X k tk) (t:Z7 X v tv):Z7 X (.Dict [ab k] [v] ZT) (Fw tk tv):=by
 refine PE.imp (zj (uU C t zg) rfl rfl ze (by show 1<=15;decide)) ?_;rintro Z H Q ⟨n,H3,w,m,o,h,k⟩ p g;have a:R7 X.K H (zw H p (.dK [])):=aO g;refine⟨n,eH H3 p (.dct []),_,m.mono a,o.newD g,h p (o.fresh g),λy D A j b l B u=>?_⟩;refine⟨n,j,_,m.mono (a.trans b),l,u,λz E s f c d x q=>?_⟩;cases A with
 |str key =>
  have h':f p=ab (.dct [])/\w (.ref p) (eH f p (.dct [(key,s)])):=q
  obtain⟨ws,i,r⟩:=d p _ h'.1
  cases r
  refine⟨i,[(ca key,z)],by rw[(B.mono c).str];rfl,by show 1<=15;decide,?_⟩
  have e:jz [] [((ca key:z5),z)]=[((ca key:z5),z)]:=rfl
  rw[e]
  exact k _ _ _ _ (a.trans (b.trans (c.trans (bC (by rw[i];exact trivial))))) (d.wrD i (.cons ⟨rfl,x⟩ .nil)) .ofRef h'.2
 |_=>exact q.elim
def Po (a:Bool) (y:T) (o:Option O3) (H:gV) (Q:Z1):Prop:=match y,o with
 |.str k,ab (.dct kvs)=>Q (.bl (if a then !(aP k kvs).isSome else (aP k kvs).isSome)) H
 |_,_=>False
def Sj (b:Bool) (y x:T) (H:gV) (Q:Z1):Prop:=match x with
 |.ref a=>Po b y (H a) H Q
 |_=>False
def Fy (a:Bool) (b e:zS):zS:=λZ H Q=>b Z H λy c=>e Z c λx d=>Sj a y x d Q
theorem Xu (b:Bool) (y:T) (a:ah):Sj b y (.ref a) H Q=Po b y (H a) H Q:=rfl
theorem Xv (a:Bool) (k:ap) (kvs:List (ap × T)):Po a (.str k) (ab (.dct kvs)) H Q=Q (.bl (if a then !(aP k kvs).isSome else (aP k kvs).isSome)) H:=rfl
theorem rB {K:a3}{H:Hp}{k:ap}:∀{kvs:List (ap × T)}{vs:List (z5 × V)},CC K H kvs vs->(fK vs (ca k:z5)).isSome=(aP k kvs).isSome
 |[],_,.nil=>rfl
 | (k',t')::r,_,.cons (b:=(kk,v')) ⟨e1,rv⟩ rr=>by
  simp only at e1 rv
  subst e1
  unfold aP
  by_cases a:k'=k
  ·
   rw[zi a,fL (by rw[a])];rfl
  ·
   rw[y9 a,fM (by intro z;exact a (iq z))]
   exact rB rr
theorem zO {H:Hp} (n:xr X.K H3 H) (l:zI X.K H f x) (j:zI X.K H d y) (q:Sj c d f H3 g):
  ∃a h b,x=.ref a/\Db H a y h/\(if c then !h.isSome else h.isSome)=b/\g (.bl b) H3:=by
 cases f with
 |ref a =>
  have h':Po c d (H3 a) H3 g:=q
  cases d with
  |str k =>
   cases e:H3 a with
   |none=>rw[e] at h';exact h'.elim
   |some m =>
    rw[e] at h'
    cases m with
    |dct kvs =>
     obtain⟨ws,i,r⟩:=n a _ e
     refine⟨a,fK ws (ca k:z5),_,l.ref,by rw[j.str];exact Db.k (k:=ca k) i,rfl,?_⟩
     rw[rB r]
     exact h'
    |_=>exact h'.elim
  |_=>exact h'.elim
 |_=>exact q.elim
theorem oU (t:X.A.units+1<db) (v:Z7 X i ti) (B:Z7 X o td) (s:cr .In o=am:=by rfl):D9 X (.Compare i [.In] [o] ZT) (lg (Fy am ti td)):=by
 refine PT.imp (xf (Rt t v B) s) ?_;rintro Z H Q ⟨p,H3,I,m,z,h,k⟩;refine⟨p,H3,_,m,z,h,λy F J j c l C u=>⟨p,j,_,m.mono c,l,u,λx K G E d f r D=>?_⟩⟩;obtain⟨a,n,b,e,g,w,q⟩:=zO f r (C.mono d) D;exact⟨a,n,e,g,b,by rw[show n.isSome=b from w],k _ _ _ (c.trans d) f q⟩
theorem lA (t:X.A.units+1<db) (v:Z7 X i ti) (B:Z7 X o td) (s:cr .NotIn o=am:=by rfl):D9 X (.Compare i [.NotIn] [o] ZT) (lg (Fy ag ti td)):=by
 refine PT.imp (xf (qW t v B) s) ?_;rintro Z H Q ⟨p,H3,I,m,z,h,k⟩;refine⟨p,H3,_,m,z,h,λy F J j c l C u=>⟨p,j,_,m.mono c,l,u,λx K G E d f r D=>?_⟩⟩;obtain⟨a,n,b,e,g,w,q⟩:=zO f r (C.mono d) D;exact⟨a,n,e,g,b,by rw[show (!n.isSome)=b from w],k _ _ _ (c.trans d) f q⟩
end
def Cg (x:T) (H:gV) (R:List T->(gV->Prop)->gV->Prop):Prop:=match x with
 |.tup ts=>R ts cC H
 |.ref a=>PV (H a) a H R
 |_=>False
theorem SJ (ts:List T):Cg (.tup ts) H R=R ts cC H:=rfl
theorem SM (a:ah):Cg (.ref a) H R=PV (H a) a H R:=rfl
def Fz (i:Nat):EJ:=λZ H R=>vq (Z[i]?) λx=>Cg x H R
theorem Kh (i:Nat):Fz i Z H R=vq (Z[i]?) λx=>Cg x H R:=rfl
theorem Kl {X:Cx}{p:Expr} (i:Nat) {f:kc} (g:X.N[i]?=ab x:=by rfl) (m:NI X.env.scope x:=by first | exact hG rfl | exact e4 (hG rfl) | exact e4 (e4 rfl)) (l:(x==("__debug__":ap))=am:=by decide) (d:(x==("__classdict__":ap))=am:=by decide):Fu X p (.Name x f) (Fz i):=by
 intro b s Z H R I q;obtain⟨c,H3,R3,j,n,h,k⟩:=q;have h':vq (c[i]?) λx=>Cg x H3 R3:=h;cases e:c[i]? with
 |none=>rw[e] at h';exact h'.elim
 |some o =>
 cases o with
 |none=>rw[e] at h';exact h'.elim
 |some t =>
 rw[e] at h';cases t with
 |tup ts=>exact bN (v3 i g m l d) b s Z H R I ⟨c,H3,R3,j,n,by show uW i c H3 _;rw[Fg,e];exact h',k⟩
 |ref a=>exact bJ (v3 i g m l d) b s Z H R I ⟨c,H3,R3,j,n,by show uW i c H3 _;rw[Fg,e];exact h',k⟩
 |_=>exact h'.elim
theorem aN {b:Type} (a:b->T) (xs:List b) (I:List b->AJ->gV->Prop) (k:I [] Z H) (i:∀Z H,I xs Z H->still H/\D.nx Z H) (j:∀A x B Z H (N:AJ->gV->Prop),xs=A++x::B->I A Z H->(∀c H',I (A++[x]) c H'->N c H')->still H/\g (a x) Z H λZ2 H2=>d { D with nx:=N,ct:=N,bk:=D.nx} Z2 H2):DU g d D still (xs.map a) Z H:=by
 have:∀(B A:List b) (Z:AJ) (H:gV),xs=A++B->I A Z H->DU g d D still (B.map a) Z H:=by
  intro B;induction B with
  |nil=>intro A Z H e h;rw[X_] at e;subst e;exact i Z H h
  |cons x B f =>
  intro A Z H e h;exact j A x B Z H (DU g d D still (B.map a)) e h λc H' h'=>f (A++[x]) c H' (by rw[e];simp) h'
 exact this xs [] Z H rfl k
theorem cP {i:Type} (c:i->T) (xs:List i) (I:List i->List T->AJ->gV->Prop) (n:I [] [] Z H) (l:∀a Z H,I xs a Z H->still H/\a.length<=ai/\f a H) (m:∀A x B a Z H (N:List T->AJ->gV->Prop),xs=A++x::B->I A a Z H->(∀d j H',I (A++[x]) d j H'->N d j H') ->
   still H/\g (c x) Z H λZ2 H2=>tt Z2 H2 λb H3=>if b=ag then te Z2 H3 λy H4=>a.length<ai/\N (a++[y]) Z2 H4 else N a Z2 H3):C4 g tt te still f (xs.map c) [] Z H:=by
 have:∀(B A:List i) (a:List T) (Z:AJ) (H:gV),xs=A++B->I A a Z H->C4 g tt te still f (B.map c) a Z H:=by
  intro B;induction B with
  |nil=>intro A a Z H e h;rw[X_] at e;subst e;exact l a Z H h
  |cons x B k =>
  intro A a Z H e h;exact m A x B a Z H (C4 g tt te still f (B.map c)) e h λd j H' h'=>k (A++[x]) d j H' (by rw[e];simp) h'
 exact this xs [] [] Z H rfl n
theorem FJ:fb (.type "tuple") "__reversed__"=bE af:=by rw[F6,F5];kernel_rfl
theorem Ci:isSubtype (.type "tuple") (.type "dict")=bE am:=by rw[G1];kernel_rfl
theorem Km:xo "reversed" "__init__" "object.__init__":=.of (owner:="object") (n:="__init__") (by rw[F6,F5];kernel_rfl) Ap Ap Ap
 (by first | exact .inr Ap | exact .inl Ap) (by rw[G1];kernel_rfl)
theorem NC:xo "reversed" "__next__" "reversed.__next__":=.of (owner:="reversed") (n:="__next__") (by rw[F6,F5];kernel_rfl) Ap Ap Ap
 (by first | exact .inr Ap | exact .inl Ap) (by rw[G1];kernel_rfl)
theorem zP:xo "reversed" "__iter__" "reversed.__iter__":=.of (owner:="reversed") (n:="__iter__") (by rw[F6,F5];kernel_rfl) Ap Ap Ap
 (by first | exact .inr Ap | exact .inl Ap) (by rw[G1];kernel_rfl)
theorem Rl:xo "reversed" "__length_hint__" "reversed.__length_hint__":=.of (owner:="reversed") (n:="__length_hint__") (by rw[F6,F5];kernel_rfl) Ap Ap Ap
 (by first | exact .inr Ap | exact .inl Ap) (by rw[G1];kernel_rfl)
theorem xR:Manifest.owners.lookup (xk ['d','e','s','r','e','v','e','r'].reverse)=ab Manifest.sig_reversed:=by kernel_rfl
theorem rC:gT tw "reversed.__next__"=ab cn.«reversed.__next__»:=fe AR
theorem Cj:gT tw "reversed.__length_hint__"=ab cn.«reversed.__length_hint__»:=fe AR
theorem Ck:gT tw "reversed.__iter__"=ab cn.«dict_keyiterator.__iter__» :=
 gS (id':="dict_keyiterator.__iter__") AR (by first | rfl | decide +kernel | (unfold lT;simp +decide [ix])) Ap AR
theorem rD (a:av):kz "reversed.__next__" ⟨[a],[]⟩:=by
 unfold kz;rw[No (id:="reversed.__next__") (n:=['_','_','t','x','e','n','_','_']) (o:=['d','e','s','r','e','v','e','r']) AR xR];kernel_rfl
theorem Cm (a:av):kz "reversed.__iter__" ⟨[a],[]⟩:=by
 unfold kz;rw[No (id:="reversed.__iter__") (n:=['_','_','r','e','t','i','_','_']) (o:=['d','e','s','r','e','v','e','r']) AR xR];kernel_rfl
theorem Cp (a:av):kz "reversed.__length_hint__" ⟨[a],[]⟩:=by
 unfold kz;rw[No (id:="reversed.__length_hint__") (n:=['_','_','t','n','i','h','_','h','t','g','n','e','l','_','_']) (o:=['d','e','s','r','e','v','e','r']) AR xR];kernel_rfl
theorem FN:fb (.type "reversed") "__len__"=bE af:=by rw[F6,F5];kernel_rfl
def Om (t:ah) (i:Int):dP:={ cls:=.type "reversed",data:=.fields #[.ref t,cq i]}
def D8 (h:cK) (a t:ah) (i:Int):Prop:=∃o,h.get? a=ab o/\o.cls=.type "reversed"/\o.data=.fields #[.ref t,cq i]
theorem D8.ty {s:aE} (x:D8 s.heap a t i):s.TypeIs (.ref a) "reversed":=let ⟨o,ho,hc,_⟩:=x;⟨o,ho,hc⟩
theorem qj (t:ah) (c:Array av) (hsz:c.size<=ai):Meets (cn.«reversed.__new__» ⟨[.type "reversed",.ref t],[]⟩) (λ_ R s=>s.heap.IsTuple t c /\
   ∀tk,s.toks<=tk->R (.ok (.ret (.ref s.heap.objs.size))) { s with heap:=s.heap.push (Om t ((c.size:Int) - 1)),toks:=tk}) :=
 .of_wp λprog w A R s h=>by
  obtain⟨d,h⟩:=h;unfold cn.«reversed.__new__»;refine a_ (EZ (newClass_reversed _) ?_);try dsimp only
  refine a_ (EZ (a:=()) (by first | rfl | kernel_rfl) ?_);refine a_ (EZ (a:=()) (by first | rfl | kernel_rfl) ?_);try dsimp only
  refine a_ (Ix d.typeIs FJ ?_);try dsimp only
  refine a_ ?_;show ax _ A.in1 (t9 (a8 t) (.type "dict") >>= λb=>if b=ag then bE am else xv (a8 t) "__getitem__" >>= λo=>_) _ _ s;refine a_ (MW (b:=am) d.typeIs Ci ?_);rw[y9 B_];refine a_ (Ix d.typeIs F.slot_tuple_getitem.lookup ?_);dsimp only;rw[zi Ap];refine h_ ?_;rw[y9 y6];refine a_ (xz d (by have:=eV;omega) ?_);refine a_ (EZ (a:=ab (c.size:Int)) rfl ?_);dsimp only;show ax _ _ (newObj (.type "reversed") (.fields #[.ref t,cq ((c.size:Int) - 1)]) >>= λv=>yn v) _ _ _;refine a_ (B9 ?_);exact h_ ⟨_,rfl,h _ (by show s.toks<=s.toks+1+1;omega)⟩
theorem xT:TypeCalled "reversed" "reversed.__new__" "object.__init__" :=
 ⟨Ap,Ap,⟨_,_,F.mro_reversed⟩,F.made_reversed,Ap,mI,Km⟩
theorem tO (d:s.heap.IsTuple t a) (hsz:a.size<=ai) (h:∀tk,s.toks<=tk->Q (.ref s.heap.objs.size) { s with heap:=s.heap.push (Om t ((a.size:Int) - 1)),toks:=tk}):
  ax (aI prog w) A (jS (.type "reversed") [.ref t]) Q E s:=by
 refine o3 xT y6 (F.typeCall_reversed_1 _) (F.newCall_reversed_1 _) (λb=>QE b _) F.entry_reversed_new (qj t a hsz) ⟨d,λtk c=>?_⟩;exact⟨⟨_,t_ _ rfl,rfl⟩,h tk c⟩
theorem Ko {i:Nat} (c:D8 s.heap it t (i:Int)) (g:s.heap.IsTuple t b) (hsz:b.size<=ai) (f:b[i]?=ab x) (h:∀h' tk,s.toks<=tk->D8 h' it t ((i:Int) - 1)->dA it s.heap h'->Q (ab x) { s with heap:=h',toks:=tk}):ax (aI prog w) A (eR (.ref it)) Q E s:=by
 obtain⟨o,e,j,d⟩:=id c;have l:=(Sf.mp f).1;have:=eV;unfold eR;refine a_ (Mn (Kn (name:=cx "__next__") c.ty NC
  (DS NC c.ty rC ?_ (rD _))))
 unfold cn.«reversed.__next__»;refine a_ (EZ (a:=(a8 it,[])) rfl ?_);try dsimp only
 refine a_ (C5 e d (x:=.ref t) rfl ?_);refine a_ (C5 e d (x:=cq (i:Int)) rfl ?_);show ax _ _ (if (i:Int)<0 then _ else _) _ _ s;rw[y9 yT];refine a_ (Ix g.typeIs F.slot_tuple_getitem.lookup ?_);rw[y9 y6];refine a_ (wpAny_mkInt ?_);refine a_ (Mn (xc (k:=i) g yT yT ?_ f ?_))
 .simp [qV];omega
 refine a_ (C5 e d (x:=cq (i:Int)) rfl ?_);show ax _ _ (lf (.ref it) 1 (cq ((i:Int) - 1)) >>= λ_=>yn x) _ _ _;refine a_ (FM e d ze ?_);refine h_ ⟨x,rfl,h_ (h _ _ (by show s.toks<=s.toks+1;omega) ?_ (NN ..))⟩;exact⟨_,F9 _ e (Pp (JI d _)),(iE ..).trans j,by
  rw[JI d];simp⟩
theorem SN (h:A.handled=af) (c:D8 s.heap it t (-1)) (k:∀h',Heap.ExtBut it s.heap h'->Q af { s with heap:=h'}):ax (aI prog w) A (eR (.ref it)) Q E s:=by
 obtain⟨o,f,n,d⟩:=id c;unfold eR;refine a_ (Mn (Kn (name:=cx "__next__") c.ty NC
  (DS NC c.ty rC ?_ (rD _))))
 unfold cn.«reversed.__next__»;refine a_ (EZ (a:=(a8 it,[])) rfl ?_);try dsimp only
 refine a_ (C5 f d (x:=.ref t) rfl ?_);refine a_ (C5 f d (x:=cq (-1)) rfl ?_);show ax _ _ (if (-1:Int)<0 then _ else _) _ _ s;rw[zi y6];refine a_ (KL ?_);refine a_ ?_;show ax _ _ (lf (.ref it) 1 (cq (-1)) >>= λ_=>lf (.ref it) 0 .none) _ _ s;refine a_ (FM f d ze ?_);have j:=Pp (JI d λvs=>vs.setIfInBounds 1 (cq (-1)));have g:=F9 (fo λvs=>vs.setIfInBounds 1 (cq (-1))) f j;refine FM g (JI d _) ze ?_;refine a_ ?_;show ax _ _ (rc (.type "StopIteration") [] >>= _) _ _ _;refine a_ ?_;simp only[rc,xI];refine a_ (B9 ?_ (by size_fits));refine a_ (m:=er _ _) (EZ (a:=bg) (by first | rfl | (simp only[er];rfl)) ?_);refine B9 ?_ (by size_fits);simp only[oC];refine a_ (mS ?_);first | rw[show A.in1.handled=af from h] | rw[h]
 refine a_ (h_ (se ?_));refine a_ (MW (T:="StopIteration") (b:=ag) ⟨_,t_ _ rfl,rfl⟩ t4 ?_);refine h_ (k _ λb l i e=>?_);refine e_ _ (e_ _ ?_);exact (HL _ _ (aS i)).trans ((HL _ _ (aS i)).trans e)
theorem zQ (a:D8 s.heap it t i) (h:Q (.ref it) s):ax (aI prog w) A (ra (.ref it)) Q E s:=by
 refine P3 a.ty zP (DS zP a.ty Ck ?_ (Cm _));show ax _ _ (yn (.ref it)) _ _ s;exact h_ ⟨_,rfl,"reversed",_,a.ty,NC.lookup,h⟩
theorem FP (q:A.handled=af) (I t:ah) (l:t≠I) (a:Array av) (hsz:a.size<=ai):
  Walks prog w A I [I,t] [I] a.size (λi v=>a[a.size - 1 - i]?=ab v) (λi h=>i<=a.size/\D8 h I t ((a.size:Int) - 1 - (i:Int))/\h.IsTuple t a) where
 sub:=λb f=>by rw[i_.mp f];exact n_
 frame:=λ_ _ _ x p=>by
  obtain⟨o,u,r⟩:=x.2.1
  exact⟨x.1,⟨o,p I ze o u,r⟩,x.2.2.at λo e=>p t ze o e⟩
 item:=λi s Q E B x g=>by
  have e:(a.size:Int) - 1 - (i:Int)=((a.size - 1 - i:Nat):Int):=yT
  have c:=x.2.1
  rw[e] at c
  have n:a[a.size - 1 - i]?=ab (a[a.size - 1 - i]' yT):=O_ yT
  refine Ko c x.2.2 hsz n λh' tk z d k=>?_
  have y:((a.size - 1 - i:Nat):Int) - 1=(a.size:Int) - 1 - ((i+1:Nat):Int):=yT
  rw[y] at d
  exact g _ h' tk n ⟨B,d,x.2.2.at λo j=>(k.2 t l).trans j⟩ λb o f j=>k.extBut b o (λh=>f (by simp [h])) j
 done:=λs Q E x g=>by
  have e:(a.size:Int) - 1 - (a.size:Int) = -1:=yT
  have c:=x.2.1
  rw[e] at c
  exact SN q c λh' m=>g h' s.toks λb o f j=>m b o (λh=>f (by simp [h])) j
 self:=λ_ _ _ _ x g=>zQ x.2.1 g
theorem SQ (c:D8 s.heap it t ((b.size:Int) - 1)) (f:s.heap.IsTuple t b) (hsz:b.size<=ai) (g:∀u tk,s.toks<=tk->Q (.int (b.size:Int) u) { s with toks:=tk}):ax (aI prog w) A (jS (.builtin "reversed.__length_hint__") [.ref it]) Q E s:=by
 obtain⟨o,d,h,e⟩:=id c;have:=eV;refine DS Rl c.ty Cj ?_ (Cp _);unfold cn.«reversed.__length_hint__»;refine a_ (EZ (a:=a8 it) rfl ?_);refine a_ (C5 d e (x:=.ref t) rfl ?_);rw[y9 (show ¬(a8 t==bg)=ag from B_)];refine a_ (xz f yT ?_);refine a_ (EZ (a:=ab (b.size:Int)) rfl ?_);dsimp only;refine a_ (C5 d e (x:=cq ((b.size:Int) - 1)) rfl ?_);show ax _ _ (if (b.size:Int)<(b.size:Int) - 1+1 then _ else _) _ _ _;rw[y9 yT];show ax _ _ (mkInt ((b.size:Int) - 1+1) >>= λv=>yn v) _ _ _;refine a_ (wpAny_mkInt (h_ ⟨_,rfl,?_⟩));rw[show (b.size:Int) - 1+1=b.size from yT];exact g _ _ (by show s.toks<=s.toks+1+1+1;omega)
def oV:dP:={ cls:=.type "list",data:=.seq ([]:List av).toArray}
theorem xU (hh:A.handled=af) (P:t≠I) (hsz:d.size<=ai) (D:D8 s.heap I t ((d.size:Int) - 1)) (X:s.heap.IsTuple t d) (Y:∀s' f,sv [I] (λa b=>b=a) s s'->gy (λi v=>d[d.size - 1 - i]?=ab v) f d.size->Q f.toList s'):ax (aI prog w) A (ky (.ref I)) Q E s:=by
 have W:=(FP (prog:=prog) (w:=w) (A:=A.in1) hh I t P d hsz).toS;have l:I<s.heap.objs.size:=by obtain⟨o,S,_⟩:=D;exact C_ S
 have q:t<s.heap.objs.size:=by obtain⟨o,S,_⟩:=X;exact C_ S
 have x:s.heap.objs.size∉[I,t]:=λm=>by
  rcases o_.mp m with e | e
  .rw[<- e] at l;exact BS _ l
  rw[<- i_.mp e] at q;exact BS _ q
 have N:s.heap.objs.size≠I:=λe=>by rw[<- e] at l;exact BS _ l
 have st:(λ(i:Nat) (s:aE)=>i<=d.size/\D8 s.heap I t ((d.size:Int) - 1 - (i:Int))/\s.heap.IsTuple t d) 0 s:=⟨B6 _,by simpa using D,X⟩;unfold ky;refine a_ (gI (Fn F.entry_proto_collect ?_));rw[I0 F.plain_proto_collect _];show ax _ A.in1 (sQ [] >>= λz=>again (.builtin "list.__iadd__" ⟨[z,.ref I],[]⟩)) _ _ s;refine a_ (B9 ?_);refine h_ ⟨F0 qk _,Fn F.entry_list_iadd ?_⟩;rw[I0 qk _];have j:=W.frame 0 s (s.heap.push oV) s.toks st (l_ _) λb _ o e=>e_ _ e;have M:(s.heap.push oV).get? s.heap.objs.size=ab oV:=t_ _ rfl;show ax _ A.in1 (a7 (.ref s.heap.objs.size) (.ref I) (.ref s.heap.objs.size)) _ _ { s with heap:=s.heap.push oV};unfold a7;have k:({ s with heap:=s.heap.push oV}:aE).TypeIs (.ref I) "reversed":=D8.ty j.2.1;refine a_ (GA k ?_);have n1:cv (.ref s.heap.objs.size) (.ref I)=am:=by simp [cv,N]
 have n2:(ci "reversed"==ci "list")=am:=by decide
 have Z:(ci "reversed"==ci "tuple")=am:=by decide
 simp only[n1,n2,Z,ja,H_,Y_];refine a_ (zQ j.2.1 ?_);refine a_ (DF ?_);unfold c_;refine a_ (Ix k FN ?_);show ax _ A.in1 (xv (a8 I) (cx "__length_hint__") >>= _) _ _ _;refine a_ (Ix k Rl.lookup ?_);generalize p:("reversed.__length_hint__":String)=y
 (fail_if_success (clear p y))
 wp_delta
 rw[show splitId y=ab ("reversed","__length_hint__") from by subst p;decide +kernel];subst p;refine a_ (MW (b:=ag) k mI ?_);rw[y9 (show ¬(!ag)=ag from B_)];dsimp only;rw[y9 Ap];refine a_ (KL ?_);refine a_ (EZ (Rl.bind _) ?_);dsimp only;have H:D8 (s.heap.push oV) I t ((d.size:Int) - 1):=by have:=j.2.1;simpa using this
 refine a_ (Mn (SQ H j.2.2 hsz λu tk L=>?_));dsimp only;have e0:asInt? (da (d.size:Int) u)=bE (ab (d.size:Int)):=rfl;rw[e0,pure_bind];dsimp only;have U:dk (d.size:Int)=ag:=by have:=eV;unfold dk;rw[CL,q_,q_];omega
 have V:b9 (d.size:Int).toNat=am:=by unfold b9;rw[OB,F3];omega
 rw[U,V,y9 (show ¬(!ag)=ag from B_),y9 (show ¬((d.size:Int)<0) from yT),y9 B_];refine h_ ?_;have R:=W.frame 0 _ (s.heap.push oV) tk j L λb _ o e=>e;have K:∀(C:cK),(∀b o,b≠s.heap.objs.size->(s.heap.push oV).get? b=ab o->C.get? b=ab o)->(∃c,C.get? s.heap.objs.size=ab { cls:=.type "list",dict:=af,data:=.seq #[] c,slots:=#[]}) ->
   dy (aI prog w) A (.builtin "list.extend.loop" ⟨[.ref s.heap.objs.size,.ref I,.ref s.heap.objs.size],[]⟩) (λr s'=>r=.ok (.ret (.ref s.heap.objs.size))/\∃f c,sv [I] (λa b=>b=a) s s'/\s'.heap.get? s.heap.objs.size=ab { cls:=.type "list",dict:=af,data:=.seq f c,slots:=#[]}/\gy (λi v=>d[d.size - 1 - i]?=ab v) f d.size) { s with heap:=C,toks:=tk}:=λC T ⟨c,k2⟩=>by
  refine fr W hsz _ x _ d.size 0 _ _ _ rfl (B6 _) (W.frame 0 ({ s with heap:=s.heap.push oV,toks:=tk}:aE) C tk R (l_ _) λb n o e=>T b o (λz=>x (z▸n)) e) k2 (ItemsOf.nil _) λs' B c' m h g=>⟨rfl,B,c',?_,h,g⟩
  refine Moved.drop_new (o:=oV) (tk:=tk) (Moved.trans W.gtrans ((Moved.refl (G:=λa b=>b=a) λ_=>rfl).then_heap (s':={ s with heap:=s.heap.push oV,toks:=tk}) (l_ _) λb o n e=>?_) m) L
  exact T b o (λz=>n (z▸n_)) e
 clear U V;split
 .refine a_ (KL ?_);refine a_ ?_;show ax _ A.in1 (mm s.heap.objs.size (·.push .none) >>= λ_=>mm s.heap.objs.size (·.pop)) _ _ _;refine a_ (NW M rfl ?_);have J:=F9 (ce (·.push bg)) M rfl;refine NW J rfl ?_;have O:=F9 (ce (·.pop)) J rfl;refine h_ ⟨F0 f7 _,HG (K _ (λb o n e=>(HL _ _ (aS n)).trans ((HL _ _ (aS n)).trans e)) ⟨_,O⟩) ?_⟩;rintro r s' ⟨rfl,f,c,m,h,g⟩;show ax _ A (load s.heap.objs.size >>= _) _ _ s';exact a_ (L1 h (h_ (Y s' f m g)))
 refine h_ ⟨F0 f7 _,HG (K _ (λb o n e=>e) ⟨_,M⟩) ?_⟩;rintro r s' ⟨rfl,f,c,m,h,g⟩;show ax _ A (load s.heap.objs.size >>= _) _ _ s';exact a_ (L1 h (h_ (Y s' f m g)))
theorem FQ {a b:Array av}(h:gy (λi v=>a[a.size - 1 - i]?=ab v) b a.size):b=a.reverse:=by
 refine Array.ext (by rw[h.1];simp) λj c e=>?_;have q:a[a.size - 1 - j]?=ab b[j]:=h.2 j b[j] (O_ c);have d:j<a.size:=by rw[<- h.1];exact c
 rw[O_ yT] at q;rw[lb];exact (T_ q).symm
theorem ql (I t:ah) (c:Array av) (hsz:c.size<=ai) (f:t≠I) :
  Meets (cn.«tuple.__new__» ⟨[.type "tuple",.ref I],[]⟩)
   (λA R s=>A.handled=af/\D8 s.heap I t ((c.size:Int) - 1)/\s.heap.IsTuple t c/\∀s',sv [I] (λa b=>b=a) s s'->R (.ok (.ret (.ref s'.heap.objs.size))) { s' with heap:=s'.heap.push { cls:=.type "tuple",data:=.seq c.reverse}}) :=
 .of_wp λprog w A R s h=>by
  obtain⟨n,g,d,tk,y⟩:=s;obtain⟨m,j,p,h⟩:=h;have l:=tF;have k:=oQ;have u:=t0;have x:Shared.TypeIs ⟨n,g,d,tk,y⟩ (.ref I) "reversed":=D8.ty j;have i:=j;obtain⟨o,i,B,z⟩:=i
  wp_walk using ON i,GA x,xU (A:=A.in1) m f hsz j p
  intro s' r q e;rw[FQ e];show ax _ _ (a6 c.reverse.toList.toArray >>= λv=>yn v) _ _ _;unfold a6;refine a_ (B9 ?_ (by show c.reverse.toList.toArray.size<=ai;simpa using hsz));refine h_ ⟨_,rfl,?_⟩;rw[show c.reverse.toList.toArray=c.reverse from mh];exact h s' q
section
variable {prog:bX}{E:av->aE->Prop}
theorem tQ (f:A.handled=af) (d:t≠I) (hsz:c.size<=ai) (i:D8 s.heap I t ((c.size:Int) - 1)) (g:s.heap.IsTuple t c) (h:∀s',sv [I] (λa b=>b=a) s s'->Q (.ref s'.heap.objs.size) { s' with heap:=s'.heap.push { cls:=.type "tuple",data:=.seq c.reverse}}):
  ax (aI prog w) A (jS (.type "tuple") [.ref I]) Q E s :=
 o3 wP y6 (oa _) (qo _) (λe=>QE e _) qq
  (ql I t c hsz d) ⟨f,i,g,λs' j=>⟨⟨_,t_ _ rfl,rfl⟩,h s' j⟩⟩
variable {X:Cx}{p1 p2 ZT b':kc}
def Kp (te:TE):TE:=λZ H Q=>te Z H λx a=>∃p b,x=.ref p/\A0 X.K a p b/\∀l,a l=af->Q (.ref l) (zw a l (.tup b.reverse))
theorem Cq (O:X.calm=ag) (A:Gl X "tuple") (n:X.mg "tuple"=af) (k:Gl X "reversed") (j:X.mg "reversed"=af) (i:ba "tuple"=ab (.type "tuple")) (g:ba "reversed"=ab (.type "reversed")) (S:PE X e te)
  (E:aw [e] X.env=(am,bo e X.env)::aw [] X.env:=by rfl) (v:(bb ZT (aw [] X.env)).any (·.1)=am:=by rfl) (d:(bb b' (aw [] X.env)).any (·.1)=am:=by rfl) :
  PE X (.Call (.Name "tuple" p1) [.Call (.Name "reversed" p2) [e] [] b'] [] ZT) (Kp (X:=X) te):=by
 intro a s Z H Q I h;refine Ee (dq I A n i ?_ y6 y6);refine Z_ ?_ rfl v;show ax _ _ (eK ((am,bo (.Call (.Name "reversed" p2) [e] [] b') X.env)::bb ZT (aw [] X.env))) _ _ s;refine ES ?_;refine Ee (dq I k j g ?_ y6 y6);refine Z_ ?_ E d;rw[E];show ax _ _ (eK ((am,bo e X.env)::bb b' (aw [] X.env))) _ _ s;refine ES (z3 (S a s Z H _ I h) λu s1 ⟨x,B,l,N,p,G,R,L,q⟩=>?_);subst R;cases N;obtain⟨c,F,t,hz⟩:=l.tuple L;have J:=F.length;have hsz:c.toArray.size<=ai:=by simp only[p_];omega
 refine FA ?_;refine tO t hsz λtk T=>?_;refine FA ?_;have m:p≠s1.heap.objs.size:=λz=>by obtain⟨o,y,_⟩:=t;have:=C_ y;rw[z] at this;exact BS _ this
 refine tQ (l.ok.hd O) m hsz ⟨_,t_ _ rfl,rfl,rfl⟩ (let ⟨o,y,r⟩:=t;⟨o,e_ _ y,r⟩) λs' f=>?_;have P:∀b u,s1.heap.get? b=ab u->s'.heap.get? b=ab u:=λb u D=>f.heap b u (λz=>by
  have:=C_ D
  rw[i_.mp z] at this
  exact BS _ this) (e_ _ D)
 have M:s'={ s1 with heap:=s'.heap,toks:=s'.toks}:=by
  obtain⟨a1,V,U,Y,W⟩:=s';have:=f.gens;have:=f.drawn;have:=f.os
  simp_all
 have C:y4 X a Z B { s1 with heap:=s'.heap,toks:=s'.toks}:=l.kept P;have K:y4 X a Z (zw B s'.heap.objs.size (.tup G.reverse)) { s1 with heap:=s'.heap.push { cls:=.type "tuple",data:=.seq c.toArray.reverse},toks:=s'.toks} :=
  C.laid (t':=s'.toks) (λb o e=>e_ _ e) (l_ _) (show Bz X.prog X.w _ _ _ (.tup G.reverse) from ⟨by simpa using hz,c.reverse,F.reverse,by simpa using EO.new _ _⟩)
 rw[M];exact⟨.ref s'.heap.objs.size,_,K,rfl,q _ (C.hok.fresh (l_ _))⟩
def FT (te:zS):zS:=λZ H Q=>te Z H λx a=>match x with
 |.tup xs=>Q (.tup xs.reverse) a
 |_=>False
theorem Cr {te:zS}(w:X.calm=ag) (n:Gl X "tuple") (f:X.mg "tuple"=af) (d:Gl X "reversed") (c:X.mg "reversed"=af) (B:Z7 X e te)
  (y:aw [e] X.env=(am,bo e X.env)::aw [] X.env:=by rfl) (j:(bb ZT (aw [] X.env)).any (·.1)=am:=by rfl) (b:(bb b' (aw [] X.env)).any (·.1)=am:=by rfl) :
  Z7 X (.Call (.Name "tuple" p1) [.Call (.Name "reversed" p2) [e] [] b'] [] ZT) (FT te):=by
 refine PE.imp (Cq w n f d c bT Ap B y j b) ?_;rintro Z H Q ⟨u,H3,C,o,z,h,k⟩;refine⟨u,H3,_,o,z,h,λv H' t g s m r q=>?_⟩;cases t with
 |tup ts=>obtain⟨a,A,rfl,p,x⟩:=r.tup;exact⟨a,A,rfl,p,λl i=>k _ _ _ _ (s.trans (aO i)) (m.new i) (xr.newTup (H3:=g) i x.reverse) q⟩
 |_=>exact q.elim
theorem Kq (b:s.heap.IsTupleIter it t i) (h:s.heap.IsTuple t a) (g:a[i]?=ab x) (j:∀h',h'.IsTupleIter it t (i+1)->dA it s.heap h'->Q x { s with heap:=h'}):ax (aI prog w) A (dn (.ref it)) Q E s:=by
 obtain⟨o,d,k,c⟩:=id b;obtain⟨l,f,_,m,e⟩:=h;unfold dn;refine a_ (Kn (name:=cx "__next__") b.typeIs Qr
  (DS Qr b.typeIs gE ?_ (fS _)))
 show ax _ _ (field (.ref it) 0 >>= _) _ _ s;refine a_ (C5 d c (x:=.ref t) rfl ?_);show ax _ _ (if (a8 t==bg)=ag then _ else _) _ _ s;rw[y9 (show ¬((a8 t==bg)=ag) from B_)];show ax _ _ (field (.ref it) 1 >>= _) _ _ s;refine a_ (C5 d c (x:=.int i 0) rfl ?_);show ax _ _ (seqItems? (.ref t) >>= _) _ _ s;refine a_ (Mo f e ?_);simp only[F3,g];refine a_ (FM d c ze (h_ ⟨x,rfl,h_ (j _ ?_ (NN ..))⟩));refine⟨_,F9 _ d (Pp (JI c _)),(iE ..).trans k,?_⟩;rw[JI c];simp [cq]
theorem FW (j:A.handled=af) (c:s.heap.IsTupleIter it t i) (l:s.heap.IsTuple t b) (k:b[i]?=af) (n:∀h' e,Heap.ExtBut it s.heap h'->(∃o,h'.get? e=ab o/\o.cls=.type "StopIteration")->E (.ref e) { s with heap:=h'}):ax (aI prog w) A (dn (.ref it)) Q E s:=by
 obtain⟨o,d,r,f⟩:=id c;obtain⟨p,h,_,q,g⟩:=l;unfold dn;refine a_ (Kn (name:=cx "__next__") c.typeIs Qr
  (DS Qr c.typeIs gE ?_ (fS _)))
 show ax _ _ (field (.ref it) 0 >>= _) _ _ s;refine a_ (C5 d f (x:=.ref t) rfl ?_);show ax _ _ (if (a8 t==bg)=ag then _ else _) _ _ s;rw[y9 (show ¬((a8 t==bg)=ag) from B_)];show ax _ _ (field (.ref it) 1 >>= _) _ _ s;refine a_ (C5 d f (x:=.int i 0) rfl ?_);show ax _ _ (seqItems? (.ref t) >>= _) _ _ s;refine a_ (Mo h g ?_);simp only[F3,k];refine a_ (KL (a_ (FM d f ze ?_)));show ax _ _ (rc (.type "StopIteration") [] >>= _) _ _ _;refine a_ ?_;simp only[rc,xI];refine a_ (B9 ?_ (by size_fits));refine a_ (m:=er _ _) (EZ (a:=bg) (by first | rfl | (simp only[er];rfl)) ?_);refine B9 ?_ (by size_fits);simp only[oC];refine a_ (mS ?_);first | rw[show A.in1.handled=af from j] | rw[j]
 refine a_ (h_ (se ?_));exact n _ _ (((NN ..).extBut.push _).push _) ⟨_,t_ _ rfl,rfl⟩
end
theorem SX (j:A.handled=af) (it t:ah) (d:t≠it) (a:Array av):
  Draws prog w A it [it,t] a.size (λi v=>a[i]?=ab v) (λi h=>h.IsTupleIter it t i/\h.IsTuple t a) where
 live:=λ_ _ st=>let ⟨o,ho,_⟩:=st.1;⟨o,ho⟩
 frame:=λ_ _ _ st g=>⟨st.1.at λo e=>g it ze o e,st.2.at λo e=>g t ze o e⟩
 item:=λi s Q E f st l=>by
  refine Kq st.1 st.2 (x:=a[i]) (by simp [f]) λh' b c=>?_
  exact l _ h' s.toks (by simp [f]) ⟨b,st.2.extBut c.extBut d⟩ c
 done:=λs Q E st k=>FW j st.1 st.2 ze k
theorem S5 (d:A.handled=af) (it t:ah) (c:t≠it) (a:Array av) (k:Nat) (b:a[k]?=af):
  Draws prog w A it [it,t] k (λ_ _=>True) (λi h=>i=k/\h.IsTupleIter it t i/\h.IsTuple t a) where
 live:=λ_ _ st=>let ⟨o,ho,_⟩:=st.2.1;⟨o,ho⟩
 frame:=λ_ _ _ st b=>⟨st.1,st.2.1.at λo e=>b it ze o e,st.2.2.at λo e=>b t ze o e⟩
 item:=λi s Q E g st j=>As st.1 (P_ g)
 done:=λs Q E st f=>FW d st.2.1 st.2.2 b f
section
variable {X:Cx}{ZO:List (ah × dP)}{Z:L2.St}
theorem jd {ch:List ah} (I:y4 X ZO Z H s) (k:∀b o,b∉ch->s.heap.get? b=ab o->h'.get? b=ab o) (f:∀b∈ch,qd X ZO H b):y4 X ZO Z H { s with heap:=h',toks:=t'}:=by
 have d:∀b u,H b=ab u->b∉ch:=λb u e z=>by rw[(f b z).1] at e;cases e
 refine I.step (g':=s.gens) (d':=s.drawn) (ch:=ch) (λb h=>?_) (λb o _ _ a e _=>k b o a e) (λb o _ _ a e _=>⟨o.slots,k b o a e⟩) (λ_ _ _ _ n=>n)
  (λb o a e=>⟨o,k b o a e⟩) (λ_ _ e=>e) (λ_ _ _ e=>e) (λb x e=>⟨#[],by rw[e];simp⟩) (λm j=>?_) (λb u e=>?_) I.bare
 .obtain⟨_,p,_,i,l,w⟩:=f b h;exact⟨i,p,l,w⟩
 .obtain⟨o,t,ep,g,r⟩:=j;exact⟨o,t,ep,k _ o (λz=>(f _ z).2.1 rfl) g,r⟩
 refine (I.hok b u e).stay (λc v a q=>k c v ?_ q) (λ_ q=>q) λ_ _ q=>q;rcases a with z | z
 .rw[z];exact d b u e
 exact d c _ z
end
theorem lZ {n:Type} (l m f:n->T) (e:List n) (zk:AJ) (g:still H) (s:e.length<=ai) (q:∀a∈e,∀Q:Z1,Q (f a) H->te (ab (l a)::ab (m a)::zk) H Q) (h:j (e.map f) H):
  C4 (uX 2 (jB (eX 0) (jB (eX 1) zx))) zy te still j (e.map λa=>.tup [l a,m a]) [] (v::u::zk) H:=by
 refine iK (λr o Z H'=>∃(d i:List n) (v u:Option T),Z=v::u::zk/\r=d.map (λa=>.tup [l a,m a])/\o=i.map f/\i++d=e/\H'=H) ⟨e,[],v,u,rfl,rfl,rfl,rfl,rfl⟩ ?_ ?_
 .rintro o Z H' ⟨d,i,v,u,rfl,c,rfl,b,rfl⟩;have k:d=[]:=MG.mp c.symm;subst k;rw[X_] at b;subst b;exact⟨g,by rw[d_];exact s,h⟩
 rintro x r o Z H' N ⟨d,i,v,u,rfl,c,rfl,b,rfl⟩ p;cases d with
 |nil=>cases c
 |cons t d =>
 injection c with a1 a2;subst a1 a2;refine⟨g,rfl,?_⟩;show te (ab (l t)::ab (m t)::zk) H' _;refine q t (by rw[<- b];simp) _ ⟨?_,p _ _ _ ⟨d,i++[t],_,_,rfl,rfl,ze,by rw[<- b];simp,rfl⟩⟩;have:=Q_ aT b;simp only[b_,j_] at this;rw[d_];omega
section
variable {H:gV}{Q:Z1}
theorem m9 {b:Type} [DecidableEq b] (a:b):decide (a=a)=ag:=N_ rfl
end
open L2 PySem.Builtin PySem.Builtin.Str
theorem Kr (d:A.handled=af) (it t:ah) (c:t≠it) (a:Array av) (k:Nat) (b:a[k]?=af):
  Draws prog w A it [it,t] k (λ_ _=>True) (λi h=>i=k/\h.IsListIter it t i/\h.IsList t a) where
 live:=λ_ _ st=>let ⟨o,ho,_⟩:=st.2.1;⟨o,ho⟩
 frame:=λ_ _ _ st b=>⟨st.1,st.2.1.at λo e=>b it ze o e,st.2.2.at λo e=>b t ze o e⟩
 item:=λi s Q E g st j=>As st.1 (P_ g)
 done:=λs Q E st f=>wpAny_nextOf_list_end d st.2.1 st.2.2 b f
theorem jU:ba "enumerate"=ab (.type "enumerate"):=by decide +kernel
def RI (x:T) (H:gV) (Q:Z1):Prop:=match x with
 |.int i=>Q (.int (-i)) H
 |_=>False
def Oo (a:zS):zS:=λZ H Q=>a Z H λx b=>RI x b Q
theorem Xw (a:zS) {Z:AJ}{H:gV}:Oo a Z H Q=a Z H λx b=>RI x b Q:=rfl
theorem Xx (i:Int) {H:gV}:RI (.int i) H Q=Q (.int (-i)) H:=rfl
theorem oW (e:Z7 X a ta):Z7 X (.UnaryOp .USub a ZT) (Oo ta):=by
 refine PE.imp (V4 Ra e) ?_;rintro Z H Q ⟨j,H3,l,c,g,h,k⟩;refine⟨j,H3,_,c,g,h,λv H' t d f b r q=>?_⟩;cases t with
 |int i=>exact⟨i,r.int,k _ _ _ _ f b .ofInt q⟩
 |_=>exact q.elim
def S6 (K:a3) (a:ah):It :=
 ⟨λi H=>∃xs x,A8 K H a xs/\xs[i]?=ab x,
  λi H v H'=>∃p x,v=.ref p/\H p=af/\H'=zw H p (.tup [.int (i:Int),x])/\∀xs,A8 K H a xs->xs[i]?=ab x,
  λi H=>∃xs,A8 K H a xs/\xs.length<=i⟩
theorem xV {K:a3} (a it e:ah) (l1:a<it) (l2:it<e):
  Ch P w K (.Tuple F x1 W) (S6 K a) [e,it] e (λi h=>(∃f,yi h e it (i:Int) f)/\h.IsListIter it a i) where
 mem:=n_
 obj:=λi h st c d=>by
  obtain⟨⟨f,l⟩,⟨o1,Q,_,d1⟩⟩:=st
  simp only[o_,B8,B7] at d
  rcases d with rfl | rfl
  ·
   exact⟨_,l,λv z=>by cases z⟩
  ·
   exact⟨_,Q,λv z=>by rw[d1] at z;cases z⟩
 keep:=λi h h' st k=>by
  obtain⟨⟨f,l⟩,t⟩:=st
  exact⟨⟨f,k e ze _ l⟩,t.at λo q=>k it ze o q⟩
 item:=by
  intro X O hw R d i g s Z H E I B st T
  subst O hw R
  obtain⟨xs,x,N,hx⟩:=T
  obtain⟨j,rv,p,hz⟩:=I.list N
  obtain⟨u,hu,ru⟩:=rv.get hx
  obtain⟨⟨f,l⟩,t⟩:=st
  have L:j.toArray[i]?=ab u:=by simpa using hu
  have m:a≠it:=P_ l1
  have n:e≠it:=EN l2
  have S:e≠a:=EN (FE l1 l2)
  have hef:e∉[it,a]:=by simp [n,S]
  have D:=Draws.list (prog:=X.prog) (w:=X.w) (A:=X.A.in1) (I.ok.hd d) it a m j.toArray
  refine js (i:=i) D l ⟨t,p.isList⟩ (Sf.mp L).1 n hef λr h' tk px ho hs' hT hsz kp=>?_
  have Q:r=u:=T_ (px.symm.trans L)
  subst Q
  obtain⟨hs1,hs2⟩:=hs'
  refine⟨_,rfl,gL ho λG J U=>?_⟩
  have Y:∀c o,c∉[e,it]->s.heap.get? c=ab o->G.get? c=ab o:=λc o y q=>(U.2 c λz=>y (z▸n_)).trans (kp c o (λz=>y (z▸n_)) (λz=>y (by simp [z])) q)
  have V:∀{c o},s.heap.get? c=ab o->s.heap.objs.size≠c:=λq=>EN (C_ q)
  have C:∀{c:ah},c∈[e,it]->c≠s.heap.objs.size:=λ{c} d=>by
   simp only[o_,B8,B7] at d
   rcases d with q | q <;> subst q
   ·
    exact aS (V l)
   ·
    obtain⟨o,q,_⟩:=t;exact aS (V q)
  have hTe:s.heap.objs.size≠e:=V l
  have I1:y4 X g Z (zw H s.heap.objs.size (.tup [.int (i:Int),x])) { s with heap:=s.heap.push { cls:=.type "tuple",data:=.seq #[.int (i:Int) tk,r]},toks:=tk+1} :=
   I.laid (t':=tk+1) (λb o q=>e_ _ q) (l_ _) (show Bz X.prog X.w _ _ _ (.tup [.int (i:Int),x]) from ⟨by show 2<=ai;decide,[.int (i:Int) tk,r],.cons ⟨tk,rfl⟩ (.cons ru .nil),EO.new _ _⟩)
  have I2:y4 X g Z (zw H s.heap.objs.size (.tup [.int (i:Int),x])) { s with heap:=G,toks:=tk+1}:=jd (s:={ s with heap:=s.heap.push { cls:=.type "tuple",data:=.seq #[.int (i:Int) tk,r]},toks:=tk+1}) (ch:=[e,it]) (t':=tk+1) I1 (λc o y q=>by
   by_cases z:c=s.heap.objs.size
   ·
    subst z
    have M:(s.heap.push { cls:=.type "tuple",data:=.seq #[.int (i:Int) tk,r]}).get? s.heap.objs.size=ab o:=q
    rw[t_ _ rfl] at M
    cases M
    exact (U.2 _ hTe).trans hT
   ·
    have M:(s.heap.push { cls:=.type "tuple",data:=.seq #[.int (i:Int) tk,r]}).get? c=ab o:=q
    rw[iP _ _ _ z] at M
    exact Y c o y M) λc d=>⟨by rw[aY (C d)];exact (B c d).1,(B c d).2⟩
  refine⟨.ref s.heap.objs.size,_,I2,rfl,⟨s.heap.objs.size,x,rfl,I.hok.fresh (l_ _),rfl,λzs hq'=>by rw[I.list_inj hq' N];exact hx⟩,⟨⟨r,?_⟩,hs1.at λo q=>(U.2 it (aS n)).trans q⟩,λc d=>by rw[aY (C d)];exact (B c d).1⟩
  exact J
 done:=by
  intro X O hw R d i g s Z H E I B st T
  subst O hw R
  obtain⟨xs,N,hx⟩:=T
  obtain⟨j,rv,p,hz⟩:=I.list N
  obtain⟨⟨f,l⟩,t⟩:=st
  have hl:=rv.length
  have m:a≠it:=P_ l1
  have D:=Kr (prog:=X.prog) (w:=X.w) (A:=X.A.in1) (I.ok.hd d) it a m j.toArray i (by simp;omega)
  exact kt D l ⟨rfl,t,p.isList⟩ λh' eb=>⟨rfl,jd (ch:=[e,it]) (t':=s.toks) I (λb o nb q=>eb b o (λz=>nb (by simp [z])) q) B⟩
 self:=λ_ _ _ _ _ st h=>Pv st.1.choose_spec h
section
variable {B':List Expr}{x1:Nat}{D' ZT p:kc}
def S7 (K:a3) (te:TE):TI:=λZ H R=>te Z H λx b=>∃a,x=.ref a/\(∃xs,b a=ab (.lst xs))/\R (S6 K a) b
theorem FZ (v:Gl X "enumerate") (r:X.mg "enumerate"=af) (A:PE X e te) (m:aw [e] X.env=(am,bo e X.env)::aw [] X.env:=by rfl) (i:(bb ZT (aw [] X.env)).any (·.1)=am:=by rfl):
  PI X (.Tuple B' x1 D') (.Call (.Name "enumerate" p) [e] [] ZT) (S7 X.K te):=by
 intro f s Z H R I h;refine Ee (dq I v r jU ?_ y6 y6);refine Z_ ?_ m i;rw[m];show ax _ _ (eK ((am,bo e X.env)::bb ZT (aw [] X.env))) _ _ s;refine ES (z3 (A f s Z H _ I h) λu b ⟨x,D,g,t,a,o,⟨xs,B⟩,q⟩=>?_);subst o;cases t;refine FA ?_;obtain⟨hz,w,n,G,l⟩:=g.hok a _ B;have E:a<b.heap.objs.size:=C_ l;refine call_enumerate_list ⟨_,l,rfl,n,rfl⟩ λh' j C F y=>Pv j ?_;refine⟨b.heap.objs.size+1,[b.heap.objs.size+1,b.heap.objs.size],_,_,D,rfl,g.kept (t':=b.toks) y,xV a b.heap.objs.size (b.heap.objs.size+1) E (IL _),⟨⟨.none,j⟩,C⟩,λc k=>?_,q⟩;have d:b.heap.objs.size<=c:=by
  simp only[o_,B8,B7] at k;rcases k with z | z <;> subst z
  .exact ID _
  exact l_ _
 exact g.fpOk d (g.hok.fresh d)
def fU (k:Int):List T->List T
 |[]=>[]
 |x::r=>.tup [.int k,x]::fU (k+1) r
theorem lB:∀(k:Int) (xs:List T) (i:Nat),(fU k xs)[i]?=xs[i]?.map λx=>.tup [.int (k+i),x]
 |_,[],i=>by simp [fU]
 |k,x::xs,0=>by simp [fU]
 |k,x::xs,i+1=>by
  simp only[fU,Pd]
  rw[lB (k+1) xs i]
  have:k+1+(i:Int)=k+((i+1:Nat):Int):=by omega
  rw[this]
theorem lC:∀(k:Int) (xs:List T),(fU k xs).length=xs.length
 |_,[]=>rfl
 |k,x::xs=>by simp [fU,lC (k+1) xs]
def Ks (o:Option O3) (a:ah) (H:gV) (R:List T->(gV->Prop)->gV->Prop):Prop:=match o with
 |some (.lst ts)=>R (fU 0 ts) (bZ a ts) H
 |_=>False
def S8 (x:T) (H:gV) (R:List T->(gV->Prop)->gV->Prop):Prop:=match x with
 |.ref a=>Ks (H a) a H R
 |_=>False
def zR (te:zS):EJ:=λZ H R=>te Z H λx a=>S8 x a R
theorem Ga (te:zS):zR te Z H R=te Z H λx a=>S8 x a R:=rfl
theorem S9 (a:ah):S8 (.ref a) H R=Ks (H a) a H R:=rfl
theorem Tc (ts:List T) (a:ah):Ks (ab (.lst ts)) a H R=R (fU 0 ts) (bZ a ts) H:=rfl
theorem xW {K:a3}:jt K (S6 K a) (fU 0 ts) (bZ a ts) H:=λH' c r h st=>by
 obtain⟨xs,d,f⟩:=h.sqL st;have n:=f.length;refine⟨λi k=>⟨xs,d,by rw[lC] at k;omega⟩,λi t e=>?_⟩;rw[lB] at e;cases q:ts[i]? with
 |none=>rw[q] at e;cases e
 |some x =>
 rw[q] at e;cases e;obtain⟨v,g,j⟩:=f.get q;refine⟨⟨xs,v,d,g⟩,λz l y=>?_⟩;obtain⟨p,o,rfl,b,rfl,m⟩:=y;have:=(m xs d).symm.trans g;cases this;refine⟨aO b,h.new b,?_⟩;rw[show (0:Int)+(i:Int)=(i:Int) from yT];exact xr.newTup (H3:=c) b (.cons .ofInt (.cons j .nil))
theorem Gb (n:Gl X "enumerate") (j:X.mg "enumerate"=af) (s:Z7 X e te) (m:aw [e] X.env=(am,bo e X.env)::aw [] X.env:=by rfl) (f:(bb ZT (aw [] X.env)).any (·.1)=am:=by rfl):
  Fu X (.Tuple B' x1 D') (.Call (.Name "enumerate" p) [e] [] ZT) (zR te):=by
 refine PI.imp (FZ n j s m f) ?_;rintro Z H R ⟨x,H3,R3,i,w,h,k⟩;refine⟨x,H3,_,i,w,h,λv H' t c u d r q=>?_⟩;cases t with
 |ref a =>
  have b:Ks (c a) a c R3:=q
  cases g:c a with
  |none=>rw[g] at b;exact b.elim
  |some o =>
   rw[g] at b
   cases o with
   |lst ts =>
    obtain⟨xs,l,y⟩:=d a _ g
    exact⟨a,r.ref,⟨xs,l⟩,k _ _ (bZ a ts) H' c u d xW b⟩
   |rol ts=>exact b.elim
   |dct ts=>exact b.elim
   |dcp ts=>exact b.elim
   |exc _ _=>exact b.elim
   |xdt _=>exact b.elim
   |dci _=>exact b.elim
   |dif _ _=>exact b.elim
   |dsf _ _=>exact b.elim
   |ins _ _=>exact b.elim
 |_=>exact q.elim
end
theorem Td:dh X (br .LShift) (Ic Jx λi j=>.int (i*2^j.toNat)):=vd Q7 λ_ _ _=>.ofInt
theorem vA (l:ah) (a:Array av) (n:Nat) (e:Option ah) (k:Array (Option av)) :
  Meets (cn.«enumerate.__new__» ⟨[.type "enumerate",.ref l],[]⟩) (λ_ R s=>s.heap.get? l=ab { cls:=.type "tuple",dict:=e,data:=.seq a n,slots:=k} /\
   R (.ok (.ret (.ref (s.heap.push { cls:=.type "tuple_iterator",data:=.fields #[.ref l,.int 0 0]}).objs.size)))
    { s with heap:=(s.heap.push { cls:=.type "tuple_iterator",data:=.fields #[.ref l,.int 0 0]}).push { cls:=.type "enumerate",data:=.fields #[.none,.bool am,.ref s.heap.objs.size,cq 0,.none,.none]}}) :=
 .of_wp λprog w A R s h=>by
  obtain⟨j,g,d,tk,m⟩:=s;obtain⟨b,h⟩:=h;have i:=sub_enumerate;have f:Heap.IsTuple (Shared.heap ⟨j,g,d,tk,m⟩) l a:=⟨_,b,rfl,n,rfl⟩
  wp_walk using ON b
  refine wpAny_stack_any λst=>h_ ?_;split
  .rename_i c _ _ _ _ _;cases (c==ci "enumerate")
   .wp_walk using ON b,OY f
    exact⟨_,rfl,h⟩
   wp_walk using ON b,OY f
   exact⟨_,rfl,h⟩
  wp_walk using ON b,OY f
  exact⟨_,rfl,h⟩
theorem jC {s:aE} (k:s.heap.IsTuple l a) (h:∀h',yi h' (s.heap.objs.size+1) s.heap.objs.size 0 .none->h'.IsTupleIter s.heap.objs.size l 0->h'.objs.size=s.heap.objs.size+2 ->
   (∀b o,s.heap.get? b=ab o->h'.get? b=ab o)->Q (.ref (s.heap.objs.size+1)) { s with heap:=h'}):
  ax (aI prog w) A (jS (.type "enumerate") [.ref l]) Q E s:=by
 obtain⟨⟨c,e,p,m⟩,j,g,n,d⟩:=k;replace g:c=.type "tuple":=g;replace d:p=.seq a n:=d;subst g d;refine o3 F.called_enumerate y6 (F.typeCall_enumerate_1 _) (F.newCall_enumerate_1 _) (λf=>QE f _) F.entry_enumerate_new
  (vA l a n e m) ⟨j,?_⟩
 have hz:(s.heap.push { cls:=.type "tuple_iterator",data:=.fields #[.ref l,.int 0 0]}).objs.size=s.heap.objs.size+1:=GB ..;show _/\_;rw[hz];have i:yi ((s.heap.push { cls:=.type "tuple_iterator",data:=.fields #[.ref l,.int 0 0]}).push
   { cls:=.type "enumerate",data:=.fields #[.none,.bool am,.ref s.heap.objs.size,cq 0,.none,.none]}) (s.heap.objs.size+1) s.heap.objs.size 0 .none:=by
  have:=t_ (s.heap.push { cls:=.type "tuple_iterator",data:=.fields #[.ref l,.int 0 0]})
   (o:={ cls:=.type "enumerate",data:=.fields #[.none,.bool am,.ref s.heap.objs.size,cq 0,.none,.none]}) rfl
  rw[hz] at this;exact this
 refine⟨⟨_,i,rfl⟩,h _ i ⟨_,e_ _ (t_ _ rfl),rfl,rfl⟩ (by rw[GB,hz]) λb o x=>e_ _ (e_ _ x)⟩
def Te (K:a3) (a:ah):It :=
 ⟨λi H=>∃xs x,A0 K H a xs/\xs[i]?=ab x,
  λi H v H'=>∃p x,v=.ref p/\H p=af/\H'=zw H p (.tup [.int (i:Int),x])/\∀xs,A0 K H a xs->xs[i]?=ab x,
  λi H=>∃xs,A0 K H a xs/\xs.length<=i⟩
theorem xX {K:a3} (a it e:ah) (l1:a<it) (l2:it<e):
  Ch P w K (.Tuple F x1 W) (Te K a) [e,it] e (λi h=>(∃f,yi h e it (i:Int) f)/\h.IsTupleIter it a i) where
 mem:=n_
 obj:=λi h st c d=>by
  obtain⟨⟨f,l⟩,⟨o1,Q,_,d1⟩⟩:=st
  simp only[o_,B8,B7] at d
  rcases d with rfl | rfl
  ·
   exact⟨_,l,λv z=>by cases z⟩
  ·
   exact⟨_,Q,λv z=>by rw[d1] at z;cases z⟩
 keep:=λi h h' st k=>by
  obtain⟨⟨f,l⟩,t⟩:=st
  exact⟨⟨f,k e ze _ l⟩,t.at λo q=>k it ze o q⟩
 item:=by
  intro X O hw R d i g s Z H E I B st T
  subst O hw R
  obtain⟨xs,x,N,hx⟩:=T
  obtain⟨j,rv,p,hz⟩:=I.tuple N
  obtain⟨u,hu,ru⟩:=rv.get hx
  obtain⟨⟨f,l⟩,t⟩:=st
  have L:j.toArray[i]?=ab u:=by simpa using hu
  have m:a≠it:=P_ l1
  have n:e≠it:=EN l2
  have S:e≠a:=EN (FE l1 l2)
  have hef:e∉[it,a]:=by simp [n,S]
  have D:=SX (prog:=X.prog) (w:=X.w) (A:=X.A.in1) (I.ok.hd d) it a m j.toArray
  refine js (i:=i) D l ⟨t,p⟩ (Sf.mp L).1 n hef λr h' tk px ho hs' hT hsz kp=>?_
  have Q:r=u:=T_ (px.symm.trans L)
  subst Q
  obtain⟨hs1,hs2⟩:=hs'
  refine⟨_,rfl,gL ho λG J U=>?_⟩
  have Y:∀c o,c∉[e,it]->s.heap.get? c=ab o->G.get? c=ab o:=λc o y q=>(U.2 c λz=>y (z▸n_)).trans (kp c o (λz=>y (z▸n_)) (λz=>y (by simp [z])) q)
  have V:∀{c o},s.heap.get? c=ab o->s.heap.objs.size≠c:=λq=>EN (C_ q)
  have C:∀{c:ah},c∈[e,it]->c≠s.heap.objs.size:=λ{c} d=>by
   simp only[o_,B8,B7] at d
   rcases d with q | q <;> subst q
   ·
    exact aS (V l)
   ·
    obtain⟨o,q,_⟩:=t;exact aS (V q)
  have hTe:s.heap.objs.size≠e:=V l
  have I1:y4 X g Z (zw H s.heap.objs.size (.tup [.int (i:Int),x])) { s with heap:=s.heap.push { cls:=.type "tuple",data:=.seq #[.int (i:Int) tk,r]},toks:=tk+1} :=
   I.laid (t':=tk+1) (λb o q=>e_ _ q) (l_ _) (show Bz X.prog X.w _ _ _ (.tup [.int (i:Int),x]) from ⟨by show 2<=ai;decide,[.int (i:Int) tk,r],.cons ⟨tk,rfl⟩ (.cons ru .nil),EO.new _ _⟩)
  have I2:y4 X g Z (zw H s.heap.objs.size (.tup [.int (i:Int),x])) { s with heap:=G,toks:=tk+1}:=jd (s:={ s with heap:=s.heap.push { cls:=.type "tuple",data:=.seq #[.int (i:Int) tk,r]},toks:=tk+1}) (ch:=[e,it]) (t':=tk+1) I1 (λc o y q=>by
   by_cases z:c=s.heap.objs.size
   ·
    subst z
    have M:(s.heap.push { cls:=.type "tuple",data:=.seq #[.int (i:Int) tk,r]}).get? s.heap.objs.size=ab o:=q
    rw[t_ _ rfl] at M
    cases M
    exact (U.2 _ hTe).trans hT
   ·
    have M:(s.heap.push { cls:=.type "tuple",data:=.seq #[.int (i:Int) tk,r]}).get? c=ab o:=q
    rw[iP _ _ _ z] at M
    exact Y c o y M) λc d=>⟨by rw[aY (C d)];exact (B c d).1,(B c d).2⟩
  refine⟨.ref s.heap.objs.size,_,I2,rfl,⟨s.heap.objs.size,x,rfl,I.hok.fresh (l_ _),rfl,λzs hq'=>by rw[I.tuple_inj hq' N];exact hx⟩,⟨⟨r,?_⟩,hs1.at λo q=>(U.2 it (aS n)).trans q⟩,λc d=>by rw[aY (C d)];exact (B c d).1⟩
  exact J
 done:=by
  intro X O hw R d i g s Z H E I B st T
  subst O hw R
  obtain⟨xs,N,hx⟩:=T
  obtain⟨j,rv,p,hz⟩:=I.tuple N
  obtain⟨⟨f,l⟩,t⟩:=st
  have hl:=rv.length
  have m:a≠it:=P_ l1
  have D:=S5 (prog:=X.prog) (w:=X.w) (A:=X.A.in1) (I.ok.hd d) it a m j.toArray i (by simp;omega)
  exact kt D l ⟨rfl,t,p⟩ λh' eb=>⟨rfl,jd (ch:=[e,it]) (t':=s.toks) I (λb o nb q=>eb b o (λz=>nb (by simp [z])) q) B⟩
 self:=λ_ _ _ _ _ st h=>Pv st.1.choose_spec h
section
variable {B':List Expr}{x1:Nat}{D' ZT p:kc}
def Tf (K:a3) (te:TE):TI:=λZ H R=>te Z H λx b=>∃a,x=.ref a/\(∃xs,A0 K b a xs)/\R (Te K a) b
theorem Gd (v:Gl X "enumerate") (r:X.mg "enumerate"=af) (A:PE X e te) (m:aw [e] X.env=(am,bo e X.env)::aw [] X.env:=by rfl) (i:(bb ZT (aw [] X.env)).any (·.1)=am:=by rfl):
  PI X (.Tuple B' x1 D') (.Call (.Name "enumerate" p) [e] [] ZT) (Tf X.K te):=by
 intro f s Z H R I h;refine Ee (dq I v r jU ?_ y6 y6);refine Z_ ?_ m i;rw[m];show ax _ _ (eK ((am,bo e X.env)::bb ZT (aw [] X.env))) _ _ s;refine ES (z3 (A f s Z H _ I h) λu b ⟨x,D,g,t,a,n,⟨xs,B⟩,q⟩=>?_);subst n;cases t;refine FA ?_;obtain⟨w,G,l,_⟩:=g.tuple B;have E:a<b.heap.objs.size:=let ⟨o,e,_⟩:=l;C_ e;refine jC l λh' j C F y=>Pv j ?_;refine⟨b.heap.objs.size+1,[b.heap.objs.size+1,b.heap.objs.size],_,_,D,rfl,g.kept (t':=b.toks) y,xX a b.heap.objs.size (b.heap.objs.size+1) E (IL _),⟨⟨.none,j⟩,C⟩,λc k=>?_,q⟩;have d:b.heap.objs.size<=c:=by
  simp only[o_,B8,B7] at k;rcases k with z | z <;> subst z
  .exact ID _
  exact l_ _
 exact g.fpOk d (g.hok.fresh d)
def Tg (x:T) (H:gV) (R:List T->(gV->Prop)->gV->Prop):Prop:=match x with
 |.tup ts=>R (fU 0 ts) cC H
 |_=>False
def zT (te:zS):EJ:=λZ H R=>te Z H λx a=>Tg x a R
theorem Ge (te:zS):zT te Z H R=te Z H λx a=>Tg x a R:=rfl
theorem Th (ts:List T):Tg (.tup ts) H R=R (fU 0 ts) cC H:=rfl
theorem xY {K:a3} (n:A0 K H a xs) (f:jj K H ts xs):jt K (Te K a) (fU 0 ts) cC H:=λH' d h o st=>by
 have r:=f.length;have b:=h _ _ n;refine⟨λi k=>⟨xs,b,by rw[lC] at k;omega⟩,λi t e=>?_⟩;rw[lB] at e;cases q:ts[i]? with
 |none=>rw[q] at e;cases e
 |some x =>
 rw[q] at e;cases e;obtain⟨v,g,j⟩:=f.get q;refine⟨⟨xs,v,b,g⟩,λz l y=>?_⟩;obtain⟨p,s,rfl,c,rfl,m⟩:=y;have:=(m xs b).symm.trans g;cases this;refine⟨aO c,o.new c,?_⟩;rw[show (0:Int)+(i:Int)=(i:Int) from yT];exact xr.newTup (H3:=d) c (.cons .ofInt (.cons (j.mono h) .nil))
theorem oX (n:Gl X "enumerate") (i:X.mg "enumerate"=af) (m:Z7 X e te) (l:aw [e] X.env=(am,bo e X.env)::aw [] X.env:=by rfl) (c:(bb ZT (aw [] X.env)).any (·.1)=am:=by rfl):
  Fu X (.Tuple B' x1 D') (.Call (.Name "enumerate" p) [e] [] ZT) (zT te):=by
 refine PI.imp (Gd n i m l c) ?_;rintro Z H R ⟨u,H3,R3,g,s,h,k⟩;refine⟨u,H3,_,g,s,h,λv H' t b o d r q=>?_⟩;cases t with
 |tup ts=>obtain⟨a,xs,rfl,f,j⟩:=r.tup;exact⟨a,rfl,⟨xs,f⟩,k _ _ cC H' b o d (xY f j) q⟩
 |_=>exact q.elim
def PH (o:Option O3) (H:gV) (Q:Z1):Prop:=match o with
 |some (.lst xs)=>oq (cU xs) λa=>Q (.bl (a.any id)) H
 |some (.rol xs)=>oq (cU xs) λa=>Q (.bl (a.any id)) H
 |_=>False
def Oq:List T->gV->Z1->Prop:=λts H Q=>match ts with
 |[.ref a]=>PH (H a) H Q
 |_=>False
theorem Xy (a:ah):Oq [.ref a] H Q=PH (H a) H Q:=rfl
theorem Xz (xs:List T):PH (ab (.lst xs)) H Q=oq (cU xs) λa=>Q (.bl (a.any id)) H:=rfl
theorem Fs (c:List Bool):(ae c.length).any (λi=>c.getD i ag)=c.any id:=by
 rw[CA,F7,F7];constructor
 .rintro⟨i,d,h⟩;have a:=K_.mp d;refine⟨c[i],C6 a,?_⟩;simpa [xA,a] using h
 rintro⟨b,e,h⟩;obtain⟨i,d,rfl⟩:=List.mem_iff_getElem.mp e;refine⟨i,K_.mpr d,?_⟩;simpa [xA,d] using h
theorem Ti (O:X.calm=ag):dO X (.builtin "any") Oq:=by
 intro m s Z H xs us Q I R h;obtain⟨ts,H3,J,r,D,h,k⟩:=h
 match ts,h,r with
 |[.ref a],h,r =>
 obtain⟨v,rfl,y⟩:=r.one';obtain⟨u,rfl,G⟩:=AQ R;rw[y.ref] at G;cases G;have f:∀{g:List T} {t:List V},A8 X.K H a t->jj X.K H g t->oq (cU g) (λd=>J (.bl (d.any id)) H3)->ax (aI X.prog X.w) X.A (jS (.builtin "any") [.ref a]) (EP X m Z Q) X.xe s:=by
  intro g t l p q;cases e:cU g with
  |none=>rw[e] at q;exact q.elim
  |some d =>
  rw[e] at q;obtain⟨P,F,E,_⟩:=I.list l;have N:=lY e p F;subst N;have x:a≠s.heap.objs.size:=λz=>by obtain⟨o,n,j,_⟩:=E;have:=C_ j;rw[z] at this;exact BS _ this
  refine call_any_walk (P8 E.isList ?_);refine⟨s.heap.objs.size,_,_,_,_,_,λi=>d.getD i ag,rfl,Walks.list (A:=X.A.in1) (I.ok.hd O) s.heap.objs.size a x (d.map ff).toArray,⟨⟨_,t_ _ rfl,rfl,rfl⟩,E.isList.push _⟩,λi v s' U W M B=>?_,λh' tk S=>?_⟩
  .have c:(d.map ff)[i]?=ab v:=by simpa using M
   rw[u_] at c;cases C:d[i]? with
   |none=>rw[C] at c;cases c
   |some b =>
   rw[C] at c;cases c;have:d.getD i ag=b:=by simp [xA,C]
   dsimp only at B;rw[this] at B;exact L6 B
  have L:(d.map ff).toArray.size=d.length:=ze
  rw[L,Fs];refine⟨.bl (d.any id),H,I.kept λb o e=>S b o (λz=>?_) (e_ _ e),rfl,k _ _ _ _ .refl D .ofBl q⟩;have:=C_ e;rw[i_.mp z] at this;exact BS _ this
 have h':PH (H3 a) H3 J:=h;cases j:H3 a with
 |none=>rw[j] at h';exact h'.elim
 |some o =>
 rw[j] at h';cases o with
 |lst g=>obtain⟨t,l,p⟩:=D.sqL (.inl j);exact f l p h'
 |rol g=>obtain⟨t,l,p⟩:=D.sqL (.inr j);exact f l p h'
 |_=>exact h'.elim
def Gf:List T->gV->Z1->Prop:=λts H Q=>match ts with
 |[.int i,.int j]=>Q (.int (if j>i then j else i)) H
 |_=>False
theorem Tj (i j:Int):Gf [.int i,.int j] H Q=Q (.int (if j>i then j else i)) H:=rfl
theorem Ku (f:X.calm=ag):dO X (.builtin "max") Gf:=by
 intro a s Z H xs us Q I d h;obtain⟨ts,H3,t,r,l,h,k⟩:=h
 match ts,h,r with
 |[.int i,.int j],h,r =>
 obtain⟨v,n,rfl,e,g⟩:=r.two';obtain⟨u,o,rfl,b,c⟩:=JJ d;rw[e.int] at b;rw[g.int] at c;obtain⟨p,rfl⟩:=b;obtain⟨q,rfl⟩:=c;refine max_two_ints (I.ok.hd f) λh' tk m=>?_;refine⟨.int (if j>i then j else i),H,I.kept m,?_,k _ _ _ _ .refl l .ofInt h⟩;by_cases z:j>i
 .rw[zi z,zi z];exact⟨_,rfl⟩
 rw[y9 z,y9 z];exact⟨_,rfl⟩
theorem xZ:dh X (br .BitAnd) (tE λi j=>.int (a5 i j)):=oE Q9 λ_ _ _=>.ofInt
theorem XC:dh X (br .BitOr) (tE λi j=>.int (eg i j)):=oE V5 λ_ _ _=>.ofInt
theorem yc:ba "max"=ab (.builtin "max"):=by decide +kernel
theorem Tn:ba "min"=ab (.builtin "min"):=by decide +kernel
end
theorem aZ {N P:List ap}{h:Scope}(a:h.kind=.function:=by rfl) (b:h.isCoroutine=am:=by rfl) (c:h.isGenerator=am:=by rfl) (d:N.Nodup:=by decide +kernel) (e:N.take P.length=P:=by rfl)
 (f:∀x∈P,h.names.lookup x=ab .local\/h.names.lookup x=ab .cell:=by decide +kernel) (g:∀y∈h.names,y.2≠.free:=by decide +kernel):fY N P h:=⟨a,b,c,d,e,f,g⟩
theorem Kv {p:Prop} [Decidable p] (h:¬p):¬(decide p=ag) := λe=>h (DB e)
theorem T1 (h:H a=ab u) (b:H q=af):eH H q o a=ab u := by rw[aD (aR h b)];exact h
structure R8 (P:bX) (w:bP) (K:a3) (mg:ap->Option av) (base:cK) (k:Nat) (x:ap) (st:eB) (ps:List ap) (sp:Au):Prop where
 ex:∃(f:ah) (fd:de),G3 K mg x st ps f fd/\lW P w K mg base k f fd ps sp
theorem Tp {st:eB}{p a:kc} (D:R8 X.prog X.w X.K X.mg X.base k x st i sp) (j:Pr k X.A) (n:Gl X x) (l:DZ X (e::c) t) (h:(x==("__debug__":ap))=am:=by decide) (o:aw (e::c) X.env=(am,bo e X.env)::aw c X.env:=by rfl) (d:(bb a (aw c X.env)).any (·.1)=am:=by rfl):
  Z7 X (.Call (.Name x p) (e::c) [] a) (tD sp t):=by
 obtain⟨f,q,g,F⟩:=D.ex;exact J5 F j n g.m g.fn.kp g.b l h o d
theorem aH {st:eB}{p a:kc} (D:R8 X.prog X.w X.K X.mg X.base k x st f sp) (g:Pr j X.A) (i:Gl X x) (h:DZ X (e::b) t) (m:k<=j:=by decide) (d:(x==("__debug__":ap))=am:=by decide) (l:aw (e::b) X.env=(am,bo e X.env)::aw b X.env:=by rfl) (c:(bb a (aw b X.env)).any (·.1)=am:=by rfl):Z7 X (.Call (.Name x p) (e::b) [] a) (tD sp t):=Tp D (g.mono m) i h d l c
def SB (o:Option O3) (k:Int) (H:gV) (Q:Z1):Prop:=match o with
 |some (.lst xs)=>(-(2^63)<=k/\k<2^63/\xs.length*k.toNat<=ai)/\∀p,H p=af->Q (.ref p) (eH H p (.lst (a4 k.toNat xs).flatten))
 |_=>False
def Ot:R3:=λx y H Q=>match x,y with
 |.ref a,.int k=>SB (H a) k H Q
 |_,_=>False
theorem Ou (a:ah) (k:Int) (H:gV) (Q:Z1):Ot (.ref a) (.int k) H Q=SB (H a) k H Q:=rfl
theorem Ov (xs:List T) (k:Int) (H:gV) (Q:Z1):SB (ab (.lst xs)) k H Q=((-(2^63)<=k/\k<2^63/\xs.length*k.toNat<=ai)/\∀p,H p=af->Q (.ref p) (eH H p (.lst (a4 k.toNat xs).flatten))):=rfl
theorem jj.rep {K:a3} (r:jj K H ts vs):∀k:Nat,jj K H (a4 k ts).flatten (a4 k vs).flatten
 |0=>.nil
 |k+1=>by rw[Lu,Lu,IU,IU];exact r.append (jj.rep r k)
theorem Tr:dh X (br .Mult) Ot:=by
 refine AO.imp Rr ?_;rintro x y H Q ⟨q,g,H3,s,m,f,c,h,k⟩;cases q with
 |ref a =>
  cases g with
  |int n =>
   rw[Ou] at h;cases e:H3 a with
   |none=>rw[e] at h;exact h.elim
   |some o =>
   rw[e] at h;cases o with
   |lst xs=>rw[Ov] at h;obtain⟨vs,i,d⟩:=c a _ e;obtain⟨⟨j,l,r⟩,h'⟩:=h;refine⟨a,n,vs,m.ref,f.int,i,j,l,by rw[<- d.length];exact r,λp b=>?_⟩;exact k _ _ _ _ (aO b) (c.newLst b (d.rep n.toNat)) .ofRef (h' p (c.fresh b))
   |_=>exact h.elim
  |_=>exact h.elim
 |_=>exact h.elim
theorem YI:xo "list_reverseiterator" "__length_hint__" "list_reverseiterator.__length_hint__":=.of (owner:="list_reverseiterator") (n:="__length_hint__") (by rw[F6,F5];kernel_rfl) Ap Ap Ap
 (by first | exact .inr Ap | exact .inl Ap) (by rw[G1];kernel_rfl)
theorem Gg:fb (.type "list_reverseiterator") "__len__"=bE af:=by rw[F6,F5];kernel_rfl
theorem Tt:isSubtype (.type "list_reverseiterator") (.type "list_reverseiterator")=bE ag:=by rw[G1];kernel_rfl
theorem Gh {a b:Array av}(h:gy (λi v=>a[a.size - 1 - i]?=ab v) b a.size):b=a.reverse:=by
 refine Array.ext (by rw[h.1];simp) λj c e=>?_;have q:a[a.size - 1 - j]?=ab b[j]:=h.2 j b[j] (O_ c);have d:j<a.size:=by rw[<- h.1];exact c
 rw[O_ yT] at q;rw[lb];exact (T_ q).symm
theorem Cu (B:A.handled=af) (t:l≠I) (hsz:c.size<=ai) (m:S∉[I,l]) (h:s.heap.IsRevIter I l ((c.size:Int) - 1)) (D:s.heap.IsList l c) (E:s.heap.get? S=ab { cls:=.type "list",data:=.seq #[] o}) (G:∀s' d k,sv (S::[I]) (λa b=>b=a) s s'->s'.heap.get? S=ab { cls:=.type "list",dict:=af,data:=.seq d k,slots:=#[]}->gy (λi v=>c[c.size - 1 - i]?=ab v) d c.size->R (.ok (.ret res)) s'):
  ax (aI prog w) A.in1 (a7 (.ref S) (.ref I) res)
   (λu s'=>match u with | .done f=>R (.ok f) s' | .again k=>k.quiet=ag/\dy (aI prog w) A k R s') (λe s'=>R (.error e) s') s:=by
 have W:=(Walks.listRev (prog:=prog) (w:=w) (A:=A.in1) B I l t c).toS;have q:S≠I:=λe=>m (e▸n_);have st:(λ(i:Nat) (s:aE)=>i<=c.size/\s.heap.IsRevIter I l ((c.size:Int) - 1 - (i:Int))/\s.heap.IsList l c) 0 s:=⟨B6 _,by simpa using h,D⟩;have g:s.TypeIs (.ref I) "list_reverseiterator":=h.typeIs;unfold a7;refine a_ (GA g ?_);have z:cv (.ref S) (.ref I)=am:=by simp [cv,q]
 have C:(ci "list_reverseiterator"==ci "list")=am:=by decide
 have x:(ci "list_reverseiterator"==ci "tuple")=am:=by decide
 simp only[z,C,x,ja,H_,Y_];refine a_ (fq h ?_);refine a_ (DF ?_);unfold c_;refine a_ (Ix g Gg ?_);show ax _ A.in1 (xv (a8 I) (cx "__length_hint__") >>= _) _ _ _;refine a_ (Ix g YI.lookup ?_);generalize j:("list_reverseiterator.__length_hint__":String)=n
 (fail_if_success (clear j n))
 wp_delta
 rw[show splitId n=ab ("list_reverseiterator","__length_hint__") from by subst j;decide +kernel];subst j;refine a_ (MW (b:=ag) g Tt ?_);rw[y9 (show ¬(!ag)=ag from B_)];dsimp only;rw[zi Ap];rw[y9 (show ¬((nc "list_reverseiterator.__length_hint__"==nc "range_iterator.__length_hint__")=ag) from y6)];refine h_ ?_;try rw[y9 B_]
 refine h_ ⟨F0 f7 _,?_⟩;exact fr W hsz _ m _ c.size 0 _ _ _ rfl (B6 _) st E (ItemsOf.nil _) λs' d k y r p=>G s' d k y r p
theorem Kz (F:A.handled=af) (t:l≠I) (hsz:d.size<=ai) (k:S∉[I,l]) (q:s.heap.IsRevIter I l ((d.size:Int) - 1)) (J:s.heap.IsList l d) (z:s.heap.get? S=ab { cls:=.type "list",data:=.seq #[]}) (H:∀s' g n,sv (S::[I]) (λa b=>b=a) s s'->s'.heap.get? S=ab { cls:=.type "list",dict:=af,data:=.seq g n,slots:=#[]}->gy (λi v=>d[d.size - 1 - i]?=ab v) g d.size->R (.ok (.ret .none)) s'):
  ax (aI prog w) A.in1 (cn.«list.__init__» ⟨[.ref S,.ref I],[]⟩)
   (λy s'=>match y with | .done f=>R (.ok f) s' | .again n=>n.quiet=ag/\dy (aI prog w) A n R s') (λe s'=>R (.error e) s') s:=by
 show ax _ A.in1 (do let x <- kL (.ref S);ko (.ref S) (λ_=>#[]);letGo x.toList.reverse;a7 (.ref S) (.ref I) .none) _ _ s;refine a_ ?_;unfold kL;refine a_ (Mo z rfl (h_ ?_));show ax _ A.in1 (mm S (λ_=>#[]) >>= λ_=>letGo (#[]:Array av).toList.reverse >>= λ_=>a7 (.ref S) (.ref I) .none) _ _ s;refine a_ (NW z rfl ?_);have j:=F9 (ce (λ_=>(#[]:Array av))) z rfl;have m:∀b o,b≠S->s.heap.get? b=ab o->(s.heap.update S (ce (λ_=>(#[]:Array av)))).get? b=ab o :=
  λb o u e=>(HL _ _ (aS u)).trans e
 refine a_ (wpAny_letGo ?_);have E:I≠S:=λe=>k (by simp [e]);have B:l≠S:=λe=>k (by simp [e]);refine Cu F t hsz k (q.at λo e=>m _ o E e) (J.at λo e=>m _ o B e) j λs' g n C r p=>?_;exact H s' g n (Moved.trans (G:=λa b=>b=a) (λa b c K D=>D.trans K) ((Moved.refl (G:=λa b=>b=a) λ_=>rfl).then_heap (l_ _) λb o u e=>m b o (λh=>u (h▸n_)) e) C) r p
theorem qm (y:A.handled=af) (q:l≠I) (hsz:c.size<=ai) (i:s.heap.IsRevIter I l ((c.size:Int) - 1)) (v:s.heap.IsList l c) (z:∀s' t,sv (s.heap.objs.size::[I]) (λa b=>b=a) { s with heap:=s.heap.push { cls:=.type "list",data:=.seq #[]}} s' ->
   s'.heap.get? s.heap.objs.size=ab { cls:=.type "list",dict:=af,data:=.seq c.reverse t,slots:=#[]}->Q (.ref s.heap.objs.size) s'):
  ax (aI prog w) A (jS (.type "list") [.ref I]) Q E s:=by
 have h:I<s.heap.objs.size:=by obtain⟨o,r,_⟩:=i;exact C_ r
 have g:l<s.heap.objs.size:=by obtain⟨o,r,_⟩:=v;exact C_ r
 have m:s.heap.objs.size∉[I,l]:=λn=>by
  rcases o_.mp n with e | e
  .rw[<- e] at h;exact BS _ h
  rw[<- i_.mp e] at g;exact BS _ g
 refine lP (Q₁:=λf d=>f=.ref s.heap.objs.size/\d={ s with heap:=s.heap.push { cls:=.type "list",data:=.seq #[]}}) F.called_list (F.typeCall_list_1 _) F.entry_list_init
  (code_list_new _ ⟨rfl,rfl⟩) λf d j=>?_
 obtain⟨rfl,rfl⟩:=j;have x:(s.heap.push { cls:=.type "list",data:=.seq #[]}).get? s.heap.objs.size=ab { cls:=.type "list",data:=.seq #[]}:=t_ _ rfl;refine⟨⟨_,x,rfl⟩,F.args_list_init_2 _ _,Kz (A:=A.in1) y q hsz m (i.at λo e=>e_ _ e) (v.at λo e=>e_ _ e) x λs' u t n p k=>?_⟩;refine⟨rfl,z s' t n ?_⟩;rw[<- Gh k];exact p
def SG (K:a3) (a:ah) (n:Nat):It :=
 ⟨λi H=>∃xs x,A8 K H a xs/\xs.length=n/\i<n/\xs[n - 1 - i]?=ab x,λi H x H'=>H'=H/\∀xs,A8 K H a xs->xs[n - 1 - i]?=ab x,λi _=>n<=i⟩
theorem Gi {K:a3} (a it:ah) (n:Nat):Ch P w K W (SG K a n) [it] it (λi h=>i<=n/\h.IsRevIter it a ((n:Int) - 1 - (i:Int))) where
 mem:=by simp
 obj:=λi h st b j=>by
  have e:b=it:=by simpa using j
  subst e
  obtain⟨_,o,e,c,d⟩:=st
  exact⟨o,e,λv z=>by rw[d] at z;cases z⟩
 keep:=λi h h' st k=>⟨st.1,st.2.at λo e=>k it ze o e⟩
 item:=by
  intro X q C r G i f s Z H E I l st B
  subst q C r
  obtain⟨xs,x,F,hn,S,J⟩:=B
  obtain⟨U,rv,p,hz⟩:=I.list F
  obtain⟨u,Q,M⟩:=rv.get J
  obtain⟨y,t,f2,D,m,A⟩:=l it ze
  have e:(n:Int) - 1 - (i:Int)=((n - 1 - i:Nat):Int):=yT
  obtain⟨_,st⟩:=st
  rw[e] at st
  refine wpAny_pyNext_rev_item st p.isList (x:=u) (by simpa using Q) λh' g V=>?_
  have R:y4 X f Z H { s with heap:=h'}:=I.turned (t':=s.toks) (λb o j e=>(V.2 b j).trans e) y t D m A
  obtain⟨o,O,c,d⟩:=id g
  have L:((n - 1 - i:Nat):Int) - 1=(n:Int) - 1 - ((i+1:Nat):Int):=yT
  rw[L] at g
  exact⟨u,rfl,uL (s:={ s with heap:=h'}) O c d y6 ⟨x,H,R,M,⟨rfl,λys T=>by rw[I.list_inj T F];exact J⟩,⟨S,g⟩,λb j=>(l b j).1⟩⟩
 done:=by
  intro X q C r G i f s Z H E I l st B
  subst q C r
  obtain⟨y,t,f2,D,m,A⟩:=l it ze
  obtain⟨N,st⟩:=st
  have hge:n<=i:=B
  have e:(n:Int) - 1 - (i:Int) = -1:=yT
  rw[e] at st
  exact wpAny_pyNext_rev_end (I.ok.hd G) st λh' Y=>⟨rfl,I.turned (t':=s.toks) (λb o j e=>Y b o j e) y t D m A⟩
 self:=λ_ _ _ _ _ st h=>fq st.2 h
theorem mj:ba "reversed"=ab (.type "reversed"):=by decide +kernel
section
variable {X:Cx}{tg e:Expr}{p p1 p2 ZT b':kc}
def XV (K:a3) (te:TE):TI:=λZ H R=>te Z H λx b=>∃a xs,x=.ref a/\A8 K b a xs/\R (SG K a xs.length) b
theorem Tu (v:Gl X "reversed") (r:X.mg "reversed"=af) (z:PE X e te) (l:aw [e] X.env=(am,bo e X.env)::aw [] X.env:=by rfl) (j:(bb ZT (aw [] X.env)).any (·.1)=am:=by rfl):
  PI X tg (.Call (.Name "reversed" p) [e] [] ZT) (XV X.K te):=by
 intro d s Z H R I h;refine Ee (dq I v r mj ?_ y6 y6);refine Z_ ?_ l j;rw[l];show ax _ _ (eK ((am,bo e X.env)::bb ZT (aw [] X.env))) _ _ s;refine ES (z3 (z d s Z H _ I h) λu c ⟨x,C,g,t,a,xs,m,n,q⟩=>?_);subst m;cases t;refine FA ?_;obtain⟨i,A,B,hz⟩:=g.list n;have f:=A.length;refine nw B.isList ?_;have y:((i.toArray.size:Nat):Int) - 1=(xs.length:Int) - 1:=by simp [f]
 rw[y];have k:(c.heap.push (ya a ((xs.length:Int) - 1))).IsRevIter c.heap.objs.size a ((xs.length:Int) - 1):=⟨_,t_ _ rfl,rfl,rfl⟩;refine fq k ?_;refine⟨c.heap.objs.size,[c.heap.objs.size],_,_,C,rfl,g.kept (t':=c.toks) λb o e=>e_ _ e,Gi a c.heap.objs.size xs.length,⟨B6 _,by simpa using k⟩,λb w=>?_,q⟩;have e:b=c.heap.objs.size:=by simpa using w
 subst e;exact g.fpOk (l_ _) (g.hok.fresh (l_ _))
def Qb (o:Option O3) (a:ah) (H:gV) (R:List T->(gV->Prop)->gV->Prop):Prop:=match o with
 |some (.lst ts)=>R ts.reverse (bZ a ts) H
 |_=>False
def Ow (te:zS):EJ:=λZ H R=>te Z H λx b=>match x with
 |.ref a=>Qb (b a) a b R
 |_=>False
theorem Gj {K:a3}{xs:List V} (n:xs.length=ts.length):jt K (SG K a xs.length) ts.reverse (bZ a ts) H:=λH' m p h st=>by
 obtain⟨d,g,c⟩:=h.sqL st;have l:=c.length;rw[n];refine⟨λi b=>by rw[CH] at b;exact b,λi t e=>?_⟩;have b:i<ts.length:=by have:=(HV.mp e).1;rw[CH] at this;exact this
 rw[LZ b] at e;obtain⟨v,f,k⟩:=c.get e;refine⟨⟨d,v,g,l.symm,b,f⟩,λx o y=>?_⟩;obtain⟨j,y⟩:=y;subst j;have:=y d g;rw[f] at this;cases this;exact⟨.refl,h,k⟩
theorem Tv (s:Gl X "reversed") (i:X.mg "reversed"=af) (m:Z7 X e te) (l:aw [e] X.env=(am,bo e X.env)::aw [] X.env:=by rfl) (f:(bb ZT (aw [] X.env)).any (·.1)=am:=by rfl):
  Fu X tg (.Call (.Name "reversed" p) [e] [] ZT) (Ow te):=by
 refine PI.imp (Tu s i m l f) ?_;rintro Z H R ⟨x,H3,R3,g,w,h,k⟩;refine⟨x,H3,_,g,w,h,λv H' t b u d r q=>?_⟩;cases t with
 |ref a =>
  have c:Qb (b a) a b R3:=q
  cases e:b a with
  |none=>rw[e] at c;exact c.elim
  |some o =>
   rw[e] at c
   cases o with
   |lst ts =>
    obtain⟨xs,n,j⟩:=d.sqL (.inl e)
    exact⟨a,xs,r.ref,n,k _ _ (bZ a ts) H' b u d (Gj j.length.symm) c⟩
   |_=>exact c.elim
 |_=>exact q.elim
theorem Tw (te:zS) {Z:AJ}{H:gV}{R:List T->(gV->Prop)->gV->Prop}:Ow te Z H R=te Z H λx b=>match x with
 |.ref a=>Qb (b a) a b R
 |_=>False:=rfl
theorem XD (ts:List T) (a:ah) (H:gV) (R:List T->(gV->Prop)->gV->Prop):Qb (ab (.lst ts)) a H R=R ts.reverse (bZ a ts) H:=rfl
def Tz (te:TE):TE:=λZ H Q=>te Z H λx a=>∃p b,x=.ref p/\A8 X.K a p b/\∀l,a l=af->Q (.ref l) (zw a l (.lst b.reverse))
theorem Gk (K:X.calm=ag) (v:Gl X "list") (r:X.mg "list"=af) (l:Gl X "reversed") (k:X.mg "reversed"=af) (P:PE X e te) (y:aw [e] X.env=(am,bo e X.env)::aw [] X.env:=by rfl) (f:(bb ZT (aw [] X.env)).any (·.1)=am:=by rfl) (i:(bb b' (aw [] X.env)).any (·.1)=am:=by rfl):
  PE X (.Call (.Name "list" p1) [.Call (.Name "reversed" p2) [e] [] b'] [] ZT) (Tz (X:=X) te):=by
 intro c s Z H Q I h;refine Ee (dq I v r jT ?_ y6 y6);refine Z_ ?_ rfl f;show ax _ _ (eK ((am,bo (.Call (.Name "reversed" p2) [e] [] b') X.env)::bb ZT (aw [] X.env))) _ _ s;refine ES ?_;refine Ee (dq I l k mj ?_ y6 y6);refine Z_ ?_ y i;rw[y];show ax _ _ (eK ((am,bo e X.env)::bb b' (aw [] X.env))) _ _ s;refine ES (z3 (P c s Z H _ I h) λu s1 ⟨x,D,j,J,p,O,N,F,q⟩=>?_);subst N;cases J;obtain⟨a,A,t,hz⟩:=j.list F;have B:=A.length;have hsz:a.toArray.size<=ai:=by simp only[p_];omega
 refine FA ?_;refine nw t.isList ?_;refine FA ?_;have f:p<s1.heap.objs.size:=by obtain⟨o,R,_⟩:=t.isList;exact C_ R
 have m:(s1.heap.push (ya p ((a.toArray.size:Int) - 1))).IsRevIter s1.heap.objs.size p ((a.toArray.size:Int) - 1):=⟨_,t_ _ rfl,rfl,rfl⟩;refine qm (s:={ s1 with heap:=s1.heap.push (ya p ((a.toArray.size:Int) - 1))}) (j.ok.hd K) (P_ f) hsz m (t.isList.at λo e=>e_ _ e) λs' S g C=>?_;generalize n:(s1.heap.push (ya p ((a.toArray.size:Int) - 1))).objs.size=z at g C;have d:s1.heap.objs.size<z:=by rw[<- n];simp [Heap.push]
 have L:∀b u,s1.heap.get? b=ab u->s'.heap.get? b=ab u:=λb u w=>g.heap b u (λM=>by
  have:=C_ w
  rcases o_.mp M with e | e
  ·
   rw[e] at this;exact As (FE this d) (BS _)
  ·
   rw[i_.mp e] at this;exact BS _ this) (e_ _ (e_ _ w))
 have G:s'={ s1 with heap:=s'.heap,toks:=s'.toks}:=by
  obtain⟨Y,U,T,W,V⟩:=s';have:=g.gens;have:=g.drawn;have:=g.os
  simp_all
 have E:y4 X c Z (zw D z (.lst O.reverse)) { s1 with heap:=s'.heap,toks:=s'.toks} :=
  j.laid (t':=s'.toks) L (D4 d) ⟨by rw[CH];exact hz,a.reverse,S,A.reverse,by simpa using C⟩
 rw[G];exact⟨.ref z,_,E,rfl,q _ (j.hok.fresh (D4 d))⟩
def QO (o:Option O3) (H:gV) (Q:Z1):Prop:=match o with
 |some (.lst xs)=>∀p,H p=af->Q (.ref p) (eH H p (.lst xs.reverse))
 |_=>False
def zU (te:zS):zS:=λZ H Q=>te Z H λx b=>match x with
 |.ref a=>QO (b a) b Q
 |_=>False
theorem Gm (z:X.calm=ag) (p:Gl X "list") (j:X.mg "list"=af) (i:Gl X "reversed") (g:X.mg "reversed"=af) (D:Z7 X e te) (B:aw [e] X.env=(am,bo e X.env)::aw [] X.env:=by rfl) (n:(bb ZT (aw [] X.env)).any (·.1)=am:=by rfl) (d:(bb b' (aw [] X.env)).any (·.1)=am:=by rfl):
  Z7 X (.Call (.Name "list" p1) [.Call (.Name "reversed" p2) [e] [] b'] [] ZT) (zU te):=by
 refine PE.imp (Gk z p j i g D B n d) ?_;rintro Z H Q ⟨x,H3,y,s,C,h,k⟩;refine⟨x,H3,_,s,C,h,λv H' t c w b r q=>?_⟩;cases t with
 |ref a =>
  have f:QO (c a) c y:=q
  cases e:c a with
  |none=>rw[e] at f;exact f.elim
  |some o =>
   rw[e] at f
   cases o with
   |lst ts =>
    obtain⟨xs,u,A⟩:=b.sqL (.inl e)
    exact⟨a,xs,r.ref,u,λl m=>k _ _ _ _ (w.trans (aO m)) (b.newLst m A.reverse) .ofRef (f l (b.fresh m))⟩
   |_=>exact f.elim
 |_=>exact q.elim
theorem KD (te:zS) {Z:AJ}{H:gV}{Q:Z1}:zU te Z H Q=te Z H λx b=>match x with
 |.ref a=>QO (b a) b Q
 |_=>False:=rfl
theorem XF (xs:List T) (H:gV) (Q:Z1):QO (ab (.lst xs)) H Q=∀p,H p=af->Q (.ref p) (eH H p (.lst xs.reverse)):=rfl
variable {ZY ZU:kc}{Ty id:String}
def Ox (b:String) (m:T->List T->gV->Z1->Prop) (c:zS):zS:=λZ H Q=>c Z H λx a=>OF b x a/\m x [] a Q
theorem TF (p:nI Ty) (c:xo Ty name id) (f:x9 (.builtin id)=bE (.type "method_descriptor")) (q:sX X id m) (n:Z7 X o to)
  (b:cS o name X.env (bo o X.env)=bo o X.env:=by rfl) (a:(ZY.endLine==ZU.line)=ag:=by rfl) :
  Z7 X (.Call (.Attribute o name ZY) [] [] ZU) (Ox Ty m to):=by
 refine PE.imp (Ro p c f q n b a) ?_;rintro Z H Q ⟨u,H3,s,l,t,h,k⟩;exact⟨u,H3,_,l,t,h,λx v r g e d i j=>⟨N8 d i j.1,r,[],g,s,i,.nil,d,j.2,k.at e⟩⟩
def KH:V->List V->Hp->VK->Prop:=λx vs H Q=>∃l xs i y,x=.ref l/\vs=[.int i,y]/\H l=ab (.lst xs)/\0<=i/\i<=xs.length/\xs.length<ai/\Q .non (zw H l (.lst (xs.take i.toNat++y::xs.drop i.toNat)))
theorem Cv:E7 X "list.insert" KH:=by
 intro c s Z H x vs v us Q I k j h;obtain⟨l,xs,i,y,rfl,rfl,d,p,w,hz,q⟩:=h;cases k;obtain⟨u,f,rfl,m,b⟩:=JJ j;obtain⟨t,rfl⟩:=m;obtain⟨z,a,n,r,o,e⟩:=I.lstM d;have hsz:ai=16777216:=rfl;have g:¬(!dk i)=ag:=by rw[lx yT yT];exact B_
 refine II F.slot_list_insert ⟨_,e,rfl⟩ F.entry_list_insert (F.args_list_insert_3 _ _ _) (AutoSeq1.list_insert_list_int_val_1 l a.toArray n i t f g (by rw[p_];omega)) ⟨e,?_⟩;refine⟨.non,_,I.lset (its':=a.take i.toNat++f::a.drop i.toNat) d e ?_ ((r.take _).append (.cons b (r.drop _))) ?_,rfl,q⟩
 .dsimp only;rw[y9 yT,p_,fF yT];apply Array.toList_inj.mp;simp;exact M0 ze
 rw[b_,j_,FG,KM];omega
def TJ (o:Option O3) (a:ah) (i:Int) (t:T) (H:gV) (Q:Z1):Prop:=match o with
 |some (.lst xs)=>(0<=i/\i<=xs.length/\xs.length<ai)/\Q .non (eH H a (.lst (xs.take i.toNat++t::xs.drop i.toNat)))
 |_=>False
def Oz:T->List T->gV->Z1->Prop:=λx ts H Q=>match x,ts with
 |.ref a,[.int i,t]=>TJ (H a) a i t H Q
 |_,_=>False
theorem OD (a:ah) (i:Int) (t:T) (H:gV) (Q:Z1):Oz (.ref a) [.int i,t] H Q=TJ (H a) a i t H Q:=rfl
theorem Gn (xs:List T) (a:ah) (i:Int) (t:T) (H:gV) (Q:Z1):TJ (ab (.lst xs)) a i t H Q=((0<=i/\i<=xs.length/\xs.length<ai)/\Q .non (eH H a (.lst (xs.take i.toNat++t::xs.drop i.toNat)))):=rfl
theorem Cw:sX X "list.insert" Oz:=by
 refine E7.imp Cv ?_;rintro x xs H Q ⟨q,ts,H3,y,p,j,f,h,k⟩;cases q with
 |ref a =>
  cases ts with
  |nil=>exact h.elim
  |cons c ts =>
  cases ts with
  |nil=>cases c <;> exact h.elim
  |cons w ts =>
  cases ts with
  |cons _ _=>cases c <;> exact h.elim
  |nil =>
  cases c with
  |int i =>
   rw[OD] at h;cases e:H3 a with
   |none=>rw[e] at h;exact h.elim
   |some o =>
   rw[e] at h;cases o with
   |lst u=>rw[Gn] at h;obtain⟨l,b,r⟩:=f a _ e;obtain⟨⟨m,n,s⟩,h'⟩:=h;obtain⟨v,t,rfl,g,d⟩:=j.two';refine⟨a,l,i,t,p.ref,by rw[g.int],b,m,by rw[<- r.length];exact n,by rw[<- r.length];exact s,k _ _ _ _ (bC (by rw[b];exact trivial)) (f.wrL b ((r.take _).append (.cons d (r.drop _)))) .ofNon h'⟩
   |_=>exact h.elim
  |_=>exact h.elim
 |_=>exact h.elim
def Sr (o:Option O3) (H:gV) (Q:Z1):Prop:=match o with
 |some (.lst xs)=>oq (zv xs) λns=>ns≠[]/\∀M,M∈ns->(∀a∈ns,a<=M)->Q (.int M) H
 |_=>False
def Gp:List T->gV->Z1->Prop:=λts H Q=>match ts with
 |[.ref a]=>Sr (H a) H Q
 |_=>False
theorem Gq (a:ah) (H:gV) (Q:Z1):Gp [.ref a] H Q=Sr (H a) H Q:=rfl
theorem OJ (xs:List T) (H:gV) (Q:Z1):Sr (ab (.lst xs)) H Q=oq (zv xs) λns=>ns≠[]/\∀M,M∈ns->(∀a∈ns,a<=M)->Q (.int M) H:=rfl
theorem zV (D:X.calm=ag):dO X (.builtin "max") Gp:=by
 intro x s Z H xs us Q I J h;obtain⟨ts,H3,M,r,y,h,k⟩:=h;cases ts with
 |nil=>exact h.elim
 |cons t ts =>
 cases ts with
 |cons _ _=>cases t <;> exact h.elim
 |nil =>
 cases t with
 |ref a =>
  rw[Gq] at h;obtain⟨v,rfl,l⟩:=r.one';obtain⟨u,rfl,q⟩:=AQ J;rw[l.ref] at q;cases q;cases e:H3 a with
  |none=>rw[e] at h;exact h.elim
  |some o =>
  rw[e] at h;cases o with
  |lst G =>
   rw[OJ] at h;obtain⟨N,A,E⟩:=y.sqL (.inl e);cases i:zv G with
   |none=>rw[i] at h;exact h.elim
   |some ns =>
   rw[i,iu] at h;obtain⟨m,h⟩:=h;obtain⟨b,n,K,_⟩:=I.list A;have w:=ir i E n;have c:AllInts b.toArray:=w.allInts;obtain⟨d,p⟩:=c.items;have g:s.heap.IsList a (xS d):=by rw[<- p];exact K.isList
   have f:=m3 d;rw[<- p,show b.toArray.toList=b from rfl,w.numsOf] at f;have hz:0<d.size:=by have:=Q_ aT f;simp at this;have:=List.length_pos_iff.mpr m;omega
   refine max_intList (I.ok.hd D) g hz λv h' tk B L=>?_;obtain⟨t,rfl⟩:=intItems_at B;obtain⟨O,C⟩:=argBest_gt (numAt d) (d.size - 1);refine⟨.int _,H,I.kept L,⟨t,rfl⟩,k _ _ _ _ .refl y .ofInt (h _ ?_ λa z=>?_)⟩
   .rw[f,tS];exact getD_mem (by rw[d_,C3];omega)
   rw[f] at z;obtain⟨j,F,rfl⟩:=mem_getD z;rw[d_,C3] at F;rw[<- tS];exact C j yT
  |_=>exact h.elim
 |_=>cases h
end
theorem oY {o:Type} (j i l f:o->T) (p:o->Bool) (g:List o) (zk:AJ) (h:still H) (B:g.length<=ai) (z:∀a∈g,∀Q:Bool->gV->Prop,Q (p a) H->tt (ab (j a)::ab (i a)::ab (l a)::zk) H Q) (A:∀a∈g,p a=ag->∀Q:Z1,Q (f a) H->te (ab (j a)::ab (i a)::ab (l a)::zk) H Q) (n:m ((g.filter p).map f) H):
  C4 (uX 3 (jB (eX 0) (jB (eX 1) (jB (eX 2) zx)))) tt te still m (g.map λa=>.tup [j a,i a,l a]) [] (v::u::w::zk) H:=by
 refine iK (λr s Z H'=>∃(d e:List o) (v u w:Option T),Z=v::u::w::zk/\r=d.map (λa=>.tup [j a,i a,l a])/\s=(e.filter p).map f/\e++d=g/\H'=H) ⟨g,[],v,u,w,rfl,rfl,rfl,rfl,rfl⟩ ?_ ?_
 .rintro s Z H' ⟨d,e,v,u,w,rfl,c,rfl,b,rfl⟩;have k:d=[]:=MG.mp c.symm;subst k;rw[X_] at b;subst b;exact⟨h,by rw[d_];exact U_ (DA _ _) B,n⟩
 rintro x r s Z H' N ⟨d,e,v,u,w,rfl,c,rfl,b,rfl⟩ y;cases d with
 |nil=>cases c
 |cons t d =>
 injection c with a1 a2;subst a1 a2;refine⟨h,rfl,?_⟩;show tt (ab (j t)::ab (i t)::ab (l t)::zk) H' _;refine z t (by rw[<- b];simp) _ ?_;cases q:p t with
 |true=>rw[zi rfl];refine A t (by rw[<- b];simp) q _ ⟨?_,y _ _ _ ⟨d,e++[t],_,_,_,rfl,rfl,by simp [q],by rw[<- b];simp,rfl⟩⟩;have:=Q_ aT b;simp only[b_,j_] at this;rw[d_];have:=DA p e;omega
 |false =>
 rw[y9 B_];exact y _ _ _ ⟨d,e++[t],_,_,_,rfl,rfl,by simp [q],by rw[<- b];simp,rfl⟩
open L2 HT
theorem Gr (l : List av) : ((ae l.length).filterMap λ(k : Nat) => l.toArray[((l.length : Int) - 1 + (k : Int) * (-1)).toNat]?) = l.reverse:=by
 have e:(ae l.length).map (λ(k:Nat)=>l.toArray[((l.length:Int) - 1+(k:Int)*(-1)).toNat]?)=l.reverse.map ab:=by
  apply GW;intro i;rw[u_,u_];by_cases h:i<l.length
  .rw[CI h,LZ h];have c:((l.length:Int) - 1+(i:Int)*(-1)).toNat=l.length - 1 - i:=yT
   have d:l.length - 1 - i<l.length:=yT
   simp only[FF,c,Oy];rw[g_ d];rfl
  rw[G_ (by simp;omega),G_ (by simp;omega)];rfl
 have a:=Q_ (wv id) e;rw [hH,hH] at a;have b : wv (id ∘ ab) l.reverse = l.reverse:=List.filterMap_some;rw [b] at a;exact a
section
variable {w:bP}
theorem KJ (n:Nat):cf af af (-1) (n:Int)=((n:Int) - 1,-1):=by
 unfold cf;simp
theorem yd (n:Nat):bt ((n:Int) - 1) (-1) (-1)=n:=by
 unfold bt;have a:¬((-1:Int)>0):=yT
 simp only[a,Y_,Int.neg_neg,Int.ediv_one];split <;> omega
theorem lD {n:Nat} (f:s.heap.IsSliceOf c .none .none vs) (d:kK vs (ab (-1))) (h:Q ((n:Int) - 1,-1,n) s):ax (aI prog w) A (df (.ref c) (bE (n:Int))) Q E s:=by
 obtain⟨g,a,e,b⟩:=id f;unfold df ij;refine a_ (a_ (C5 a b (x:=.none) rfl (a_ (C5 a b (x:=.none) rfl (a_ (C5 a b (x:=vs) rfl (h_ ?_)))))));refine a_ (jy d ?_);show ax _ _ (if ((-1:Int)==0)=ag then _ else _) _ _ s;rw[y9 y6];refine a_ (gN (a_ (gN (a_ (h_ ?_)))));show ax _ _ (match cf af af (-1) (n:Int) with | (lo,hi)=>bE (lo,(-1:Int),bt lo hi (-1))) _ _ s;rw[KJ n];show ax _ _ (bE ((n:Int) - 1,(-1:Int),bt ((n:Int) - 1) (-1) (-1))) _ _ s;rw[yd];exact h_ h
theorem jV {b:List av} (c:x5 s.heap t b.toArray) (i:s.heap.IsSliceOf e .none .none vs) (j:kK vs (ab (-1))) (h:Q (.ref s.heap.objs.size) { s with heap:=s.heap.push { cls:=.type "tuple",data:=.seq b.reverse.toArray}}) (hsz:b.length<=ai):ax (aI prog w) A (f_ (.ref t) (.ref e)) Q E s:=by
 obtain⟨l,f,d,k⟩:=id i;have g:s.TypeIs (.ref e) "slice":=⟨l,f,d⟩;have a:sizeOk (.seq b.reverse.toArray):=by show b.reverse.toArray.size<=ai;rw[p_,CH];exact hsz
 unfold f_;try with_reducible refine DF ?_
 first | refine a_ (h_ ?_) | skip
 refine a_ (om c.typeIs y6 ?_);refine a_ (Kn (name:=cx "__getitem__") c.typeIs MD
  (DS MD c.typeIs mw ?_ (nE _ _)))
 show ax _ _ (h7 (.ref t) >>= _) _ _ s;refine a_ (wS c ?_);refine a_ (GA g ?_);rw[zi y6];refine a_ (lD i j ?_);rw[p_];show ax _ _ (if (((b.length:Int) - 1)==0&&(-1:Int)==1&&b.length==b.toArray.size)=ag then _ else _) _ _ s;rw[y9 ze,Gr];first
  |exact a_ (m:=a6 _) (B9 (h_ ⟨_,rfl,h_ h⟩) a)
  |exact a_ (m:=a6 _) (B9 (a_ (h_ (h_ ⟨_,rfl,h_ h⟩))) a)
  |exact a_ (a_ (m:=a6 _) (B9 (h_ (h_ ⟨_,rfl,h_ h⟩)) a))
  |exact a_ (a_ (m:=a6 _) (B9 (h_ ⟨_,rfl,h_ h⟩) a))
variable {e st:Expr}
def XH (K:a3) (te:TE) (ts:TO):TE:=λZ H Q=>te Z H λx c=>ts Z c λo b=>o=ab (-1)/\∃a xs,x=.ref a/\A0 K b a xs/\∀p,b p=af->Q (.ref p) (zw b p (.tup xs.reverse))
theorem KN (y:PE X e te) (C:PO X (ab st) ts):PE X (.Subscript e (.Slice af af (ab st) p2) ZT) (XH X.K te ts):=by
 intro c s Z H Q I h;refine kB (z3 (y c s Z H _ I h) λv B ⟨x,j,t,p,n⟩=>?_);refine sg ?_;rw[i6];refine h_ (h_ (z3 (C c B Z j _ t n) λvs s3 ⟨o,H3,k,m,D,a,xs,u,z,q⟩=>?_));subst D u;cases p;have d:y4 X c Z H3 { s3 with heap:=s3.heap.push { cls:=.type "slice",data:=.fields #[.none,.none,vs]}}:=k.kept (t':=s3.toks) λb l q=>e_ _ q;obtain⟨f,r,g,hz⟩:=d.tuple z;have i:=r.length;show ax (aI X.prog X.w) X.A (fm e (.Slice af af (ab st) p2) (.ref a) (.ref s3.heap.objs.size)) (EP X c Z Q) X.xe { s3 with heap:=s3.heap.push { cls:=.type "slice",data:=.fields #[.none,.none,vs]}};refine tr (T:="tuple") (ops:=[.ref a,.ref s3.heap.objs.size]) g.typeIs MD.lookup ?_ (by with_unfolding_all rfl);refine jV g (hV ..) m ?_ yT;refine⟨.ref (s3.heap.push { cls:=.type "slice",data:=.fields #[.none,.none,vs]}).objs.size,_,d.laid (t':=s3.toks) (o:=.tup xs.reverse) (λb l q=>e_ _ q) (l_ _) ?_,rfl,q _ (d.hok.fresh (l_ _))⟩;exact⟨by simpa using hz,f.reverse,r.reverse,EO.new _ _⟩
def S4 (x:T) (o:Option Int) (H:gV) (Q:Z1):Prop:=match x with
 |.tup ts=>o=ab (-1)/\Q (.tup ts.reverse) H
 |_=>False
def Gs (te:zS) (ts:JY):zS:=λZ H Q=>te Z H λx b=>ts Z b λo a=>S4 x o a Q
theorem Gu (te:zS) (ts:JY):Gs te ts Z H Q=te Z H λx b=>ts Z b λo a=>S4 x o a Q:=rfl
theorem Gv (xs:List T) (o:Option Int):S4 (.tup xs) o H Q=(o=ab (-1)/\Q (.tup xs.reverse) H):=rfl
theorem KQ (v:Z7 X e te) (y:ML X (ab st) ts):Z7 X (.Subscript e (.Slice af af (ab st) p2) ZT) (Gs te ts):=by
 refine PE.imp (KN v y) ?_;rintro Z H Q ⟨n,H3,A,m,w,h,k⟩;refine⟨n,H3,_,m,w,h,λx z t i b j q u=>⟨n,i,_,m.mono b,j,u,λo B l c g d=>?_⟩⟩;cases t with
 |tup ts=>rw[Gv] at d;obtain⟨a,xs,rfl,s,r⟩:=(q.mono c).tup;exact⟨d.1,a,xs,rfl,s,λp f=>k _ _ _ _ (b.trans (c.trans (aO f))) (g.new f) (xr.newTup (H3:=l) f r.reverse) d.2⟩
 |_=>exact d.elim
end
theorem ye (h:gy (λi v=>∃t,v=da (0+(i:Int)*1) t) a n):y7 ((ae n).map λ(i:Nat)=>V.int (i:Int)) a.toList:=by
 obtain⟨g,f⟩:=h;have key:∀(l:List av) (k:Nat),(∀(j:Nat) (v:av),l[j]?=ab v->∃t,v=da ((k:Int)+(j:Int)) t)->y7 ((eP k l.length).map λ(i:Nat)=>V.int (i:Int)) l:=λl=>by
  induction l with
  |nil=>intro k _;exact .nil
  |cons v r d =>
  intro k c;rw[j_,List.range'_succ,z_];refine .cons ?_ (d (k+1) λj u b=>?_)
  .obtain⟨t,e⟩:=c 0 v rfl;exact⟨t,by rw[e];congr 1⟩
  obtain⟨t,e⟩:=c (j+1) u (by rw[Pd];exact b);exact⟨t,by rw[e];congr 1;omega⟩
 have:=key a.toList 0 λj v b=>by obtain⟨t,e⟩:=f j v (by rw[<- Go];exact b);exact⟨t,by rw[e];congr 1;omega⟩
 rw[C3,g,<- List.range_eq_range'] at this;exact this
section
variable {X:Cx}{p1 p2 ZT b':kc}
def TQ (te:TE):TE:=λZ H Q=>te Z H λx a=>∃n:Nat,x=.int (n:Int)/\n<=1000/\∀l,a l=af->Q (.ref l) (zw a l (.lst ((ae n).map λ(i:Nat)=>V.int (i:Int))))
theorem Gw (C:X.calm=ag) (r:Gl X "list") (m:X.mg "list"=af) (k:Gl X "range") (j:X.mg "range"=af) (f:ba "list"=ab (.type "list")) (E:PE X e te) (v:aw [e] X.env=(am,bo e X.env)::aw [] X.env:=by rfl) (p:(bb ZT (aw [] X.env)).any (·.1)=am:=by rfl) (d:(bb b' (aw [] X.env)).any (·.1)=am:=by rfl):
  PE X (.Call (.Name "list" p1) [.Call (.Name "range" p2) [e] [] b'] [] ZT) (TQ te):=by
 intro c s Z H Q I h;refine Ee (dq I r m f ?_ y6 y6);refine Z_ ?_ rfl p;show ax _ _ (eK ((am,bo (.Call (.Name "range" p2) [e] [] b') X.env)::bb ZT (aw [] X.env))) _ _ s;refine ES ?_;refine Ee (dq I k j vE ?_ y6 y6);refine Z_ ?_ v d;rw[v];show ax _ _ (eK ((am,bo e X.env)::bb b' (aw [] X.env))) _ _ s;refine ES (z3 (E c s Z H _ I h) λu s1 ⟨x,w,B,z,n,D,J,q⟩=>?_);subst D;obtain⟨t,rfl⟩:=z;refine FA ?_;refine call_range_1 ?_;refine FA ?_;have g:y4 X c Z w { s1 with heap:=s1.heap.push { cls:=.type "range",data:=.fields #[.int 0 s1.toks,.int (n:Int) t,.int 1 (s1.toks+1)]},toks:=s1.toks+1+1}:=B.kept λb o e=>e_ _ e;have hsz:Builtin.Range.rangeSize 0 (n:Int) 1=((n:Nat):Int):=by rw[xa];split <;> omega
 refine call_list_range (g.ok.hd C) (IsRange.new ..) (small_one yT yT yT yT) hsz yT λh' tk a F G A l=>?_;have y:=ye l;refine⟨.ref _,_,g.laid (t':=tk) (o:=.lst ((ae n).map λ(i:Nat)=>V.int (i:Int))) G (l_ _) ⟨by rw[d_,m_];show n<=16777216;omega,a.toList,F,y,?_⟩,rfl,q _ (g.hok.fresh (l_ _))⟩;rw[show a.toList.toArray=a by simp];exact A
def S0 (x:T) (H:gV) (Q:Z1):Prop:=match x with
 |.int i=>(0<=i/\i<=1000)/\∀p,H p=af->Q (.ref p) (eH H p (.lst ((ae i.toNat).map λ(k:Nat)=>T.int (k:Int))))
 |_=>False
def zW (te:zS):zS:=λZ H Q=>te Z H λx a=>S0 x a Q
theorem KR (te:zS):zW te Z H Q=te Z H λx a=>S0 x a Q:=rfl
theorem O1 (i:Int):S0 (.int i) H Q=((0<=i/\i<=1000)/\∀p,H p=af->Q (.ref p) (eH H p (.lst ((ae i.toNat).map λ(k:Nat)=>T.int (k:Int))))):=rfl
theorem Gx {K:a3} (l:List Nat):jj K H (l.map λ(k:Nat)=>T.int (k:Int)) (l.map λ(k:Nat)=>V.int (k:Int)):=by
 induction l with
 |nil=>exact .nil
 |cons k r a=>exact .cons .ofInt a
theorem Gy (s:X.calm=ag) (m:Gl X "list") (j:X.mg "list"=af) (f:Gl X "range") (d:X.mg "range"=af) (p:Z7 X e te) (u:aw [e] X.env=(am,bo e X.env)::aw [] X.env:=by rfl) (g:(bb ZT (aw [] X.env)).any (·.1)=am:=by rfl) (a:(bb b' (aw [] X.env)).any (·.1)=am:=by rfl):
  Z7 X (.Call (.Name "list" p1) [.Call (.Name "range" p2) [e] [] b'] [] ZT) (zW te):=by
 refine PE.imp (Gw s m j f d jT p u g a) ?_;rintro Z H Q ⟨y,H3,z,n,x,h,k⟩;refine⟨y,H3,_,n,x,h,λv H' t o w b r q=>?_⟩;cases t with
 |int i=>rw[O1] at q;rw[r.int];refine⟨i.toNat,by rw[Nw q.1.1],yT,λl c=>k _ _ _ _ (w.trans (aO c)) (b.newLst c (Gx _)) .ofRef (q.2 l (b.fresh c))⟩
 |_=>exact q.elim
variable {st:Expr}
def XJ (K:a3) (te:TE) (ts:TO):TE:=λZ H Q=>te Z H λx c=>ts Z c λo b=>o=ab (-1)/\∃a xs,x=.ref a/\A8 K b a xs/\∀p,b p=af->Q (.ref p) (zw b p (.lst xs.reverse))
theorem KY (y:PE X e te) (C:PO X (ab st) ts):PE X (.Subscript e (.Slice af af (ab st) p2) ZT) (XJ X.K te ts):=by
 intro c s Z H Q I h;refine kB (z3 (y c s Z H _ I h) λv B ⟨x,j,t,p,n⟩=>?_);refine sg ?_;rw[i6];refine h_ (h_ (z3 (C c B Z j _ t n) λvs s3 ⟨o,H3,k,m,D,a,xs,u,z,q⟩=>?_));subst D u;cases p;have f:y4 X c Z H3 { s3 with heap:=s3.heap.push { cls:=.type "slice",data:=.fields #[.none,.none,vs]}}:=k.kept (t':=s3.toks) λb l q=>e_ _ q;obtain⟨d,r,g,hz⟩:=f.list z;have i:=r.length;show ax (aI X.prog X.w) X.A (fm e (.Slice af af (ab st) p2) (.ref a) (.ref s3.heap.objs.size)) (EP X c Z Q) X.xe { s3 with heap:=s3.heap.push { cls:=.type "slice",data:=.fields #[.none,.none,vs]}};refine tr (T:="list") (ops:=[.ref a,.ref s3.heap.objs.size]) g.isList.typeIs slot_list_getitem.lookup ?_ (by with_unfolding_all rfl);refine i0 g.isList (hV ..) .none .none m ze ?_ (by rw[p_] <;> omega);rw[PySem.W.krv_pick];refine⟨.ref (s3.heap.push { cls:=.type "slice",data:=.fields #[.none,.none,vs]}).objs.size,_,f.laid (t':=s3.toks) (o:=.lst xs.reverse) (λb l q=>e_ _ q) (l_ _) ?_,rfl,q _ (f.hok.fresh (l_ _))⟩;refine⟨by simpa using hz,d.reverse,0,r.reverse,?_⟩;rw[show d.toArray.toList.reverse.toArray=d.reverse.toArray by simp];exact t_ _ rfl
def YN (o:Option O3) (H:gV) (Q:Z1):Prop:=match o with
 |some (.lst ts)=>∀p,H p=af->Q (.ref p) (eH H p (.lst ts.reverse))
 |_=>False
def ZB (x:T) (o:Option Int) (H:gV) (Q:Z1):Prop:=match x with
 |.ref a=>o=ab (-1)/\YN (H a) H Q
 |_=>False
def TV (te:zS) (ts:JY):zS:=λZ H Q=>te Z H λx b=>ts Z b λo a=>ZB x o a Q
theorem zX (w:Z7 X e te) (z:ML X (ab st) ts):Z7 X (.Subscript e (.Slice af af (ab st) p2) ZT) (TV te ts):=by
 refine PE.imp (KY w z) ?_;rintro Z H Q ⟨n,H3,C,m,y,h,k⟩;refine⟨n,H3,_,m,y,h,λx B u i d j q v=>⟨n,i,_,m.mono d,j,v,λo D l g c b=>?_⟩⟩;cases u with
 |ref a =>
  obtain⟨A,b⟩:=b;cases e:l a with
  |none=>rw[e] at b;exact b.elim
  |some t =>
  rw[e] at b;cases t with
  |lst ts=>obtain⟨xs,s,r⟩:=c.sqL (.inl e);refine⟨A,a,xs,q.ref,s,λp f=>k _ _ _ _ (d.trans (g.trans (aO f))) (c.newLst f r.reverse) .ofRef (b p (c.fresh f))⟩
  |rol ts=>exact b.elim
  |dct ts=>exact b.elim
  |dcp ts=>exact b.elim
  |exc _ _=>exact b.elim
  |xdt _=>exact b.elim
  |dci _=>exact b.elim
  |dif _ _=>exact b.elim
  |dsf _ _=>exact b.elim
  |ins _ _=>exact b.elim
 |_=>exact b.elim
def D5:T->Bool
 |.non=>ag
 |_=>am
def XM:R3:=λx y H Q=>match y with
 |.non=>Q (.bl (D5 x)) H
 |_=>False
theorem aam (x:T) (H:gV) (Q:Z1):XM x .non H Q=Q (.bl (D5 x)) H:=rfl
theorem KZ:D5 .non=ag:=rfl
theorem K3 (i:Int):D5 (.int i)=am:=rfl
theorem K4 (x:ap):D5 (.str x)=am:=rfl
theorem K5 (ts:List T):D5 (.tup ts)=am:=rfl
theorem TX (b:Bool):D5 (.bl b)=am:=rfl
theorem mq:dh X (be .Is) XM:=by
 refine AO.imp Rb ?_;rintro x y H Q ⟨c,ty,H3,g,b,d,f,h,k⟩;cases ty with
 |non =>
  refine⟨d.non,?_⟩;have e:decide (x=.non)=D5 c:=by
   cases c with
   |non=>rw[b.non];rfl
   |int i=>rw[b.int];rfl
   |str i=>rw[b.str];rfl
   |bl i=>rw[b.bl];rfl
   |ref a=>rw[b.ref];rfl
   |tup ts=>obtain⟨a,vs,rfl,_⟩:=b.tup;rfl
   |ty n=>rw[b.ty];rfl
  rw[e];exact k _ _ _ _ .refl f .ofBl h
 |_=>exact h.elim
end
end L3
open L3.T renaming int→yv,str→yy,tup→yA,ref→yB
namespace L2
section
variable {zk:List Expr}
def Zl (K:a3) (b c:TE):TE:=λZ H Q=>b Z H λx a=>∃k,Wb K x a k/\if k=ag then Q x a else c Z a Q
theorem TY (q:PE X a ta) (l:PE X (.BoolOp .Or (b::zk) ZT) tb):PE X (.BoolOp .Or (a::b::zk) ZT) (Zl X.K ta tb):=by
 intro d s Z H Q I h;refine BoolOp_or (z3 (q d s Z H _ I h) λv o ⟨x,f,r,i,k,tk,g⟩=>?_);refine z3 (Rc d o Z f x v (λc e=>c=k/\e=f) r i ⟨k,tk,rfl,rfl⟩) λc n ⟨e,j,m,p⟩=>?_;subst m;subst p;cases c with
 |false=>exact l d n Z e Q j g
 |true=>exact⟨x,e,j,i,g⟩
def Gz (K:a3):V->List V->Hp->VK->Prop:=λx vs H Q=>∃l b xs a,x=.ref l/\vs=[.ref b]/\H l=ab (.lst xs)/\A0 K H b a/\xs.length+a.length<=ai/\Q .non (zw H l (.lst (xs++a)))
theorem yf:E7 X "list.extend" (Gz X.K):=by
 intro j s Z H x vs v us Q I o C h;obtain⟨l,b,xs,G,rfl,rfl,k,B,hz,q⟩:=h;cases o;obtain⟨u,rfl,p⟩:=C.one;cases p;obtain⟨z,c,n,r,L,e⟩:=I.lstM k;obtain⟨a,m,⟨t,i,g,J,f⟩,y⟩:=I.tuple B;obtain⟨E,M,A,w⟩:=t;simp only at g f;subst g;subst f;have D:=m.length;have hsz:c.toArray.size+a.toArray.size<=ai:=by rw[p_,p_];omega
 have d:¬(!c.toArray.isEmpty&&b9 (c.toArray.size+a.toArray.size))=ag:=by rw[nU hsz,OH];exact B_
 refine DS oe ⟨_,e,rfl⟩ mM ?_ (md _ _);show ax _ _ (a7 (.ref l) (.ref b) .none) _ _ _;unfold a7;refine a_ (GA ⟨_,i,rfl⟩ ?_);rw[zi (by rw[kX];exact .inr y6)];refine a_ (oP i rfl (a_ (oP e rfl ?_)));rw[y9 d];refine a_ (i4 e rfl (h_ ⟨_,rfl,?_⟩) (by rw[p_];omega) (by rw[Array.size_append];omega));refine⟨.non,_,I.lset (its':=c++a) k e ze (r.append m) ?_,rfl,q⟩;rw[b_];omega
end
end L2
namespace L3
open L2
section
variable {zk:List Expr}
def TD (x:T) (p q:Prop):Prop:=match x with
 |.non=>p
 |.tup (_::_)=>q
 |_=>False
theorem O2 (p q:Prop):TD .non p q=p:=rfl
theorem O4 (t:T) (ts:List T) (p q:Prop):TD (.tup (t::ts)) p q=q:=rfl
def O5 (b c:zS):zS:=λZ H Q=>b Z H λx a=>TD x (c Z a Q) (Q x a)
theorem jD (l:Z7 X a ta) (i:Z7 X (.BoolOp .Or (b::zk) ZT) tb):Z7 X (.BoolOp .Or (a::b::zk) ZT) (O5 ta tb):=by
 refine PE.imp (TY l i) ?_;rintro Z H Q ⟨g,H3,s,f,n,h,k⟩;refine⟨g,H3,_,f,n,h,λv H' t c e d r q=>?_⟩;cases t with
 |non=>rw[O2] at q;rw[r.non];exact⟨am,rfl,by rw[y9 B_];exact⟨g,c,_,f.mono e,d,q,k.at e⟩⟩
 |tup ts =>
  cases ts with
  |nil=>exact q.elim
  |cons t ts =>
  rw[O4] at q;obtain⟨p,xs,rfl,m,j⟩:=id r.tup;obtain⟨x,o,rfl,_,_⟩:=j.inv;exact⟨ag,.inr (.inl ⟨_,m,rfl⟩),by rw[zi rfl];exact k _ H' _ c e d r q⟩
 |_=>exact q.elim
def TM (o:Option O3) (a:ah) (b:List T) (H:gV) (Q:Z1):Prop:=match o with
 |some (.lst xs)=>xs.length+b.length<=ai/\Q .non (eH H a (.lst (xs++b)))
 |_=>False
def GC:T->List T->gV->Z1->Prop:=λx ts H Q=>match x,ts with
 |.ref a,[.tup ys]=>TM (H a) a ys H Q
 |_,_=>False
theorem GD (a:ah) (b:List T) (H:gV) (Q:Z1):GC (.ref a) [.tup b] H Q=TM (H a) a b H Q:=rfl
theorem O6 (a:ah) (xs b:List T) (H:gV) (Q:Z1):TM (ab (.lst xs)) a b H Q=(xs.length+b.length<=ai/\Q .non (eH H a (.lst (xs++b)))):=rfl
theorem yg:sX X "list.extend" GC:=by
 refine E7.imp yf ?_;rintro x xs H Q ⟨j,ts,H3,q,d,c,g,h,k⟩
 match j,ts,h,d,c with
 |.ref a,[.tup ys],h,d,c =>
 obtain⟨v,rfl,i⟩:=c.one';rw[GD] at h;cases e:H3 a with
 |none=>rw[e] at h;exact h.elim
 |some o =>
 rw[e] at h;cases o with
 |lst n=>rw[O6] at h;obtain⟨us,b,r⟩:=g a _ e;obtain⟨p,m,rfl,l,f⟩:=i.tup;exact⟨a,p,us,m,d.ref,rfl,b,l,by rw[<- r.length,<- f.length];exact h.1,k _ _ _ _ (bC (by rw[b];exact trivial)) (g.wrL b (r.append f)) .ofNon h.2⟩
 |_=>exact h.elim
theorem T3:dh X (br .RShift) (Ic (λ_ j=>0<=j) λi j=>.int (i / 2^j.toNat)):=vd Q8 λ_ _ _=>.ofInt
end
end L3
namespace L2
theorem Cy:fb (.type "list") "keys"=bE af:=by rw[F6,F5];kernel_rfl
theorem yh (f:s.heap.get? a=ab { cls:=.type "list",dict:=af,data:=.seq xs k,slots:=i}) (l:A.handled=af) (h:∀h' tk e,Heap.NewExcOf s.heap h' e "AttributeError"->Q af { s with heap:=h',toks:=tk}):ax (aI prog w) A (getAttr? (.ref a) "keys") Q E s:=by
 obtain⟨m,g,d,tk,n⟩:=s;have j:∀c,(⟨m,g,d,c,n⟩:aE).TypeIs (.ref a) "list":=λ_=>⟨_,f,rfl⟩;have q:=sub_AttributeError;have o:=SS.lookup;have p:=SS.bind (.ref a);have t:=am_list_getattr_none;unfold getAttr? getAttrBy? getAttrBy;repeat (any_goals (first | assumption | exact j _ | ((with_reducible show ax _ _ (jS (nc "list.__getattribute__") _ _) _ _ _);refine II SS (j _) am_entry_list_getattribute (F.args_list_getattribute_2 _ _) (meets_getattribute_miss_list a xs k i "keys" _ Cy y6 y6) ⟨f,l,λh' c e b=>?_⟩) | wp_step))
 obtain⟨t',r,u⟩:=b.there;show ax _ _ (nn _ _ _ _ _ _ _) _ _ _;unfold nn;repeat (any_goals (first | assumption | wp_step))
 all_goals exact h _ _ _ b.of
theorem je:plainId "dict.update.loop"=ag:=by decide +kernel
theorem rE:gT tw "dict.update.loop"=ab cn.«dict.update.loop»:=fe AR
def T4 (h:cK) (p:ah) (k v:av):Prop:=∃o n,h.get? p=ab o/\o.cls=.type "tuple"/\o.data=.seq #[k,v] n
section
variable {prog:bX}{w:bP}{K:Type}[DecidableEq K]{knd:KeyKind prog w K}
theorem Cz {St:Nat->cK->Prop} (W:Walks prog w A.in1 J fp B n P St) (d:ah) (Y:d∉fp) (l:List (K × av)) (hn:l.length=n) (h8:n<=ai):
  ∀(k i:Nat) (s:aE),n - i=k->i<=n->St i s.heap->s.heap.DictOf knd d (tT [] (l.take i)) ->
   (∀j v,P j v->∃C u x p,l[j]?=ab (C,x)/\v=.ref p/\knd.is C u=ag/\p∉d::B/\T4 s.heap p u x) ->
   (∀s',sv (d::B) (λa b=>b=a) s s'->s'.heap.DictOf knd d (tT [] l)->R (.ok (.ret .none)) s') ->
   dy (aI prog w) A (.builtin "dict.update.loop" ⟨[.ref d,.ref J,cq i,.none],[]⟩) R s:=by
 have D:=W.toS;have nW:d∉B:=λh=>Y (D.sub _ h);have F:∀c∈B,c∈d::B:=λc g=>A_ _ g;intro k;induction k with
 |zero =>
  intro i s hk hi st G N t;have ei:i=n:=yT
  subst ei;refine Fn rE ?_;rw[I0 je _];show ax _ A.in1 (eR (.ref J) >>= _) _ _ s;refine a_ (D.done s _ _ st λs' q=>?_);show ax _ A.in1 (do Builtin.Dict.addKeywords d [];yn bg) _ _ s';rw[<- hn,fh] at G;refine a_ (h_ (h_ (t s' (q.mono F) ?_)));obtain⟨o,X,ep,y,zk⟩:=G;exact⟨o,X,ep,q.heap d _ nW y,zk⟩
 |succ k ih =>
 intro i s hk hi st G N t;have Z:i<n:=yT
 refine Fn rE ?_;rw[I0 je _];show ax _ A.in1 (eR (.ref J) >>= _) _ _ s;refine a_ (D.item i s _ _ Z st λv s' pv L q=>?_);obtain⟨C,u,x,p,O,rfl,r,f,o,no,y,g,H⟩:=N i v pv;have E:s'.heap.get? p=ab o:=q.heap p _ (λz=>f (F p z)) y;have V:s'.heap.DictOf knd d (tT [] (l.take i)):=by obtain⟨o,X,ep,y,zk⟩:=G;exact⟨o,X,ep,q.heap d _ nW y,zk⟩
 refine a_ (DF ?_);refine a_ (m:=tryCatch (Builtin.Dict.pairItems (.ref p)) _) (wpAny_tryCatch ?_);unfold Builtin.Dict.pairItems;refine a_ (GA (T:="tuple") ⟨o,E,g⟩ ?_);rw[zi y6];refine a_ (Mo E H (h_ ?_));have hm:(tT [] (l.take i)).length<=ai:=by
  have h1:=merged_length_le ([]:List (K × av)) (l.take i);have h2:(l.take i).length<=n:=by rw[FG];omega
  simp only[FR,kG] at h1;omega
 show ax _ A.in1 (eS [u,x] (dictSet d u x)) _ _ s';refine DF (wpAny_dictSet_pairs r V (λh' I U=>?_) hm);refine h_ ⟨F0 je _,ih (i+1) _ yT Z (D.frame _ s' _ _ L (ID _) λc g o e=>?_) (by rw[merged_take_succ _ _ _ _ O];exact I) (λj v pj=>?_) λM Q S=>?_⟩
 .rw[U.2 c (λz:c=d=>Y (by rw[<- z];exact g))];exact e
 .obtain⟨C,u,x,p,O,e,r,f,o,no,y,g,H⟩:=N j v pj;refine⟨C,u,x,p,O,e,r,f,o,no,?_,g,H⟩;show h'.get? p=ab o;rw[U.2 p (λz:p=d=>f (by rw[z];exact n_))];exact q.heap p _ (λz=>f (F p z)) y
 refine t M (Moved.trans D.gtrans ((q.mono F).then_heap (ID _) λc o g e=>?_) Q) S;rw[U.2 c (λz:c=d=>g (by rw[z];exact n_))];exact e
theorem mO (O:A.handled=af) (P:s.heap.get? l=ab { cls:=.type "list",dict:=af,data:=.seq a N,slots:=M}) (R:r.length=a.size) (h8:a.size<=ai) (V:∀(j:Nat) (v:av),a[j]?=ab v->∃(q:K) (u x:av) (p:ah),r[j]?=ab (q,x)/\v=.ref p/\knd.is q u=ag/\T4 s.heap p u x) (h:∀(h':cK) (tk:Nat),h'.DictOf knd s.heap.objs.size (tT [] r)->(∀b o,s.heap.get? b=ab o->h'.get? b=ab o)->Q (.ref s.heap.objs.size) { s with heap:=h',toks:=tk}):
  ax (aI prog w) A (jS (.type "dict") [.ref l]) Q E s:=by
 refine lP (Q₁:=λm d=>m=.ref s.heap.objs.size/\d={ s with heap:=s.heap.push { cls:=.type "dict",data:=.dict #[]}}) F.kt_called_dict (F.kt_typeCall_dict_1 _) F.entry_dict_init (kt_code_dict_new _ ⟨rfl,rfl⟩) ?_;rintro m d ⟨rfl,rfl⟩;have c:(s.heap.push { cls:=.type "dict",data:=.dict #[]}).DictOf knd s.heap.objs.size []:=Heap.DictOf.new s.heap;have f:(s.heap.push { cls:=.type "dict",data:=.dict #[]}).get? l=ab { cls:=.type "list",dict:=af,data:=.seq a N,slots:=M}:=e_ _ P;refine⟨c.typeIs,F.args_dict_init_2 _ _,?_⟩;unfold cn.«dict.__init__»;refine a_ ?_;unfold Builtin.Dict.selfAndRest;refine a_ (wpAny_notOrdered_dict c.typeIs ?_);show ax _ _ (bE (s.heap.objs.size,[a8 l])) _ _ _;refine h_ ?_;show ax _ _ (Builtin.Dict.updateFrom "dict.__init__" s.heap.objs.size (.ref l) [] .none) _ _ _;unfold Builtin.Dict.updateFrom;refine a_ (GA (T:="list") ⟨_,f,rfl⟩ ?_);rw[zi y6];have C:A.in1.in1.handled=af:=by simp [O]
 refine a_ (yh f C λi tk e n=>?_);show ax _ _ (do rule _;let it <- ra (.ref l);again (.builtin "dict.update.loop" ⟨[.ref s.heap.objs.size,it,cq 0,.none],[]⟩)) _ _ _;refine a_ (KL ?_);have g:=n.keeps _ _ f;have L:i.IsList l a:=⟨_,g,rfl,_,rfl⟩;refine a_ (P8 (s:={ s with heap:=i,toks:=tk}) L ?_);refine h_ ?_;have X:l<i.objs.size:=C_ g;have dS:s.heap.objs.size<i.objs.size:=C_ (n.keeps s.heap.objs.size _ (t_ _ rfl));have J:l<s.heap.objs.size:=C_ P;have B:A.in1.in1.handled=af:=by simp [O]
 have nB:s.heap.objs.size∉[i.objs.size,l]:=by
  intro z;simp only[o_,B8,B7] at z;rcases z with z | z
  .exact As z (P_ dS)
  exact As z (EN J)
 have k:∀b o,s.heap.get? b=ab o->(i.push { cls:=.type "list_iterator",data:=.fields #[.ref l,.int 0 0]}).get? b=ab o:=λb o e=>e_ _ (n.keeps _ _ (e_ _ e));refine⟨F0 je _,?_⟩;refine Cz (knd:=knd) (Walks.list B _ l (P_ X) a) s.heap.objs.size nB r R h8 (a.size - 0) 0 _ yT (B6 _) ⟨⟨_,t_ _ rfl,rfl,rfl⟩,⟨_,e_ _ g,rfl,_,rfl⟩⟩ ?_ ?_ ?_
 .obtain⟨o,es,ep,y,zk⟩:=c;exact⟨o,es,ep,e_ _ (n.keeps _ _ y),zk⟩
 .intro j v e;obtain⟨q,u,x,p,Y,rfl,D,o,no,y,Z,S⟩:=V j v e;refine⟨q,u,x,p,Y,rfl,D,λz=>?_,o,no,k _ _ y,Z,S⟩;have:=C_ y;simp only[o_,B8,B7] at z;rcases z with z | z
  .exact As z (P_ this)
  exact As z (P_ (FE this dS))
 intro s' t I;obtain⟨h',g',d',H,G⟩:=s';have W:g'=s.gens:=t.gens;have U:d'=s.drawn:=t.drawn;have eo:G=s.os:=t.os;subst W U eo;refine⟨rfl,h h' H I λb o e=>t.heap b o (λz=>?_) (k b o e)⟩;have:=C_ e;simp only[o_,B8,B7] at z;rcases z with z | z
 .exact As z (P_ this)
 exact As z (P_ (FE this dS))
end
end L2
namespace L3
open L2
def T5:T->Option (ap × T)
 |.tup [.str k,v]=>ab (k,v)
 |_=>af
def tR:List T->Option (List (ap × T))
 |[]=>ab []
 |t::r=>match T5 t,tR r with
  |some p,ab ps=>ab (p::ps)
  |_,_=>af
theorem vB {a:Type}(f:a->ap × T):∀xs:List a,tR (xs.map λx=>yA [.str (f x).1,(f x).2])=ab (xs.map f)
 |[]=>rfl
 |x::r=>by
  rw[z_,z_]
  unfold tR
  rw[vB f r]
  rfl
theorem GF (h:T5 t=ab p):t=.tup [.str p.1,p.2]:=by
 unfold T5 at h;split at h
 .cases h;rfl
 cases h
section
variable {X:Cx}
theorem vC {Z:L2.St} (I:y4 X d Z H s):∀{ts:List T}{us:List V}{a:List av}{kvs:List (ap × T)},tR ts=ab kvs->jj X.K H ts us->y7 us a ->
  ∃(vs:List (z5 × V)) (b:List (z5 × av)),CC X.K H kvs vs/\KV vs b/\b.length=a.length/\∀(j:Nat) (v:av),a[j]?=ab v->∃(y:z5) (f x:av) (p:ah),b[j]?=ab (y,x)/\v=.ref p/\(bA X.prog X.w).is y f=ag/\T4 s.heap p f x
 |[],us,a,kvs,e,r,rv=>by
  cases e
  rw[r.inv0] at rv
  cases rv
  exact⟨[],[],.nil,.nil,rfl,λj v h=>by simp at h⟩
 |t::ts,us,a,kvs,e,r,rv=>by
  unfold tR at e
  split at e
  ·
   rename_i p ps' G D
   cases e
   obtain⟨v,ur,rfl,c,rr⟩:=r.inv
   cases rv with
   |cons q W =>
    rename_i it L
    obtain⟨vs,b,a1,F,A,M⟩:=vC I D rr W
    rw[GF G] at c
    obtain⟨N,xs,rfl,g,P⟩:=c.tup
    obtain⟨k0,r1,rfl,Q,i⟩:=P.inv
    obtain⟨B,r2,rfl,E,m⟩:=i.inv
    rw[m.inv0] at g
    rw[Q.str] at g
    cases q
    obtain⟨u,l,⟨o,S,J,n,C⟩,_⟩:=I.tuple g
    cases l with
    |cons U Y =>
     rename_i f l2
     cases Y with
     |cons R O =>
      rename_i z l3
      cases O
      refine⟨(ca p.1,B)::vs,(ca p.1,z)::b,.cons ⟨rfl,E⟩ a1,.cons ⟨rfl,R⟩ F,by simp [A],λj w h=>?_⟩
      cases j with
      |zero =>
       simp only[KA,Na] at h
       subst h
       exact⟨_,f,z,N,rfl,rfl,lR (k:=ca p.1) U,o,n,S,J,C⟩
      |succ j =>
       rw[Pd] at h |-
       exact M j w h
  ·
   cases e
def TN (o:Option O3) (H:gV) (Q:Z1):Prop:=match o with
 |some (.lst xs)=>oq (tR xs) λkvs=>(kvs.map (·.1)).Nodup/\∀p,H p=af->Q (.ref p) (eH H p (.dct kvs))
 |_=>False
def GJ:List T->gV->Z1->Prop:=λts H Q=>match ts with
 |[.ref a]=>TN (H a) H Q
 |_=>False
theorem GK (a:ah) (H:gV) (Q:Z1):GJ [.ref a] H Q=TN (H a) H Q:=rfl
theorem O7 (xs:List T) (H:gV) (Q:Z1):TN (ab (.lst xs)) H Q=oq (tR xs) λkvs=>(kvs.map (·.1)).Nodup/\∀p,H p=af->Q (.ref p) (eH H p (.dct kvs)):=rfl
theorem xr.newDk {K:a3} (s:xr K H3 H) (c:H p=af) (r:CC K H kvs vs):xr K (eH H3 p (.dct kvs)) (zw H p (.dK vs)):=λa o e=>by
 by_cases b:a=p
 .subst b;rw[aC] at e;cases e;exact⟨vs,bR,r.mono (aO c)⟩
 rw[aD b] at e;exact s.new c a o e
theorem zY {K:a3}:∀{kvs:List (ap × T)}{vs:List (z5 × V)},CC K H kvs vs->vs.map (·.1)=(kvs.map (·.1)).map ca
 |[],_,.nil=>rfl
 |p::r,_,.cons ⟨e,_⟩ q=>by rw[z_,z_,z_,zY q,e]
theorem vD:∀{vs:List (z5 × V)}{a:List (z5 × av)},KV vs a->a.map (·.1)=vs.map (·.1)
 |[],_,.nil=>rfl
 |p::r,_,.cons ⟨e,_⟩ q=>by rw[z_,z_,vD q,e]
theorem K6 (C:X.calm=ag):dO X (.type "dict") GJ:=by
 intro m s Z H xs us Q I L h;obtain⟨ts,H3,O,r,i,h,k⟩:=h
 match ts,h,r with
 |[.ref a],h,r =>
 obtain⟨v,rfl,d⟩:=r.one';obtain⟨u,rfl,l⟩:=AQ L;rw[d.ref] at l;cases l;rw[GK] at h;cases e:H3 a with
 |none=>rw[e] at h;exact h.elim
 |some o =>
 rw[e] at h;cases o with
 |lst K =>
  rw[O7] at h;cases b:tR K with
  |none=>rw[b] at h;exact h.elim
  |some kvs =>
  rw[b,iu] at h;obtain⟨A,q⟩:=h;obtain⟨P,G,J⟩:=i a _ e;obtain⟨z,D,n,N,x,M⟩:=I.lstM G;obtain⟨vs,f,t,c,y,E⟩:=vC I b J N;have g:H s.heap.objs.size=af:=I.hok.fresh (l_ _);have B:(f.map (·.1)).Nodup:=by rw[vD c,zY t];exact Nd.mpr (List.Pairwise.imp (λh e=>h (iq e)) A)
  refine mO (knd:=bA X.prog X.w) (I.ok.hd C) M (by rw[p_];exact y) (by rw[p_];omega) (λj v e=>E j v (by simpa using e)) λh' tk p F=>?_;rw[merged_nil_of_nodup f B] at p;have hz:vs.length<=ai:=by have R:=FK c;omega
  refine⟨.ref s.heap.objs.size,_,I.laid (a:=s.heap.objs.size) (o:=.dK vs) (h':=h') (t':=tk) F (l_ _) ⟨hz,IH.mpr (EN I.big),f,c,p⟩,rfl,?_⟩;exact k _ _ _ _ (aO g) (i.newDk g t) .ofRef (q _ (i.fresh g))
 |_=>exact h.elim
def GP:R3:=λx y H Q=>match x,y with
 |.non,.non=>Q (.bl am) H
 |_,_=>False
theorem T6 (H:gV) (Q:Z1):GP .non .non H Q=Q (.bl am) H:=rfl
theorem K7:AO X (be .IsNot) (λx y H Q=>x=.non/\y=.non/\Q (.bl am) H):=by
 intro a s Z H x y v u Q I c b h;obtain⟨rfl,rfl,q⟩:=h;cases c;cases b;exact wpAny_isNot_plain rfl (nR I q rfl)
theorem CG:dh X (be .IsNot) GP:=by
 refine AO.imp K7 ?_;rintro x y H Q ⟨c,b,H3,f,d,a,e,h,k⟩;cases c with
 |non=>cases b with
  |non=>exact⟨d.non,a.non,k _ _ _ _ .refl e .ofBl h⟩
  |_=>exact h.elim
 |_=>exact h.elim
variable {ZO:List (ah × dP)}{Z:L2.St}
theorem y4.freeze (I:y4 X ZO Z H s) (e:H a=ab (.dK kvs)):∃o,s.heap.get? a=ab o/\y4 X ZO Z (zw H a (.frz o (.dK kvs))) s:=by
 have z:=I.hok a _ e;obtain⟨j,m,vs,g,o,k,ep,f,i,r⟩:=id (show Bz X.prog X.w H s.heap a (.dK kvs) from z);have d:∀b u,H b=ab u->(∀l,u≠.dK l)->b≠a:=λb u q n w=>by subst w;rw[e] at q;cases q;exact n _ rfl
 refine⟨o,f,?_⟩;have:=I.step (h':=s.heap) (g':=s.gens) (d':=s.drawn) (t':=s.toks) (H':=zw H a (.frz o (.dK kvs))) (ch:=[]) (λ_ z=>nomatch z) (λb o _ _ _ q _=>q) (λb o _ _ _ q _=>⟨_,q⟩)
  (λb o _ _ n=>by rw[aY (λw=>by subst w;rw[e] at n;cases n)];exact n) (λb o _ q=>⟨_,q⟩)
  (λb xs q=>by rw[aY (d b _ q λ_=>nofun)];exact q) (λb o u q=>by rw[aY (d b _ q λ_=>nofun)];exact q)
  (λb p q=>⟨#[],by rw[aY (d b _ q λ_=>nofun),Array.append_empty];exact q⟩) (λ_ q=>q) (λb u q=>?_) I.bare
 .exact this
 by_cases h:b=a
 .subst h;rw[bR] at q;cases q;exact⟨f,j,m,vs,g,o,k,ep,f,i,r⟩
 rw[aY h] at q;exact (I.hok b u q).stay (λ_ _ _ r=>r) (λc r=>by rw[aY (d c _ r λ_=>nofun)];exact r) λc xs r=>by rw[aY (d c _ r λ_=>nofun)];exact r
end
theorem O8 (h:(bA P w).is k u=ag):zh (kV k) u:=by
 rcases bV h with ⟨i,t,a,b⟩ | ⟨y,t,a,b⟩
 .subst a b;exact⟨t,rfl⟩
 subst a b;exact⟨t,rfl⟩
theorem fV:∀{c:List d}{a:List f}{i:Nat}{x:d},g9 F c a->c[i]?=ab x->∃y,a[i]?=ab y/\F x y
 |_,_,i,x,.nil,e=>by simp at e
 |_,_,0,x,.cons (b:=b) h t,e=>by simp at e;subst e;exact⟨b,rfl,h⟩
 |_,_,i+1,x,.cons h t,e=>by simpa using fV t (by simpa using e)
def PF (d:ah) (o:dP):It :=
 ⟨λi H=>∃kvs a,H d=ab (.frz o (.dK kvs))/\kvs[i]?=ab a,
  λi H v H'=>∃p k x,v=.ref p/\H p=af/\H'=zw H p (.tup [kV k,x])/\∀kvs,H d=ab (.frz o (.dK kvs))->kvs[i]?=ab (k,x),
  λi H=>∃kvs,H d=ab (.frz o (.dK kvs))/\kvs.length<=i⟩
theorem CJ:gT tw "dict_itemiterator.__iter__"=ab cn.«dict_keyiterator.__iter__» :=
 gS (id':="dict_keyiterator.__iter__") AR rfl Ap AR
theorem tU {Z:L2.St} (I:y4 X a Z H s) (e:H d=ab (.frz o (.dK kvs))) (i:o.data=.dict f ep):
  ∃vs,KV kvs vs/\s.heap.DictAt (bA X.prog X.w) d vs ep/\vs.length=f.size:=by
 obtain⟨h,_,_,vs,g,p,es',m,c,l,b,n,j,k⟩:=(show Bz X.prog X.w H s.heap d (.frz o (.dK kvs)) from I.hok d _ e);rw[h] at c;cases c;rw[i] at b;cases b;exact⟨vs,g,⟨o,f,h,l,i,n,j,k⟩,by rw[<- j.length];simp⟩
theorem yj {K:a3} (d it:ah) (o:dP) (es:Array ki) (ep:Nat) (W:o.data=.dict es ep):
  Ch P w K (.Tuple t x1 S) (PF d o) [it] it (λi h=>∃m l,IsItemIter h it d i es.size ep m l) where
 mem:=n_
 obj:=λi h st c e=>by
  obtain⟨m,l,f⟩:=st
  rw[i_.mp e]
  exact⟨_,f,λv z=>by cases z⟩
 keep:=λi h h' st k=>by
  obtain⟨m,l,f⟩:=st
  exact⟨m,l,k it ze _ f⟩
 item:=by
  intro X M U O e i g s Z H E I p st R
  subst M U O
  obtain⟨kvs,⟨k,x⟩,L,V⟩:=R
  obtain⟨m,l,f⟩:=st
  obtain⟨vs,j,N,a⟩:=tU I L W
  obtain⟨⟨k',u⟩,hu,ek,ru⟩:∃q,vs[i]?=ab q/\k=q.1/\zh x q.2:=fV j V
  subst ek
  rw[<- a] at f
  refine wpAny_pyNext_items_item f N hu λkey h' hk ho n hsz kp=>?_
  refine⟨_,rfl,wpAny_letOwnedTupleGo_items ho λy B Y=>?_⟩
  have lt:∀{c o},s.heap.get? c=ab o->s.heap.objs.size≠c:=λq=>EN (C_ q)
  have D:s.heap.objs.size≠it:=lt f
  have r:∀{c:ah},c∈[it]->c≠s.heap.objs.size:=λ{c} e=>by rw[i_.mp e];exact aS D
  have T:∀c o,c∉[it]->s.heap.get? c=ab o->y.get? c=ab o:=λc o J q=>(Y.2 c λz=>J (z▸n_)).trans (kp c o (λz=>J (z▸n_)) q)
  have I1:y4 X g Z (zw H s.heap.objs.size (.tup [kV k,x])) { s with heap:=s.heap.push { cls:=.type "tuple",data:=.seq #[key,u]},toks:=s.toks} :=
   I.laid (t':=s.toks) (λb o q=>e_ _ q) (l_ _) (show Bz X.prog X.w _ _ _ (.tup [kV k,x]) from ⟨by show 2<=ai;decide,[key,u],.cons (O8 hk) (.cons ru .nil),EO.new _ _⟩)
  have I2:y4 X g Z (zw H s.heap.objs.size (.tup [kV k,x])) { s with heap:=y}:=jd (s:={ s with heap:=s.heap.push { cls:=.type "tuple",data:=.seq #[key,u]}}) (ch:=[it]) (t':=s.toks) I1 (λc o J q=>by
   by_cases z:c=s.heap.objs.size
   ·
    subst z
    have G:(s.heap.push { cls:=.type "tuple",data:=.seq #[key,u]}).get? s.heap.objs.size=ab o:=q
    rw[t_ _ rfl] at G
    cases G
    exact (Y.2 _ D).trans n
   ·
    have G:(s.heap.push { cls:=.type "tuple",data:=.seq #[key,u]}).get? c=ab o:=q
    rw[iP _ _ _ z] at G
    exact T c o J G) λc e=>⟨by rw[aY (r e)];exact (p c e).1,(p c e).2⟩
  refine⟨.ref s.heap.objs.size,_,I2,rfl,⟨s.heap.objs.size,k,x,rfl,I.hok.fresh (l_ _),rfl,λzs C=>by rw[L] at C;cases C;exact V⟩,⟨key,u,?_⟩,λc e=>by rw[aY (r e)];exact (p c e).1⟩
  rw[<- a]
  exact B
 done:=by
  intro X M U O e i g s Z H E I p st R
  subst M U O
  obtain⟨kvs,L,V⟩:=R
  obtain⟨m,l,f⟩:=st
  obtain⟨vs,j,N,a⟩:=tU I L W
  have hl:=j.length
  rw[<- a] at f
  exact wpAny_pyNext_items_end (I.ok.hd e) f N (G_ yT) λh' eb=>⟨rfl,jd (ch:=[it]) (t':=s.toks) I (λb o nb q=>eb b o (λz=>nb (by simp [z])) q) p⟩
 self:=λA i s Q E st h=>by
  obtain⟨m,l,f⟩:=st
  have n:s.TypeIs (.ref it) "dict_itemiterator":=⟨_,f,rfl⟩
  refine P3 n eI (DS eI n CJ ?_ (PySem.F.args_dict_itemiterator_iter_1 _))
  show ax _ _ (yn (.ref it)) _ _ s
  exact h_ ⟨_,rfl,"dict_itemiterator",_,n,PySem.F.slot_dict_itemiterator_next.lookup,h⟩
section
variable {B':List Expr}{x1:Nat}{D' ZT ZY ZU:kc}
def T7 (te:TE):TI:=λZ H R=>te Z H λx b=>∃a kvs,x=.ref a/\b a=ab (.dK kvs)/\∀o,R (PF a o) (zw b a (.frz o (.dK kvs)))
theorem GQ (M:PE X e te) (i:cS e "items" X.env (bo e X.env)=bo e X.env:=by rfl) (g:(ZY.endLine==ZU.line)=ag:=by rfl):
  PI X (.Tuple B' x1 D') (.Call (.Attribute e "items" ZY) [] [] ZU) (T7 te):=by
 intro f s Z H R I h;refine jv i g (z3 (M f s Z H _ I h) λv s1 ⟨x,B,n,J,a,kvs,C,p,q⟩=>?_);subst C;cases J;obtain⟨z,j,vs,E,A⟩:=zc n.hok p;obtain⟨o,y,G⟩:=y4.freeze n p;obtain⟨t,N,_⟩:=Ed n (a:=a) (.inl ⟨kvs,.inl p⟩);refine⟨"dict","dict.items",ka,j3,PySem.F.type_dict_items,t,N,P2 rfl (mx (call_meetsIn j3 t PySem.F.entry_dict_items (PySem.F.args_dict_items_1 _) (meets_dict_items (bA X.prog X.w) a j) ⟨⟨vs,A⟩,?_⟩))⟩;obtain⟨P,r,ep,k,L,l,O,u,D⟩:=id A;rw[y] at k;cases k;have hsz:r.size=vs.length:=by rw[<- u.length];simp
 have m:y4 X f Z (zw B a (.frz o (.dK kvs))) { s1 with heap:=s1.heap.push { cls:=.type "dict_items",data:=.fields #[.ref a]}}:=G.kept (t':=s1.toks) λb o q=>e_ _ q;refine wpAny_pyIter_items (knd:=bA X.prog X.w) (d:=a) (kvs:=vs) (ep:=ep) ⟨_,t_ _ rfl,rfl,rfl⟩ ⟨o,r,e_ _ y,L,l,O,u,D⟩ ?_;refine⟨_,[_],_,PF a o,_,rfl,m.kept (t':=s1.toks) λb o q=>e_ _ q,yj a _ o r ep l,⟨.none,.none,?_⟩,λc K=>?_,q o⟩
 .rw[hsz];exact t_ _ rfl
 rw[i_.mp K];exact m.fpOk (l_ _) (m.hok.fresh (l_ _))
def XN (e c f:TE):TE:=λZ H Q=>e Z H λx b=>∃a,x=.ref a/\UC b a/\c Z b λy d=>f Z d λz H3=>∃kvs k,H3 a=ab (.dK kvs)/\y=kV k/\kvs.length<ai /\
 (∀v,fK kvs k=ab v->Q v H3)/\(fK kvs k=af->Q z (zw H3 a (.dK (AK kvs k z))))
theorem K8 (T:PE X o td) (p:PE X e ty) (O:PE X f tx) (m:M2 X o "setdefault" ZY e f ZU):PE X (.Call (.Attribute o "setdefault" ZY) [e,f] [] ZU) (XN td ty tx):=by
 intro c s Z H Q I h;refine wpAny_Call_method m.base m.few m.line ka fz PySem.F.type_dict_setdefault (z3 (T c s Z H _ I h) λu Y ⟨x,G,B,M,a,R,d,P⟩=>?_);subst R;obtain rfl:u=a8 a:=M;obtain⟨L,t2,_⟩:=Ed B d;refine⟨L,t2,?_⟩;rw[m.trees];refine P2 rfl (mf (ES (z3 (p c Y Z G _ B P) λiv J ⟨y,H2,N,W,q2⟩ =>
  ES (z3 (O c J Z H2 _ N q2) λE s3 ⟨z,H3,n,C,kvs,k,r,S,l,U,q4⟩=>FA ?_))))
 subst S;obtain⟨zl,t,vs,g,D⟩:=zc n.hok r;have i:=g.val k;refine call_meetsIn fz D.typeIs PySem.F.entry_dict_setdefault (PySem.F.args_dict_setdefault_3 _ _ _) (kt_meets_setdefault (bA X.prog X.w) a (lR W) t E) ⟨vs,D,by rw[<- g.length];exact zl,λv A=>?_,λK h' j hs=>?_⟩
 .cases b:fK kvs k with
  |none=>rw[b,A] at i;exact (show False from i).elim
  |some w =>
  rw[b,A] at i;exact⟨w,H3,n.tok _,i,U w b⟩
 have b:fK kvs k=af:=by
  cases b:fK kvs k with
  |none=>rfl
  |some w=>rw[b,K] at i;exact (show False from i).elim
 have p:∃q,h'.get? a=ab q:=let ⟨q,_,_,hq,_⟩:=j;⟨q,hq⟩;have V:(AK kvs k z).length<=ai:=by have:=gD kvs k z;omega
 exact⟨z,_,mZ n (by rw[r];exact eu) hs p (xO V t (g.put k C) j),C,q4 b⟩
end
def cX (k:Int):List (Int × T)->Option T
 |[]=>af
 | (k',v)::r=>if k'=k then ab v else cX k r
def qp (k:Int) (v:T) (kvs:List (Int × T)):List (Int × T) :=
 if (kvs.any λa=>decide (a.1=k))=ag then kvs.map (λa=>if a.1=k then (a.1,v) else a) else kvs++[(k,v)]
theorem jf {K:a3}:∀{kvs:List (Int × T)}{vs:List (z5 × V)}{t:T},D7 K H kvs vs->cX k kvs=ab t->∃v,fK vs (cw k:z5)=ab v/\zI K H t v
 |[],_,_,_,e=>by cases e
 | (k',t')::r,_,t,.cons (b:=(kk,v')) ⟨e1,rv⟩ rr,e=>by
  simp only at e1 rv
  subst e1
  unfold cX at e
  by_cases a:k'=k
  ·
   rw[zi a] at e
   cases e
   exact⟨v',by rw[fL (by rw[a])],rv⟩
  ·
   rw[y9 a] at e
   obtain⟨v,c,q⟩:=jf rr e
   exact⟨v,by rw[fM (by intro z;exact a (lS z))];exact c,q⟩
theorem iw {K:a3}:∀{kvs:List (Int × T)}{vs:List (z5 × V)},D7 K H kvs vs->(fK vs (cw k:z5)).isSome=(cX k kvs).isSome
 |[],_,.nil=>rfl
 | (k',t')::r,_,.cons (b:=(kk,v')) ⟨e1,rv⟩ rr=>by
  simp only at e1 rv
  subst e1
  unfold cX
  by_cases a:k'=k
  ·
   rw[zi a,fL (by rw[a])];rfl
  ·
   rw[y9 a,fM (by intro z;exact a (lS z))]
   exact iw rr
theorem vG {K:a3} (h:zI K H t v) (r:D7 K H kvs vs):D7 K H (qp k t kvs) (AK vs (cw k:z5) v):=by
 have e:∀{kvs:List (Int × T)} {vs:List (z5 × V)},D7 K H kvs vs->(kvs.any λa=>decide (a.1=k))=(vs.any λa=>decide (a.1=(cw k:z5)))/\D7 K H (kvs.map (λa=>if a.1=k then (a.1,t) else a)) (vs.map (λa=>if a.1=(cw k:z5) then (a.1,v) else a)):=by
  intro kvs;induction kvs with
  |nil=>intro vs r;cases r;exact⟨rfl,.nil⟩
  |cons p l m =>
  intro vs r;cases r with
  |cons q n =>
  rename_i b o;obtain⟨g,f⟩:=m n;obtain⟨i,j⟩:=q;obtain⟨s,u⟩:=b;simp only at i j;subst i;by_cases d:p.1=k
  .refine⟨by simp [d],?_⟩;simp only[z_,d,if_true];exact .cons ⟨rfl,h⟩ f
  have c:¬(cw p.1:z5)=cw k:=λz=>d (lS z);refine⟨by simp only[MQ,d,c,ER,jp];exact g,?_⟩;simp only[z_,d,c,Y_];exact .cons ⟨rfl,j⟩ f
 obtain⟨g,f⟩:=e r;unfold qp AK;rw[g];split
 .exact f
 exact l5 r ⟨rfl,h⟩
section
variable {K:a3}
theorem xr.wrI (s:xr K H3 H) (g:H a=ab (.dK h)) (r:D7 K H kvs c):xr K (eH H3 a (.dci kvs)) (zw H a (.dK c)):=λb o e=>by
 have f:R7 K H (zw H a (.dK c)):=bC (by rw[g];exact trivial);by_cases d:b=a
 .subst d;rw[aC] at e;cases e;exact⟨c,bR,r.mono f⟩
 rw[aD d] at e;exact (s b o e).stay f λu q=>by rw[aY d];exact q
theorem xr.newI (s:xr K H3 H) (c:H p=af):xr K (eH H3 p (.dci [])) (zw H p (.dK [])):=λa o e=>by
 by_cases b:a=p
 .subst b;rw[aC] at e;cases e;exact⟨[],bR,.nil⟩
 rw[aD b] at e;exact s.new c a o e
theorem xr.frzI (s:xr K H3 H) (g:H a=ab (.dK c)) (r:D7 K H kvs c):xr K (eH H3 a (.dif o kvs)) (zw H a (.frz o (.dK c))):=λb u e=>by
 have f:R7 K H (zw H a (.frz o (.dK c))):=bC (by rw[g];exact trivial);by_cases d:b=a
 .subst d;rw[aC] at e;cases e;exact⟨c,bR,r.mono f⟩
 rw[aD d] at e;exact (s b u e).stay f λu q=>by rw[aY d];exact q
end
section
variable {X:Cx}{ZT b' ZY ZU D':kc}{B':List Expr}{x1:Nat}
def zZ:zS:=λ_ H Q=>∀p,H p=af->Q (.ref p) (eH H p (.dci []))
theorem vH:Z7 X (.Dict [] [] ZT) zZ:=by
 refine PE.imp uT ?_;rintro Z H Q ⟨e,H3,d,c,b,h,k⟩ p a;exact k _ _ _ _ (aO a) (b.newI a) .ofRef (h p (b.fresh a))
def TZ (y:T) (p:ah) (v:T) (H:gV) (Q:Z1):Prop:=match y with
 |.int k=>H p=ab (.dci [])/\Q (.ref p) (eH H p (.dci [(k,v)]))
 |_=>False
def jW (tk a:zS):zS:=λZ H Q=>∀p,H p=af->tk Z (eH H p (.dci [])) λy c=>a Z c λv b=>TZ y p v b Q
theorem XQ (x:Int) (p:ah) (v:T):TZ (.int x) p v H Q=(H p=ab (.dci [])/\Q (.ref p) (eH H p (.dci [(x,v)]))):=rfl
theorem rF (C:Z7 X k tk) (t:Z7 X v tv):Z7 X (.Dict [ab k] [v] ZT) (jW tk tv):=by
 refine PE.imp (zj (uU C t zg) rfl rfl ze (by show 1<=15;decide)) ?_;rintro Z H Q ⟨n,H3,w,m,o,h,k⟩ p g;have a:R7 X.K H (zw H p (.dK [])):=aO g;refine⟨n,eH H3 p (.dci []),_,m.mono a,o.newI g,h p (o.fresh g),λy D A j b l B u=>?_⟩;refine⟨n,j,_,m.mono (a.trans b),l,u,λz E s f c d x q=>?_⟩;cases A with
 |int key =>
  have h':f p=ab (.dci [])/\w (.ref p) (eH f p (.dci [(key,s)])):=q
  obtain⟨ws,i,r⟩:=d p _ h'.1
  cases r
  refine⟨i,[(cw key,z)],by rw[(B.mono c).int];rfl,by show 1<=15;decide,?_⟩
  have e:jz [] [((cw key:z5),z)]=[((cw key:z5),z)]:=rfl
  rw[e]
  exact k _ _ _ _ (a.trans (b.trans (c.trans (bC (by rw[i];exact trivial))))) (d.wrI i (.cons ⟨rfl,x⟩ .nil)) .ofRef h'.2
 |_=>exact q.elim
def MC (o:Option O3) (k:Int) (H:gV) (Q:Z1):Prop:=match o with
 |some (.dci kvs)=>oq (cX k kvs) λt=>Q t H
 |some (.dif _ kvs)=>oq (cX k kvs) λt=>Q t H
 |_=>False
def XR:R3:=λx y H Q=>match x,y with
 |.ref a,.int k=>MC (H a) k H Q
 |_,_=>False
theorem aao (a:ah) (k:Int):XR (.ref a) (.int k) H Q=MC (H a) k H Q:=rfl
theorem O9 (kvs:List (Int × T)) (k:Int):MC (ab (.dci kvs)) k H Q=oq (cX k kvs) λt=>Q t H:=rfl
theorem GR (o:dP) (kvs:List (Int × T)) (k:Int):MC (ab (.dif o kvs)) k H Q=oq (cX k kvs) λt=>Q t H:=rfl
theorem jX (D:X.A.units+1<db) (L:Z7 X o z) (G:Z7 X i ti) (M:Ec i:=by exact λ_ _=>rfl):Z7 X (.Subscript o i ZT) (sY XR z ti):=by
 refine PE.imp (sU D L G M) ?_;rintro Z H Q ⟨w,H3,I,s,K,h,k⟩;refine⟨w,H3,_,s,K,h,λx N E n c p u F=>⟨w,n,_,s.mono c,p,F,λy P J f g b B q=>?_⟩⟩;cases E with
 |ref a =>
  cases J with
  |int key =>
   have h':MC (f a) key f I:=q
   cases e:f a with
   |none=>rw[e] at h';exact h'.elim
   |some C =>
    rw[e] at h'
    cases C with
    |dci kvs =>
     rw[O9] at h'
     obtain⟨vs,l,r⟩:=b a _ e
     cases d:cX key kvs with
     |none=>rw[d] at h';exact h'.elim
     |some t =>
      rw[d] at h'
      obtain⟨v,j,m⟩:=jf r d
      refine⟨a,v,u.ref,?_,k.at (c.trans g) _ _ _ _ .refl b m h'⟩
      rw[B.int,<- j]
      exact Db.k (k:=cw key) l
    |dif O kvs =>
     rw[GR] at h'
     obtain⟨vs,l,r⟩:=b a _ e
     cases d:cX key kvs with
     |none=>rw[d] at h';exact h'.elim
     |some t =>
      rw[d] at h'
      obtain⟨v,j,m⟩:=jf r d
      refine⟨a,v,u.ref,?_,k.at (c.trans g) _ _ _ _ .refl b m h'⟩
      rw[B.int,<- j]
      exact .inl ⟨vs,cw key,.inr ⟨_,l⟩,rfl,rfl⟩
    |_=>exact h'.elim
  |_=>exact q.elim
 |_=>exact q.elim
def T0 (x y v:T) (H:gV) (Q:gV->Prop):Prop:=match x,y with
 |.ref a,.int k=>match H a with
  |some (.dci kvs)=>kvs.length<ai/\Q (eH H a (.dci (qp k v kvs)))
  |_=>False
 |_,_=>False
def T8 (o:Option O3) (a:ah) (k:Int) (v:T) (H:gV) (Q:gV->Prop):Prop:=match o with
 |some (.dci kvs)=>kvs.length<ai/\Q (eH H a (.dci (qp k v kvs)))
 |_=>False
def z6 (f b d:zS):BY:=λD Z H=>d Z H λv a=>f Z a λx e=>b Z e λy H3=>T0 x y v H3 λc=>D.nx Z c
theorem XS (a:ah) (k:Int) (v:T) (Q:gV->Prop):T0 (.ref a) (.int k) v H Q=T8 (H a) a k v H Q:=rfl
theorem GX (kvs:List (Int × T)) (a:ah) (k:Int) (v:T) (Q:gV->Prop):T8 (ab (.dci kvs)) a k v H Q=(kvs.length<ai/\Q (eH H a (.dci (qp k v kvs)))):=rfl
theorem GZ (I:X.A.units+1<db) (P:Z7 X o td) (N:Z7 X i q) (J:Z7 X value w) (S:d6 value (ab (.Subscript o i b')) ZT.line X.env=bE am:=by rfl) :
  D3 X (.Assign [.Subscript o i b'] value ZT) (z6 td q w):=by
 refine PS.imp (zf I P N J S) ?_;rintro D Z H ⟨m,H3,T,l,O,h,G,_⟩;refine⟨m,H3,_,l,O,h,λv V w u b B Q L=>⟨m,u,_,l.mono b,B,L,λx W M C d t E U=>⟨m,C,_,l.mono (b.trans d),t,U,λy n q f c g R z=>?_⟩⟩⟩;cases M with
 |ref a =>
  cases q with
  |int key =>
   have h':T8 (f a) a key w f λn=>T.nx m n:=z
   cases e:f a with
   |none=>rw[e] at h';exact h'.elim
   |some F =>
    rw[e] at h'
    cases F with
    |dci kvs =>
     rw[GX] at h'
     obtain⟨vs,p,r⟩:=g a _ e
     have s:=Q.mono (d.trans c)
     have j:R7 X.K n (zw n a (.dK (AK vs (cw key:z5) v))):=bC (by rw[p];exact trivial)
     refine⟨a,_,(E.mono c).ref,?_,G _ _ _ _ (b.trans (d.trans (c.trans j))) (l.mono (b.trans (d.trans (c.trans j)))) (g.wrI p (vG s r)) h'.2⟩
     rw[R.int]
     exact Jn.k (k:=cw key) p (by rw[<- FK r];exact h'.1)
    |_=>exact h'.elim
  |_=>exact z.elim
 |_=>exact z.elim
def QI (a:Bool) (y:T) (o:Option O3) (H:gV) (Q:Z1):Prop:=match y,o with
 |.int k,ab (.dci kvs)=>Q (.bl (if a then !(cX k kvs).isSome else (cX k kvs).isSome)) H
 |_,_=>False
def T9 (b:Bool) (y x:T) (H:gV) (Q:Z1):Prop:=match x with
 |.ref a=>QI b y (H a) H Q
 |_=>False
def G4 (a:Bool) (b e:zS):zS:=λZ H Q=>b Z H λy c=>e Z c λx d=>T9 a y x d Q
theorem Ua (b:Bool) (y:T) (a:ah):T9 b y (.ref a) H Q=QI b y (H a) H Q:=rfl
theorem XX (a:Bool) (k:Int) (kvs:List (Int × T)):QI a (.int k) (ab (.dci kvs)) H Q=Q (.bl (if a then !(cX k kvs).isSome else (cX k kvs).isSome)) H:=rfl
theorem G5 {H:Hp}{f d:T} (n:xr X.K H3 H) (l:zI X.K H f x) (j:zI X.K H d y) (q:T9 c d f H3 g):
  ∃a h b,x=.ref a/\Db H a y h/\(if c then !h.isSome else h.isSome)=b/\g (.bl b) H3:=by
 cases f with
 |ref a =>
  have h':QI c d (H3 a) H3 g:=q
  cases d with
  |int k =>
   cases e:H3 a with
   |none=>rw[e] at h';exact h'.elim
   |some m =>
    rw[e] at h'
    cases m with
    |dci kvs =>
     obtain⟨ws,i,r⟩:=n a _ e
     refine⟨a,fK ws (cw k:z5),_,l.ref,by rw[j.int];exact Db.k (k:=cw k) i,rfl,?_⟩
     rw[iw r]
     exact h'
    |_=>exact h'.elim
  |_=>exact h'.elim
 |_=>exact q.elim
theorem jE (t:X.A.units+1<db) (v:Z7 X i ti) (B:Z7 X o td) (s:cr .NotIn o=am:=by rfl):D9 X (.Compare i [.NotIn] [o] ZT) (lg (G4 ag ti td)):=by
 refine PT.imp (xf (qW t v B) s) ?_;rintro Z H Q ⟨p,H3,I,m,z,h,k⟩;refine⟨p,H3,_,m,z,h,λy F J j c l C u=>⟨p,j,_,m.mono c,l,u,λx K G E d f r D=>?_⟩⟩;obtain⟨a,n,b,e,g,w,q⟩:=G5 f r (C.mono d) D;exact⟨a,n,e,g,by rw[show (!n.isSome)=b from w];exact⟨b,rfl,k _ _ _ (c.trans d) f q⟩⟩
def So (o:Option O3) (a:ah) (k:Int) (v:T) (H:gV) (Q:Z1):Prop:=match o with
 |some (.dci kvs)=>kvs.length<ai/\match cX k kvs with
  |some t=>Q t H
  |none=>Q v (eH H a (.dci (qp k v kvs)))
 |_=>False
def TW (x y v:T) (H:gV) (Q:Z1):Prop:=match x,y with
 |.ref a,.int k=>So (H a) a k v H Q
 |_,_=>False
def Ub (o:Option O3):Prop:=match o with
 |some (.dci _)=>True
 |_=>False
def X3 (x:T) (H:gV):Prop:=match x with
 |.ref a=>Ub (H a)
 |_=>False
def G6 (e b c:zS):zS:=λZ H Q=>e Z H λx a=>X3 x a/\b Z a λy d=>c Z d λv H3=>TW x y v H3 Q
theorem ym (a:ah):X3 (.ref a) H=Ub (H a):=rfl
theorem Uc (kvs:List (Int × T)):Ub (ab (.dci kvs))=True:=rfl
theorem Pa (a:ah) (k:Int) (v:T):TW (.ref a) (.int k) v H Q=So (H a) a k v H Q:=rfl
theorem Pb (kvs:List (Int × T)) (a:ah) (k:Int) (v:T):So (ab (.dci kvs)) a k v H Q=(kvs.length<ai/\match cX k kvs with
  |some t=>Q t H
  |none=>Q v (eH H a (.dci (qp k v kvs)))):=rfl
theorem K9 (ho:Z7 X o td) (Y:Z7 X e I) (V:Z7 X f tv) (m:M2 X o "setdefault" ZY e f ZU:=by exact⟨rfl,rfl,rfl,rfl⟩):Z7 X (.Call (.Attribute o "setdefault" ZY) [e,f] [] ZU) (G6 td I tv):=by
 refine PE.imp (K8 ho Y V m) ?_;rintro Z H Q ⟨A,H3,Q3,u,sh,h,k⟩;refine⟨A,H3,_,u,sh,h,λx H1 W p c q U D=>?_⟩;obtain⟨n,D⟩:=D;cases W with
 |ref a =>
  cases B:p a with
  |none=>rw[ym,B] at n;exact n.elim
  |some w =>
  rw[ym,B] at n;cases w with
  |dci M =>
   obtain⟨C,F,_⟩:=q a _ B;refine⟨a,U.ref,.inl ⟨C,.inl F⟩,A,p,_,u.mono c,q,D,λy H2 I L l J ry q2=>⟨A,L,_,u.mono (c.trans l),J,q2,λz S tz E i d R b=>?_⟩⟩;cases I with
   |int key =>
    rw[Pa] at b;cases e:E a with
    |none=>rw[e] at b;exact b.elim
    |some w =>
    rw[e] at b;cases w with
    |dci kvs =>
     rw[Pb] at b;obtain⟨vs,G,r⟩:=d a _ e;have O:=c.trans (l.trans i);refine⟨vs,cw key,G,(ry.mono i).int,by rw[<- FK r];exact b.1,λv P=>?_,λT=>?_⟩
     .have j:=iw (k:=key) r;cases g:cX key kvs with
      |none=>rw[g,P] at j;cases j
      |some t =>
      rw[g] at b;obtain⟨v',N,rv⟩:=jf r g;rw[P] at N;cases N;exact k _ _ _ _ O d rv b.2
     have j:=iw (k:=key) r;cases g:cX key kvs with
     |some t=>rw[g,T] at j;cases j
     |none =>
     rw[g] at b;have s:R7 X.K S (zw S a (.dK (AK vs (cw key:z5) z))):=bC (by rw[G];exact trivial);exact k _ _ _ _ (O.trans s) (d.wrI G (vG R r)) (R.mono s) b.2
    |_=>exact b.elim
   |_=>exact b.elim
  |_=>exact n.elim
 |_=>exact n.elim
def Os (a:Int × T):T:=.tup [.int a.1,a.2]
def yo (a:ah) (o:dP) (kvs:List (Int × T)):gV->Prop:=λH=>H a=ab (.dif o kvs)
def SK (u:Option O3) (a:ah) (H:gV) (R:List T->(gV->Prop)->gV->Prop):Prop:=match u with
 |some (.dci kvs)=>∀o,R (kvs.map Os) (yo a o kvs) (eH H a (.dif o kvs))
 |_=>False
def Sl (x:T) (H:gV) (R:List T->(gV->Prop)->gV->Prop):Prop:=match x with
 |.ref a=>SK (H a) a H R
 |_=>False
def z7 (te:zS):EJ:=λZ H R=>te Z H λx a=>Sl x a R
theorem G7 (te:zS):z7 te Z H R=te Z H λx a=>Sl x a R:=rfl
theorem Pg (a:ah):Sl (.ref a) H R=SK (H a) a H R:=rfl
theorem Ph (kvs:List (Int × T)) (a:ah):SK (ab (.dci kvs)) a H R=∀o,R (kvs.map Os) (yo a o kvs) (eH H a (.dif o kvs)):=rfl
theorem yp {K:a3}{H:Hp}{o:dP}:jt K (PF a o) (kvs.map Os) (yo a o kvs) H:=λH' d x j st=>by
 obtain⟨vs,b,r⟩:=j a _ st;have s:=FK r;refine⟨λi l=>⟨vs,b,by rw[d_] at l;omega⟩,λi t e=>?_⟩;rw[u_] at e;cases q:kvs[i]? with
 |none=>rw[q] at e;cases e
 |some A =>
 rw[q] at e;cases e;obtain⟨⟨n,v⟩,h,f,g⟩:=fV r q;simp only at f g;subst f;refine⟨⟨vs,_,b,h⟩,λz k y=>?_⟩;obtain⟨p,u,w,rfl,c,rfl,m⟩:=y;have:=(m vs b).symm.trans h;cases this;exact⟨aO c,j.new c,xr.newTup (H3:=d) c (.cons .ofInt (.cons g .nil))⟩
theorem vI (n:Z7 X e te) (c:cS e "items" X.env (bo e X.env)=bo e X.env:=by rfl) (b:(ZY.endLine==ZU.line)=ag:=by rfl):
  Fu X (.Tuple B' x1 D') (.Call (.Attribute e "items" ZY) [] [] ZU) (z7 te):=by
 refine PI.imp (GQ n c b) ?_;rintro Z H R ⟨u,H3,R3,j,s,h,k⟩;refine⟨u,H3,_,j,s,h,λv H' t f p d r q=>?_⟩;cases t with
 |ref a =>
  rw[Pg] at q;cases i:f a with
  |none=>rw[i] at q;exact q.elim
  |some m =>
  rw[i] at q;cases m with
  |dci kvs=>rw[Ph] at q;obtain⟨vs,g,l⟩:=d a _ i;exact⟨a,vs,r.ref,g,λo=>k _ _ _ _ _ (p.trans (bC (by rw[g];exact trivial))) (d.frzI g l) yp (q o)⟩
  |_=>exact q.elim
 |_=>exact q.elim
end
theorem rG {K:a3}:∀{c:List (ap × T)}{vs:List (ap × V)}{t:T},G2 K H c vs->aP f c=ab t->∃v,vs.lookup f=ab v/\zI K H t v
 |[],_,_,_,e=>by cases e
 | (g,t')::r,_,t,.cons (b:=(g',v')) ⟨e1,rv⟩ rr,e=>by
  simp only at e1 rv
  subst e1
  unfold aP at e
  by_cases a:g'=f
  ·
   rw[zi a] at e
   cases e
   exact⟨v',by rw[GS,show (f==g')=ag from Gc.mpr a.symm],rv⟩
  ·
   rw[y9 a] at e
   obtain⟨v,d,q⟩:=rG rr e
   exact⟨v,by rw[GS,show (f==g')=am from IH.mpr (aS a)];exact d,q⟩
theorem oZ {K:a3}:∀{c:List (ap × T)}{vs:List (ap × V)},G2 K H c vs->aP f c=af->vs.lookup f=af
 |[],_,.nil,_=>rfl
 | (g,t')::r,_,.cons (b:=(g',v')) ⟨e1,rv⟩ rr,e=>by
  simp only at e1 rv
  subst e1
  unfold aP at e
  by_cases a:g'=f
  ·
   rw[zi a] at e;cases e
  ·
   rw[y9 a] at e
   rw[GS,show (f==g')=am from IH.mpr (aS a)]
   exact oZ rr e
def dU (f:ap) (v:T):List (ap × T)->List (ap × T)
 |[]=>[(f,v)]
 | (g,x)::r=>if g=f then (g,v)::r else (g,x)::dU f v r
theorem vJ {K:a3} (c:zI K H t v):∀{d:List (ap × T)}{vs:List (ap × V)},G2 K H d vs->G2 K H (dU f t d) (gW f v vs)
 |[],_,.nil=>.cons ⟨rfl,c⟩ .nil
 | (g,t')::r,_,.cons (b:=(g',v')) ⟨e1,r1⟩ rr=>by
  simp only at e1 r1
  subst e1
  unfold dU gW
  by_cases a:g'=f
  ·
   rw[zi a,zi a];exact .cons ⟨rfl,c⟩ rr
  ·
   rw[y9 a,y9 a];exact .cons ⟨rfl,r1⟩ (vJ c rr)
structure Fh (K:a3) (C:ah) (ns:List ap):Prop where
 cls:FO K C
 no:∀n∈ns,L4 K C n
structure F8 (P:bX) (w:bP) (K:a3) (mg:ap->Option av) (base:cK) (C:ah) (k:Nat) (m:ap) (ps:List ap) (sp:Au):Prop where
 cls:FO K C
 ex:∃(f:ah) (fd:de),IT K C m f/\AS K fd ps []/\lW P w K mg base k f fd ps sp
structure NJ (P:bX) (w:bP) (K:a3) (mg:ap->Option av) (base:cK) (C:ah) (k:Nat) (x:ap) (ps:List ap) (sp:Au):Prop where
 at_:mg x=ab (.ref C)
 ex:∃(f:ah) (fd:de),Mk K C f/\AS K fd ps []/\lW P w K mg base k f fd ps sp
structure GM (K:a3) (C:ah) (m qual:ap) (st:eB) (ps:List ap) (f:ah) (fd:de):Prop where
 cls:FO K C
 fn:GT K m qual st f fd
 b:AS K fd ps []
 mt:IT K C m f
structure GI (K:a3) (mg:ap->Option av) (C:ah) (x qual:ap) (st:eB) (ps:List ap) (f:ah) (fd:de):Prop where
 mk_:Mk K C f
 fn:GT K "__init__" qual st f fd
 b:AS K fd ps []
 at_:mg x=ab (.ref C)
theorem xr.wrO {K:a3} (s:xr K H3 H) (i:H a=ab (.ins C d vs)) (r:G2 K H g c):xr K (eH H3 a (.ins C g)) (zw H a (.ins C d c)):=λb o e=>by
 have h:R7 K H (zw H a (.ins C d c)):=bC (by rw[i];exact trivial);by_cases f:b=a
 .subst f;rw[aC] at e;cases e;exact⟨d,c,bR,r.mono h⟩
 rw[aD f] at e;exact (s b o e).stay h λu q=>by rw[aY f];exact q
section
variable {ZT b' ZY p:kc}{H:gV}
def Ud (C:ah) (f:ap) (u:Option O3) (H:gV) (Q:Z1):Prop:=match u with
 |some (.ins C' fs)=>C'=C/\oq (aP f fs) λt=>Q t H
 |_=>False
def X4 (C:ah) (f:ap) (x:T) (H:gV) (Q:Z1):Prop:=match x with
 |.ref a=>Ud C f (H a) H Q
 |_=>False
def Pj (C:ah) (f:ap) (a:zS):zS:=λZ H Q=>a Z H λx b=>X4 C f x b Q
theorem G8 (a:ah):X4 C f (.ref a) H Q=Ud C f (H a) H Q:=rfl
theorem Ue (a:List (ap × T)):Ud C f (ab (.ins C a)) H Q=oq (aP f a) λt=>Q t H:=propext ⟨λh=>h.2,λh=>⟨rfl,h⟩⟩
theorem fW (c:Fh X.K C ns) (E:Z7 X e ta) (x:f∈ns:=by simp) (A:cS e f X.env (bo e X.env)=bo e X.env:=by rfl):Z7 X (.Attribute e f ZT) (Pj C f ta):=by
 refine PE.imp (Rf E A) ?_;rintro Z H Q ⟨u,H3,y,n,F,h,k⟩;refine⟨u,H3,_,n,F,h,λv H' t b s d r q=>?_⟩;cases t with
 |ref a =>
  rw[G8] at q;cases j:b a with
  |none=>rw[j] at q;exact q.elim
  |some p =>
  rw[j] at q;cases p with
  |ins m l =>
   obtain⟨rfl,g⟩:=(show m=C/\oq (aP f l) λt=>y t b from q);clear q;obtain⟨z,vs,B,D⟩:=d a _ j;cases i:aP f l with
   |none=>rw[i] at g;exact g.elim
   |some t =>
   rw[i,iu] at g;obtain⟨w,o,G⟩:=rG D i;exact⟨a,m,z,vs,w,r.ref,B,c.cls,c.no f x,o,k _ _ _ _ s d G g⟩
  |_=>exact q.elim
 |_=>exact q.elim
def TK (C:ah) (f:ap) (a:ah) (y:T) (u:Option O3) (H:gV) (Q:gV->Prop):Prop:=match u with
 |some (.ins C' fs)=>C'=C/\fs.length<1000/\Q (eH H a (.ins C (dU f y fs)))
 |_=>False
def UP (C:ah) (f:ap) (x y:T) (H:gV) (Q:gV->Prop):Prop:=match x with
 |.ref a=>TK C f a y (H a) H Q
 |_=>False
def Pk (C:ah) (f:ap) (b a:zS):BY:=λD Z H=>a Z H λy c=>b Z c λx d=>UP C f x y d λH3=>D.nx Z H3
theorem Pn (a:ah) (y:T) (Q:gV->Prop):UP C f (.ref a) y H Q=TK C f a y (H a) H Q:=rfl
theorem X5 (a:ah) (y:T) (b:List (ap × T)) (Q:gV->Prop):TK C f a y (ab (.ins C b)) H Q=(b.length<1000/\Q (eH H a (.ins C (dU f y b)))):=propext ⟨λh=>h.2,λh=>⟨rfl,h⟩⟩
theorem tV (c:Fh X.K C ns) (Q:Z7 X o ta) (F:Z7 X value tv) (E:f∈ns:=by simp) (O:d6 value (ab (.Attribute o f b')) ZT.line X.env=bE am:=by rfl):D3 X (.Assign [.Attribute o f b'] value ZT) (Pk C f ta tv):=by
 refine PS.imp (Rg Q F O) ?_;rintro D Z H ⟨l,H3,P,k,L,h,B,_⟩;refine⟨l,H3,_,k,L,h,λy R J n b s N G=>⟨l,n,_,k.mono b,s,G,λx w I i d g z e=>?_⟩⟩;cases I with
 |ref a =>
  rw[Pn] at e;cases r:i a with
  |none=>rw[r] at e;exact e.elim
  |some A =>
  rw[r] at e;cases A with
  |ins p v=>obtain⟨rfl,M,q⟩:=(show p=C/\v.length<1000/\P.nx l (eH i a (.ins C (dU f J v))) from e);obtain⟨t,vs,m,u⟩:=g a _ r;have j:R7 X.K w (zw w a (.ins p t (gW f y vs))):=bC (by rw[m];exact trivial);exact⟨a,p,t,vs,z.ref,m,c.cls,c.no f E,by rw[<- FK u];exact M,B _ _ _ _ (b.trans (d.trans j)) (k.mono (b.trans (d.trans j))) (g.wrO m (vJ (N.mono d) u)) q⟩
  |_=>exact e.elim
 |_=>exact e.elim
def TC (C:ah) (m:ap) (u:Option O3) (q:Prop):Prop:=match u with
 |some (.ins C' fs)=>C'=C/\aP m fs=af/\q
 |_=>False
def UO (C:ah) (m:ap) (x:T) (H:gV) (q:Prop):Prop:=match x with
 |.ref a=>TC C m (H a) q
 |_=>False
def G9 (C:ah) (m:ap) (sp:Au) (b:zS) (t:DM):zS:=λZ H Q=>b Z H λx a=>UO C m x a (t Z a λvs c=>sp (x::vs) c Q)
theorem Pq (a:ah) (q:Prop):UO C m (.ref a) H q=TC C m (H a) q:=rfl
theorem Ha (a:List (ap × T)) (q:Prop):TC C m (ab (.ins C a)) q=(aP m a=af/\q):=propext ⟨λh=>h.2,λh=>⟨rfl,h⟩⟩
theorem jg {pl:Sem Bool}(M:F8 X.prog X.w X.K X.mg X.base C n m ps sp) (J:Pr n X.A) (O:Z7 X o ta) (T:DZ X (e::es) t)
  (g:aw (e::es) X.env=(am,bo e X.env)::aw es X.env:=by rfl) (j:(bb ZT (aw es X.env)).any (·.1)=am:=by rfl)
  (I:bo (.Call (.Attribute o m ZY) (e::es) [] ZT) X.env=(do
   let ov <- bo o X.env
   oy ZY.atName
   let (f,first) <- eS [ov] (rh ov m pl)
   callWith ZT f first (bb ZT (aw (e::es) X.env)) (pa ZT (im [] X.env))):=by rfl) :
  Z7 X (.Call (.Attribute o m ZY) (e::es) [] ZT) (G9 C m sp ta t):=by
 obtain⟨f,W,z,G,F⟩:=M.ex;refine PE.imp (JK (dvs:=[]) (E:=E0) O M.cls z F J G .nil Eg T g j I) ?_;rintro Z H Q ⟨x,H3,B,s,P,h,k⟩;refine⟨x,H3,_,s,P,h,λv H' t c u d r q=>?_⟩;cases t with
 |ref a =>
  rw[Pq] at q;cases l:c a with
  |none=>rw[l] at q;exact q.elim
  |some y =>
  rw[l] at q;cases y with
  |ins C' Y=>obtain⟨rfl,R,q⟩:=q;obtain⟨D,vs,L,N⟩:=d a _ l;refine⟨a,D,vs,r.ref,L,oZ N R,x,c,_,s.mono u,d,q,λus S ts p b i U V=>?_⟩;show u9 X.K sp (v::(us++[])) S Q E0;rw[X_];exact⟨_,p,B,.cons (r.mono b) U,i,V,k.at (u.trans b)⟩
  |_=>exact q.elim
 |_=>exact q.elim
def Hb (C:ah) (sp:Au) (t:DM):zS:=λZ H Q=>t Z H λvs b=>∀a,b a=af->sp (.ref a::vs) (eH b a (.ins C [])) λv c=>v=.non/\Q (.ref a) c
theorem tW (M:NJ X.prog X.w X.K X.mg X.base C n x ps sp) (R:Pr (n+1) X.A) (P:Gl X x) (o:DZ X (e::es) t) (y:(x==("__debug__":ap))=am:=by decide)
  (S:aw (e::es) X.env=(am,bo e X.env)::aw es X.env:=by rfl) (B:(bb ZT (aw es X.env)).any (·.1)=am:=by rfl):Z7 X (.Call (.Name x p) (e::es) [] ZT) (Hb C sp t):=by
 obtain⟨f,fd,O,l,F⟩:=M.ex;refine PE.imp (JL (dvs:=[]) (E:=E0) O F R P M.at_ l .nil Eg o y S B) ?_;rintro Z H Q ⟨N,H3,Q3,I,W,h,k⟩;refine⟨N,H3,_,I,W,h,λus H' ts z L j Y q=>λa c o g r=>?_⟩;show u9 X.K sp (V.ref a::(us++[])) _ _ E0;rw[X_];have D:zw H' c (.own a) a=af:=by rw[aY (aS r)];exact o
 have d:R7 X.K H' (zw H' c (.own a)):=aO g;have i:R7 X.K (zw H' c (.own a)) (zw (zw H' c (.own a)) a (.ins C c [])):=aO D;refine⟨yB a::ts,eH z a (.ins C []),_,.cons .ofRef (Y.mono (d.trans i)),λb J m=>?_,q a (j.fresh o),λv H2 t2 H32 s u U G=>⟨?_,?_⟩⟩
 .by_cases l:b=a
  .subst l;rw[aC] at m;cases m;exact⟨c,[],bR,.nil⟩
  rw[aD l] at m;exact ((j.new g).new D) b J m
 .obtain⟨rfl,_⟩:=G;exact U.non
 exact k _ _ _ _ (L.trans (d.trans (i.trans s))) u .ofRef G.2
def OR (i j:Int):Prop:=i.natAbs<2^1000/\j.natAbs<2^1000
def Pu (i j:Int):Prop:=j=2/\i.natAbs<2^1000
theorem OR.ok (h:OR i j):x6 i j:=by
 have c:=uS h.1;have a:=uS h.2;unfold x6;have:Builtin.Int.intTooBig ((Builtin.Int.intBits i:Int)+(Builtin.Int.intBits j:Int))=am:=by
  unfold Builtin.Int.intTooBig;have b:(2000:Int)<=(bitsLine:Int):=Ap
  rw[OB];omega
 rw[this,OH];exact B_
theorem z8:dh X (br .Mult) (Ic OR λi j=>.int (i*j)):=vd (Kx λ_ _ _ _ _ _ _ a q=>mul_int q a.ok) λ_ _ _=>.ofInt
theorem La:dh X (br .Pow) (Ic Pu λi j=>.int (i^j.toNat)):=vd (Kx λi j _ _ _ _ _ a q=>pow_int (by rw[a.1];decide) (by
 have b:=uS a.2
 rw[a.1]
 omega) q) λ_ _ _=>.ofInt
def Px:R3:=λx y H Q=>match y with
 |.non=>Q (.bl (!D5 x)) H
 |_=>False
theorem X6 (x:T) (H:gV) (Q:Z1):Px x .non H Q=Q (.bl (!D5 x)) H:=rfl
theorem Ug:dh X (be .IsNot) Px:=by
 refine AO.imp Jy ?_;rintro x y H Q ⟨c,ty,H3,g,b,d,f,h,k⟩;cases ty with
 |non =>
  refine⟨d.non,?_⟩;have e:decide (x=.non)=D5 c:=by
   cases c with
   |non=>rw[b.non];rfl
   |int i=>rw[b.int];rfl
   |str i=>rw[b.str];rfl
   |bl i=>rw[b.bl];rfl
   |ref a=>rw[b.ref];rfl
   |tup ts=>obtain⟨a,vs,rfl,_⟩:=b.tup;rfl
   |ty n=>rw[b.ty];rfl
  rw[e];exact k _ _ _ _ .refl f .ofBl h
 |_=>exact h.elim
def Sa (o:Option O3) (H:gV) (Q:Z1):Prop:=match o with
 |some (.lst xs)=>oq (zv xs) λns=>ns≠[]/\∀M,M∈ns->(∀a∈ns,M<=a)->Q (.int M) H
 |_=>False
def Hc:List T->gV->Z1->Prop:=λts H Q=>match ts with
 |[.ref a]=>Sa (H a) H Q
 |_=>False
theorem Hd (a:ah) (H:gV) (Q:Z1):Hc [.ref a] H Q=Sa (H a) H Q:=rfl
theorem Py (xs:List T) (H:gV) (Q:Z1):Sa (ab (.lst xs)) H Q=oq (zv xs) λns=>ns≠[]/\∀M,M∈ns->(∀a∈ns,M<=a)->Q (.int M) H:=rfl
theorem Lb (D:X.calm=ag):dO X (.builtin "min") Hc:=by
 intro x s Z H xs us Q I J h;obtain⟨ts,H3,M,r,y,h,k⟩:=h;cases ts with
 |nil=>exact h.elim
 |cons t ts =>
 cases ts with
 |cons _ _=>cases t <;> exact h.elim
 |nil =>
 cases t with
 |ref a =>
  rw[Hd] at h;obtain⟨v,rfl,l⟩:=r.one';obtain⟨u,rfl,q⟩:=AQ J;rw[l.ref] at q;cases q;cases e:H3 a with
  |none=>rw[e] at h;exact h.elim
  |some o =>
  rw[e] at h;cases o with
  |lst G =>
   rw[Py] at h;obtain⟨N,A,E⟩:=y.sqL (.inl e);cases i:zv G with
   |none=>rw[i] at h;exact h.elim
   |some ns =>
   rw[i,iu] at h;obtain⟨m,h⟩:=h;obtain⟨b,n,K,_⟩:=I.list A;have w:=ir i E n;have c:AllInts b.toArray:=w.allInts;obtain⟨d,p⟩:=c.items;have g:s.heap.IsList a (xS d):=by rw[<- p];exact K.isList
   have f:=m3 d;rw[<- p,show b.toArray.toList=b from rfl,w.numsOf] at f;have hz:0<d.size:=by have:=Q_ aT f;simp at this;have:=List.length_pos_iff.mpr m;omega
   refine min_intList (I.ok.hd D) g hz λv h' tk B L=>?_;obtain⟨t,rfl⟩:=intItems_at B;obtain⟨O,C⟩:=argBest_lt (numAt d) (d.size - 1);refine⟨.int _,H,I.kept L,⟨t,rfl⟩,k _ _ _ _ .refl y .ofInt (h _ ?_ λa z=>?_)⟩
   .rw[f,tS];exact getD_mem (by rw[d_,C3];omega)
   rw[f] at z;obtain⟨j,F,rfl⟩:=mem_getD z;rw[d_,C3] at F;rw[<- tS];exact C j yT
  |_=>exact h.elim
 |_=>cases h
end
open L2 PySem.W
section
variable {O:l9}
def Kw (O:l9) (key:Nat->O.α) (n:Nat) {b:Type}:KasT b->(b->Prop)->Prop
 |.ret a,Q=>Q a
 |.ask i j k,Q=>i<n/\j<n/\Kw O key n (k (O.blt (key i) (key j))) Q
theorem Kw.bind {f:c->KasT b}{Q:b->Prop}:∀{t:KasT c},Kw O key n t (λa=>Kw O key n (f a) Q)->Kw O key n (t.bind f) Q
 |.ret a,h=>h
 |.ask i j k,h=>⟨h.1,h.2.1,Kw.bind h.2.2⟩
theorem Kw.wp (d:∀i j (C:Bool->aE->Prop),i<n->j<n->C (O.blt (key i) (key j)) s->b i j C s) {Q:c->Prop}{R:c->aE->Prop} (e:∀a,Q a->R a s):
  ∀{t:KasT c},Kw O key n t Q->t.kasWp b R s
 |.ret a,h=>e a h
 |.ask i j k,h=>d i j _ h.1 h.2.1 (Kw.wp d e h.2.2)
structure Pm (n:Nat) (p:Array Nat):Prop where
 pm:p.toList.Perm (ae n)
 n1:1<=n
theorem Pm.sz (h:Pm n p):p.size=n:=by
 have:=h.pm.length_eq;rw[m_] at this;simpa using this
theorem Pm.lt (h:Pm n p) (i:Nat):p.getD i 0<n:=by
 rw[KG];by_cases a:i<p.size
 .rw[O_ a];exact K_.mp (h.pm.mem_iff.mp ze)
 rw[NE yT];exact h.n1
theorem Pm.by (h:Pm n p) (e:q.Perm p):Pm n q:=⟨(Array.perm_iff_toList_perm.mp e).trans h.pm,h.n1⟩
def Ky (O:l9) (key:Nat->O.α) (p:Array Nat) (i:Nat):O.α:=key (p.getD i 0)
def Up (O:l9) (key:Nat->O.α) (p:Array Nat) (k:Nat):Prop:=∀i j,i<=j->j<k->O.kle (Ky O key p i) (Ky O key p j)
def Dn (O:l9) (key:Nat->O.α) (p:Array Nat) (k:Nat):Prop:=∀i j,i<=j->j<k->O.kle (Ky O key p j) (Ky O key p i)
theorem Ky.congr (h:p[i]?=q[j]?):Ky O key p i=Ky O key q j:=by unfold Ky;rw[KG,KG,h]
theorem Ky.mir (a:j<=p.size) (k:Nat):Ky O key (kas_rev p i j) k=if i<=k/\k<j then Ky O key p (i+j - 1 - k) else Ky O key p k:=by
 have e:=getElem?_mirror_all (i:=i) a k;split at e <;> rename_i h
 .rw[zi h];exact Ky.congr e
 rw[y9 h];exact Ky.congr e
theorem Ky.mirEq (b:j<=p.size) (a:∀k,i<=k->k<j->Ky O key p k=Ky O key p (j - 1)) (k:Nat):Ky O key (kas_rev p i j) k=Ky O key p k:=by
 rw[Ky.mir b];split
 .rw[a _ yT yT,a k yT yT]
 rfl
theorem Ky.bub (f:s<p.size) (c:d<=s) (k:Nat):Ky O key (bubble p s d) k=if k=s - d then Ky O key p s else if s - d<k/\k<=s then Ky O key p (k - 1) else Ky O key p k:=by
 have e:=getElem?_bubble f d c k;by_cases b:k=s - d
 .rw[zi b] at e |-;exact Ky.congr e
 rw[y9 b] at e |-;by_cases a:s - d<k/\k<=s
 .rw[zi a] at e |-;exact Ky.congr e
 rw[y9 a] at e |-;exact Ky.congr e
theorem Pm.rev (h:Pm n p) (i j:Nat):Pm n (kas_rev p i j):=h.by (mirror_perm _ _ _ _)
theorem Up.one:Up O key p 1:=λi j b a=>by
 obtain rfl:i=j:=by omega
 exact Kb _
theorem Up.more (f:1<=k) (h:Up O key p k) (e:O.kle (Ky O key p (k - 1)) (Ky O key p k)):Up O key p (k+1):=λi j c d=>by
 by_cases a:j<k
 .exact h i j c a
 obtain rfl:j=k:=by omega
 by_cases b:i=j
 .subst b;exact Kb _
 exact fk (h i (j - 1) yT yT) e
theorem Dn.more (f:1<=k) (h:Dn O key p k) (e:O.kle (Ky O key p k) (Ky O key p (k - 1))):Dn O key p (k+1):=λi j c d=>by
 by_cases a:j<k
 .exact h i j c a
 obtain rfl:j=k:=by omega
 by_cases b:i=j
 .subst b;exact Kb _
 exact fk e (h i (j - 1) yT yT)
theorem yq (b:Pm n p):∀(f a:Nat),1<=a->Up O key p a->(∀m,a<=m->m<=a+f->Up O key p m->m=a+f\/O.klt (Ky O key p m) (Ky O key p (m - 1))->Q m)->Kw O key n (kas_asc p f a) Q
 |0,a,_,h,k=>k a (l_ _) (l_ _) h (.inl rfl)
 |f+1,a,ha,h,k=>by
  refine⟨b.lt _,b.lt _,?_⟩
  cases e:O.blt (key (p.getD a 0)) (key (p.getD (a - 1) 0)) with
  |true=>exact k a (l_ _) yT h (.inr e)
  |false=>exact yq b f (a+1) yT (h.more ha e) λm i g d c=>k m yT yT d (c.imp (λq=>by omega) id)
theorem ni:∀(f:Nat) (p:Array Nat) (a q:Nat),Pm n p->1<=a->a+f<=n->Dn O key p a->q+1<=a->(∀i,a - (q+1)<=i->i<a->Ky O key p i=Ky O key p (a - 1)) ->
  (∀b m r,Pm n b->a<=m->m<=a+f->Dn O key b m->r+1<=m->(∀i,m - (r+1)<=i->i<m->Ky O key b i=Ky O key b (m - 1))->Q (b,m,r))->Kw O key n (kas_desc f p a q) Q
 |0,p,a,q,hp,_,_,h,hq,he,k=>k p a q hp (l_ _) (l_ _) h hq he
 |f+1,p,a,q,hp,ha,hn,h,hq,he,k=>by
  refine⟨hp.lt _,hp.lt _,?_⟩
  cases e:O.blt (key (p.getD a 0)) (key (p.getD (a - 1) 0)) with
  |true =>
   have B:a<=p.size:=by rw[hp.sz];omega
   have o:∀b:Array Nat,∀i,a+1 - (0+1)<=i->i<a+1->Ky O key b i=Ky O key b (a+1 - 1):=λb i u v=>by rw[show i=a+1 - 1 by omega]
   dsimp only
   rw[zi rfl]
   by_cases c:q>0
   ·
    rw[zi c]
    have t:=Ky.mirEq (O:=O) (key:=key) (i:=a - (q+1)) B he
    refine ni f _ (a+1) 0 (hp.rev _ _) yT yT (Dn.more ha (λi j u v=>by rw[t,t];exact h i j u v) (by rw[t,t];exact NG e)) yT (o _) λb m r g y w d s l=>k b m r g yT yT d s l
   ·
    rw[y9 c]
    exact ni f p (a+1) 0 hp yT yT (h.more ha (NG e)) yT (o _) λb m r g y w d s l=>k b m r g yT yT d s l
  |false =>
   dsimp only
   rw[y9 B_]
   refine⟨hp.lt _,hp.lt _,?_⟩
   cases z:O.blt (key (p.getD (a - 1) 0)) (key (p.getD a 0)) with
   |true=>exact k p a q hp (l_ _) yT h hq he
   |false =>
    dsimp only
    rw[y9 B_]
    have x:Ky O key p a=Ky O key p (a - 1):=mE z e
    refine ni f p (a+1) (q+1) hp yT yT (h.more ha (by rw[x];exact Kb _)) yT (λi u v=>?_) λb m r g y w d s l=>k b m r g yT yT d s l
    rw[show a+1 - 1=a by omega]
    by_cases A:i=a
    ·
     rw[A]
    ·
     rw[x];exact he i yT yT
theorem z9 (b:Pm n p) (f:1<=a) (d:a<=n) (h:Dn O key p a) (k:∀m p',Pm n p'->1<=m->m<=n->Up O key p' m->Q (m,p')):Kw O key n (kas_tail3 a n p) Q:=by
 refine Kw.bind (yq (b.rev 0 a) _ a f (λi j g e=>?_) λm g e l _=>k m _ (b.rev 0 a) yT yT l);have c:a<=p.size:=by rw[b.sz];exact d
 rw[Ky.mir c,Ky.mir c,zi yT,zi yT];exact h _ _ yT yT
theorem my (o:Pm n p) (u:a+1<=n) (h:Dn O key p (a+1)) (k:∀m b,Pm n b->1<=m->m<=n->Up O key b m->Q (m,b)):Kw O key n (kas_descPart a n p) Q:=by
 refine Kw.bind (ni _ p (a+1) 0 o yT yT h yT (λi l g=>by rw[show i=a+1 - 1 by omega]) λb m r c v t e w q=>?_);dsimp only;have s:m<=b.size:=by rw[c.sz];omega
 by_cases f:r>0
 .rw[zi f];have d:=Ky.mirEq (O:=O) (key:=key) (i:=m - (r+1)) s q;exact z9 (c.rev _ _) yT yT (λi j l g=>by rw[d,d];exact e i j l g) k
 rw[y9 f];exact z9 c yT yT e k
theorem Hf (a:Pm n p) (k:∀m p',Pm n p'->1<=m->m<=n->Up O key p' m->Q (m,p')):Kw O key n (kas_count n p) Q:=by
 have u:=a.n1;refine Kw.bind (yq a _ 1 (l_ _) Up.one λm g v f r=>?_);by_cases h:m=n
 .rw[zi (by simpa using h)];exact k m p a g yT f
 rw[y9 (by simpa using h)];have c:O.klt (Ky O key p m) (Ky O key p (m - 1)):=r.resolve_left yT;by_cases l:m>1
 .rw[zi l];refine⟨a.lt _,a.lt _,?_⟩;cases e:O.blt (key (p.getD 0 0)) (key (p.getD (m - 1) 0)) with
  |true=>exact k m p a g yT f
  |false =>
  dsimp only;rw[y9 B_];have t:m<=p.size:=by rw[a.sz];omega
  have b:∀i,0<=i->i<m->Ky O key p i=Ky O key p (m - 1):=λi _ s=>mE (f i (m - 1) yT yT) (fk e (f 0 i yT s));have d:=Ky.mirEq (O:=O) (key:=key) (i:=0) t b;refine my (a.rev _ _) yT (Dn.more g (λi j o q=>?_) ?_) k
  .rw[d,d,b i yT yT,b j yT yT];exact Kb _
  rw[d,d];exact NG c
 rw[y9 l];obtain rfl:m=1:=by omega
 refine my a yT (Dn.more (l_ _) (λi j o q=>?_) (NG c)) k;obtain rfl:i=j:=by omega
 exact Kb _
theorem o4 (a:Pm n p):∀(f l r:Nat),l<=r->r<=k->r - l<=f->(∀i,i<l->O.kle (Ky O key p i) (Ky O key p k))->(∀i,r<=i->i<k->O.klt (Ky O key p k) (Ky O key p i))->Up O key p k ->
  (∀l,l<=k->(∀i,i<l->O.kle (Ky O key p i) (Ky O key p k))->(∀i,l<=i->i<k->O.klt (Ky O key p k) (Ky O key p i))->Q l)->Kw O key n (kas_place p k f l r) Q
 |0,l,r,h1,h2,h3,lo,hi,_,q=>by
  obtain rfl:l=r:=by omega
  exact q l h2 lo hi
 |f+1,l,r,h1,h2,h3,lo,hi,hu,q=>by
  unfold kas_place
  by_cases h:l ≥ r
  ·
   obtain rfl:l=r:=by omega
   rw[zi h]
   exact q l h2 lo hi
  ·
   rw[y9 h]
   refine⟨a.lt _,a.lt _,?_⟩
   cases e:O.blt (key (p.getD k 0)) (key (p.getD ((l+r) / 2) 0)) with
   |true=>exact o4 a f l ((l+r) / 2) yT yT yT lo (λi b c=>KeyOrd.klt_of_klt_of_kle e (hu _ i b c)) hu q
   |false=>exact o4 a f ((l+r) / 2+1) r yT h2 yT (λi b=>fk (hu i ((l+r) / 2) yT yT) e) hi hu q
theorem Hg:∀(f:Nat) (p:Array Nat) (k:Nat),Pm n p->k+f=n->Up O key p k->(∀b,Pm n b->Up O key b n->Q b)->Kw O key n (kas_bin f p k) Q
 |0,p,k,hp,e,h,q=>by
  obtain rfl:k=n:=by omega
  exact q p hp h
 |f+1,p,k,hp,e,h,q=>by
  have m:k<p.size:=by rw[hp.sz];omega
  refine Kw.bind (o4 hp k 0 k (B6 _) (l_ _) yT (λ_ z=>As z (NH _)) (λ_ v o=>As o yT) h λl u r s=>?_)
  refine Hg f _ (k+1) (hp.by (bubble_perm _ _ _)) yT (λi j t w=>?_) q
  rw[Ky.bub m yT,Ky.bub m yT,show k - (k - l)=l by omega]
  by_cases g:i=l
  ·
   rw[zi g]
   by_cases a:j=l
   ·
    rw[zi a];exact Kb _
   ·
    rw[y9 a,zi yT];exact NG (s _ yT yT)
  ·
   rw[y9 g]
   by_cases c:l<i/\i<=k
   ·
    rw[zi c,y9 yT,zi yT];exact h _ _ yT yT
   ·
    rw[y9 c]
    by_cases a:j=l
    ·
     rw[zi a];exact r i yT
    ·
     rw[y9 a]
     by_cases d:l<j/\j<=k
     ·
      rw[zi d];exact h _ _ yT yT
     ·
      rw[y9 d];exact h _ _ t yT
theorem Ld (e:1<=n):Kw O key n (kas_sort n) λp=>Pm n p/\Up O key p n:=by
 have f:Pm n (List.toArray (ae n)):=⟨.refl _,e⟩;refine Kw.bind (Hf f λm p c j i d=>?_);dsimp only;by_cases h:m<n
 .rw[zi h,show max m 1=m by omega];exact Hg _ p m c yT d λg a b=>⟨a,b⟩
 rw[y9 h];obtain rfl:m=n:=by omega
 exact⟨c,d⟩
def FX (h h':cK):Prop:=∀b o,h.get? b=ab o->h'.get? b=ab o
end
theorem rH:ba "sorted"=ab (.builtin "sorted"):=by decide +kernel
def NF (O:l9) (key:Nat->O.α) (n:Nat) (a:List Nat):Prop:=a.Perm (ae n)/\∀i j,i<=j->j<n->O.kle (key (a.getD i 0)) (key (a.getD j 0))
theorem NF.of (h:Pm n p) (u:Up O key p n):NF O key n p.toList:=⟨h.pm,λi j b a=>by
 have:=u i j b a;unfold Ky at this;rw[KG,KG] at this;rw[y_,y_,Go,Go];exact this⟩
section
variable {O:l9}
theorem o5 (m:s.heap.get? a=ab (cE "list" vs.toArray c)) (r:vs.length<64) (M:2<=vs.length->∀h',(∀b o,b≠a->s.heap.get? b=ab o->h'.get? b=ab o)->ax (aI P w) A (xL vs.toArray) (λu s'=>s'={ s with heap:=h'}/\∀i j (C:Bool->aE->Prop),i<vs.length->j<vs.length->C (O.blt (key i) (key j)) { s with heap:=h'}->sR P w A u vs i j C { s with heap:=h'}) (λ_ _=>False) { s with heap:=h'}) (h:∀ps,NF O key vs.length ps->R (.done (.ret .none)) { s with heap:=kw s.heap a vs (ps.map λi=>vs.getD i bg).toArray}):ax (aI P w) A (cn.«list.sort» ⟨[.ref a],[]⟩) R E s:=by
 have T:a<s.heap.objs.size:=C_ m;have hz:vs.length<=ai:=by rw[Ll];omega
 rw[list_sort_plain];refine a_ (oP m rfl ?_);refine a_ (i4 m rfl ?_ (by rw[p_];omega) (B6 _));obtain⟨q,k⟩:∃q,(s.heap.update a (ce λ_=>(#[]:Array av))).get? a=ab (cE "list" #[] q):=⟨_,kQ m λ_=>#[]⟩;refine a_ (sj k rfl ?_);refine a_ (s0 ?_ hz);refine a_ (OK ?_ (B6 _));refine DF ?_;have f:(((s.heap.update a (ce λ_=>(#[]:Array av))).push (cE "tuple" vs.toArray 0)).push (cE "list" #[] 0)).get? a=ab (cE "list" #[] q):=e_ _ (e_ _ k);show ax (aI P w) A _ R E { s with heap:=((s.heap.update a (ce λ_=>(#[]:Array av))).push (cE "tuple" vs.toArray 0)).push (cE "list" #[] 0)};dsimp only;by_cases g:vs.toArray.size<2
 .rw[zi g,zi g];refine a_ (h_ ?_);rw[StateT.run_pure];refine a_ (h_ ?_);dsimp only;rw[p_] at g;refine a_ (sj f rfl ?_);have e:((vs.toArray.zip vs.toArray).map (·.2))=((ae vs.length).map λi=>vs.getD i bg).toArray:=by
   match vs,g with
   |[],_=>simp
   |[v],_=>simp [sC]
  show ax (aI P w) A (ko (.ref a) (λ_=>(vs.toArray.zip vs.toArray).map (·.2)) >>= _) R E _;rw[e];refine a_ (i4 f rfl ?_ (B6 _) (by rw[p_,d_,m_];omega));simp only[bne_self_eq_false,H_,Y_];refine h_ (h (ae vs.length) ⟨.refl _,λi j U N=>?_⟩);obtain rfl:i=j:=by omega
  exact Kb _
 rw[y9 g,y9 g];rw[p_] at g;refine a_ (Cn (M yT _ λb o K e=>e_ _ (e_ _ ((HZ _ _ _ _ K).trans e))) (λu s' L=>?_) λ_ _ x=>x.elim);obtain⟨rfl,J⟩:=L;have H:=Ld (O:=O) (key:=key) (n:=vs.length) yT;refine a_ (Cn (kat_run (G:=λp s'=>(Pm vs.length p/\Up O key p vs.length)/\s'={ s with heap:=((s.heap.update a (ce λ_=>(#[]:Array av))).push (cE "tuple" vs.toArray 0)).push (cE "list" #[] 0)}) (Q:=λd s'=>∃p:Array Nat,arrOf d=p.map (kas_item (vs.toArray.zip vs.toArray))/\failedOf d=af/\(Pm vs.length p/\Up O key p vs.length)/\s'={ s with heap:=((s.heap.update a (ce λ_=>(#[]:Array av))).push (cE "tuple" vs.toArray 0)).push (cE "list" #[] 0)}) rfl yT r (λB d s' S D z y=>⟨B,D,z,y.1,y.2⟩) (H.wp J λp l=>⟨l,rfl⟩)) ?_ λ_ _ e=>e);rintro⟨⟨⟩,d⟩ s' ⟨p,t,F,⟨l,I⟩,rfl⟩;dsimp only;rw[kat_snds rfl t];refine a_ (sj f rfl ?_);refine a_ (i4 f rfl ?_ (B6 _) (by rw[p_,d_,l.pm.length_eq,m_];omega));rw[F];simp only[bne_self_eq_false,H_,Y_];exact h_ (h _ (.of l I))
end
open L2 PySem.W M
theorem rJ (r:KV kvs vs):∀(us:List av),us.length=vs.length->(∀(j:Nat) (v:av),us[j]?=ab v->∃k x,vs[j]?=ab (k,x)/\(bA P w).is k v=ag)->y7 (kvs.map λq=>kV q.1) us:=by
 induction r with
 |nil=>intro us h _;rw[MZ h];exact .nil
 |cons l n g =>
 intro us f a;cases us with
 |nil=>cases f
 |cons u us =>
 refine .cons ?_ (g us (Nat.succ.inj f) λj v e=>a (j+1) v e);obtain⟨k,x,e,m⟩:=a 0 u rfl;cases e;obtain⟨d,_⟩:=l;dsimp only at d |-;rw[d];rcases bV m with ⟨i,t,b,c⟩ | ⟨y,t,b,c⟩
 .rw[b,c];exact⟨t,rfl⟩
 rw[b,c];exact⟨t,rfl⟩
theorem CK {K:a3} (r:CC K H kvs vs):jj K H (kvs.map λq=>yy q.1) (vs.map λq=>kV q.1):=by
 induction r with
 |nil=>exact .nil
 |cons h _ a =>
 refine .cons ?_ a;dsimp only;rw[h.1];exact .ofStr
theorem Aa:FX h (kw (h.push (cE "list" vs.toArray 0)) h.objs.size vs out)/\∃c,(kw (h.push (cE "list" vs.toArray 0)) h.objs.size vs out).get? h.objs.size=ab (cE "list" out c):=by
 have a:(h.push (cE "list" vs.toArray 0)).get? h.objs.size=ab (cE "list" vs.toArray 0):=t_ _ rfl;refine⟨λb o e=>?_,?_⟩
 .have d:b<h.objs.size:=C_ e;unfold kw;rw[HZ _ _ _ _ (P_ d)];refine e_ _ (e_ _ ?_);rw[HZ _ _ _ _ (P_ d)];exact e_ _ e
 unfold kw;exact⟨_,kQ (e_ _ (e_ _ (kQ a λ_=>#[]))) λ_=>out⟩
section
variable {O:l9}
theorem Le (k:∀A' E',A'.handled=A.handled->ax (aI P w) A' (ky x) (λvs s1=>vs.length<64 /\
   (2<=vs.length->∀h',FX s1.heap h'->ax (aI P w) A.in1.in1 (xL vs.toArray) (λκ s'=>s'={ s1 with heap:=h'}/\∀i j (C:Bool->aE->Prop),i<vs.length->j<vs.length->C (O.blt (key i) (key j)) { s1 with heap:=h'}->sR P w A.in1.in1 κ vs i j C { s1 with heap:=h'}) (λ_ _=>False) { s1 with heap:=h'}) /\
   ∀a h' c,NF O key vs.length a->FX s1.heap h'->h'.get? s1.heap.objs.size=ab (cE "list" (a.map λi=>vs.getD i bg).toArray c)->Q (.ref s1.heap.objs.size) { s1 with heap:=h'}) E' s):ax (aI P w) A (jS (.builtin "sorted") [x]) Q E s:=by
 refine ic kind_sorted plain_sorted entry_sorted (args_sorted1 _) ?_;unfold cn.«sorted»;refine a_ (m:=checkCount "sorted" 1 1 _) (h_ ?_);refine a_ (Cn (k _ _ rfl) (λvs s1 l=>?_) λ_ _ e=>e);obtain⟨g,r,h⟩:=l;refine a_ (OK ?_ (by rw[Ll];omega));have d:(s1.heap.push (cE "list" vs.toArray 0)).get? s1.heap.objs.size=ab (cE "list" vs.toArray 0):=t_ _ rfl;refine a_ (DF (DS tI ⟨_,d,rfl⟩ sA (o5 (O:=O) (key:=key) d g (λp h' f=>r p h' λb o e=>f b o ?_ ?_) λa n=>⟨_,rfl,?_⟩) (vT _)))
 .exact P_ (C_ e)
 .exact e_ _ e
 obtain⟨f,c,q⟩:=Aa (h:=s1.heap) (vs:=vs) (out:=(a.map λi=>vs.getD i bg).toArray);exact h_ ⟨_,rfl,h a _ c n f q⟩
theorem mC {T:String} (K:KdlSrc P w T r d n u z) (D:A.handled=af) (p:z s.heap) (C:n<=ai) (h:∀h' tk a,FX s.heap h'->s.heap.objs.size<h'.objs.size->gy u a n->Q a.toList { s with heap:=h',toks:=tk}):ax (aI P w) A (ky (.ref r)) Q E s:=by
 have k:=K.there _ p;unfold ky;refine a_ (gI (Fn ly ?_));refine a_ (m:=sQ []) (OK (h_ ⟨hY _ Ap,Fn ro ?_⟩))
 let st:aE:={ s with heap:=s.heap.push (cE "list" #[] 0)}
 let G:yb->aE->Prop:=λq t=>∃h' tk a c,q=.ok (.ret (.ref s.heap.objs.size))/\t={ s with heap:=h',toks:=tk}/\FX s.heap h'/\h'.get? s.heap.objs.size=ab (cE "list" a c)/\gy u a n
 have key:=kdl_extend (A:=A) (s:=st) (R:=G) K D (K.keep _ _ p λb _ o e=>e_ _ e) s.heap.objs.size (EN k.1) (EN k.2) (.ref s.heap.objs.size) 0 (t_ _ rfl) (λh' tk a c F i g=>⟨h',tk,a,c,rfl,rfl,λb o e=>F b o (P_ (C_ e)) (e_ _ e),i,g⟩) C;have j:∀q t,G q t->∃h' tk a c,q=.ok (.ret (.ref s.heap.objs.size))/\h'.get? s.heap.objs.size=ab (cE "list" a c)/\t={ s with heap:=h',toks:=tk}/\Q a.toList t:=by rintro q t ⟨h',tk,a,c,l,rfl,B,i,g⟩;exact⟨h',tk,a,c,l,i,rfl,h h' tk a B (C_ i) g⟩
 refine Cn (A:=A.in1) key (λf t x=>?_) λe t x=>?_
 .cases f with
  |done f=>obtain⟨h',tk,a,c,l,i,rfl,v⟩:=j _ _ x;cases l;exact a_ (m:=load s.heap.objs.size) (L1 i (h_ v))
  |again H =>
  refine⟨x.1,HG x.2 λq t y=>?_⟩;obtain⟨h',tk,a,c,rfl,i,rfl,v⟩:=j _ _ y;exact a_ (m:=load s.heap.objs.size) (L1 i (h_ v))
 obtain⟨_,_,_,_,l,_⟩:=j _ _ x;cases l
end
def MB (d:ah) (o:dP):It :=
 ⟨λi H=>∃kvs a,H d=ab (.frz o (.dK kvs))/\kvs[i]?=ab a,
  λi H v H'=>H'=H/\∃k x,v=kV k/\∀kvs,H d=ab (.frz o (.dK kvs))->kvs[i]?=ab (k,x),
  λi H=>∃kvs,H d=ab (.frz o (.dK kvs))/\kvs.length<=i⟩
theorem CN {K:a3} (d it:ah) (o:dP) (R:Array ki) (ep:Nat) (Q:o.data=.dict R ep):
  Ch P w K W (MB d o) [it] it (λi h=>h.IsKeyIter it d i R.size ep) where
 mem:=n_
 obj:=λi h st c r=>by
  obtain⟨A,he,_,L⟩:=st
  rw[i_.mp r]
  exact⟨_,he,λv z=>by rw[L] at z;cases z⟩
 keep:=λi h h' st k=>st.at λA e=>k it ze A e
 item:=by
  intro X y M C r i f s Z H E I n st J
  subst y M C
  obtain⟨kvs,⟨k,x⟩,p,N⟩:=J
  obtain⟨vs,g,B,a⟩:=tU I p Q
  obtain⟨⟨k',u⟩,T,S,ru⟩:∃q,vs[i]?=ab q/\k=q.1/\zh x q.2:=fV g N
  subst S
  obtain⟨F,D,f2,O,t,G⟩:=n it ze
  rw[<- a] at st
  refine wpAny_pyNext_dict_item st B T λkey h' hk j V=>?_
  have U:y4 X f Z H { s with heap:=h'}:=I.turned (t':=s.toks) (λb o l e=>(V.2 b l).trans e) F D O t G
  obtain⟨A,e,c,dt⟩:=id j
  refine⟨key,rfl,uL (s:={ s with heap:=h'}) e c dt y6 ⟨kV k,H,U,O8 hk,⟨rfl,k,x,rfl,λzs m=>by rw[p] at m;cases m;exact N⟩,?_,λb l=>(n b l).1⟩⟩
  rw[<- a]
  exact j
 done:=by
  intro X y M C r i f s Z H E I n st J
  subst y M C
  obtain⟨kvs,p,N⟩:=J
  obtain⟨vs,g,B,a⟩:=tU I p Q
  obtain⟨F,D,f2,O,t,G⟩:=n it ze
  have hl:=g.length
  rw[<- a] at st
  exact wpAny_pyNext_dict_end (I.ok.hd r) st B (G_ yT) λh' Y=>⟨rfl,I.turned (t':=s.toks) (λb o l e=>Y b o l e) F D O t G⟩
 self:=λ_ _ _ _ _ st h=>wpAny_pyIter_keyiter st h
section
variable {K:a3}
theorem xr.frzS (s:xr K H3 H) (g:H a=ab (.dK c)) (r:CC K H kvs c):xr K (eH H3 a (.dsf o kvs)) (zw H a (.frz o (.dK c))):=λb u e=>by
 have f:R7 K H (zw H a (.frz o (.dK c))):=bC (by rw[g];exact trivial);by_cases d:b=a
 .subst d;rw[aC] at e;cases e;exact⟨c,bR,r.mono f⟩
 rw[aD d] at e;exact (s b u e).stay f λu q=>by rw[aY d];exact q
def VY (te:TE):TI:=λZ H R=>te Z H λx b=>∃a kvs,x=.ref a/\((b a=ab (.dK kvs)/\∀o,R (MB a o) (zw b a (.frz o (.dK kvs))))\/∃o,b a=ab (.frz o (.dK kvs))/\R (MB a o) b)
theorem Uh (G:PE X e te):PI X tg e (VY te):=by
 intro f s Z H R I h;refine z3 (G f s Z H _ I h) λv p ⟨x,y,t,D,a,kvs,A,q⟩=>?_;subst A;cases D;obtain⟨o,m,g,i,K⟩:∃o m,y4 X f Z m p/\m a=ab (.frz o (.dK kvs))/\R (MB a o) m:=by
  rcases q with ⟨i,q⟩ | ⟨o,i,q⟩
  .obtain⟨o,_,g⟩:=y4.freeze t i;exact⟨o,_,g,bR,q o⟩
  exact⟨o,y,t,i,q⟩
 have u:p.heap.get? a=ab o:=(g.hok a _ i).1;obtain⟨z,j,vs,C,J⟩:=jM g.hok (.inr ⟨o,i⟩);obtain⟨M,n,ep,k,F,l,L,r,B⟩:=id J;rw[u] at k;cases k;have hsz:n.size=vs.length:=by rw[<- r.length];simp
 refine wpAny_pyIter_dict (knd:=bA X.prog X.w) (d:=a) (kvs:=vs) (ep:=ep) j ⟨o,n,u,F,l,L,r,B⟩ ?_;refine⟨_,[_],_,MB a o,_,rfl,g.kept (t':=p.toks) λb o q=>e_ _ q,CN a _ o n ep l,?_,λc E=>?_,K⟩
 .rw[hsz];exact⟨_,t_ _ rfl,rfl,rfl⟩
 rw[i_.mp E];exact g.fpOk (l_ _) (g.hok.fresh (l_ _))
end
def IZ (a:ap × T):T:=.str a.1
def lE (a:ah) (o:dP) (kvs:List (ap × T)):gV->Prop:=λH=>H a=ab (.dsf o kvs)
def P1 (u:Option O3) (a:ah) (H:gV) (R:List T->(gV->Prop)->gV->Prop):Prop:=match u with
 |some (.dct kvs)=>∀o,R (kvs.map IZ) (lE a o kvs) (eH H a (.dsf o kvs))
 |some (.dsf o kvs)=>R (kvs.map IZ) (lE a o kvs) H
 |_=>False
def Q2 (x:T) (H:gV) (R:List T->(gV->Prop)->gV->Prop):Prop:=match x with
 |.ref a=>P1 (H a) a H R
 |_=>False
def X7 (te:zS):EJ:=λZ H R=>te Z H λx a=>Q2 x a R
theorem X8 (te:zS):X7 te Z H R=te Z H λx a=>Q2 x a R:=rfl
theorem Pz (a:ah):Q2 (.ref a) H R=P1 (H a) a H R:=rfl
theorem PB (kvs:List (ap × T)) (a:ah):P1 (ab (.dct kvs)) a H R=∀o,R (kvs.map IZ) (lE a o kvs) (eH H a (.dsf o kvs)):=rfl
theorem PJ (o:dP) (kvs:List (ap × T)) (a:ah):P1 (ab (.dsf o kvs)) a H R=R (kvs.map IZ) (lE a o kvs) H:=rfl
theorem Ab {K:a3}{H:Hp}:jt K (MB a o) (kvs.map IZ) (lE a o kvs) H:=λH' h u f st=>by
 obtain⟨vs,b,r⟩:=f a _ st;have n:=FK r;refine⟨λi k=>⟨vs,b,by rw[d_] at k;omega⟩,λi t e=>?_⟩;rw[u_] at e;cases q:kvs[i]? with
 |none=>rw[q] at e;cases e
 |some w =>
 rw[q] at e;cases e;obtain⟨⟨m,v⟩,d,c,g⟩:=fV r q;simp only at c g;subst c;refine⟨⟨vs,_,b,d⟩,λz j y=>?_⟩;obtain⟨rfl,p,s,rfl,l⟩:=y;have:=(l vs b).symm.trans d;cases this;exact⟨.refl,f,.ofStr⟩
theorem Yb (m:Z7 X e te):Fu X tg e (X7 te):=by
 refine PI.imp (Uh m) ?_;rintro Z H R ⟨p,H3,R3,j,n,h,k⟩;refine⟨p,H3,_,j,n,h,λv H' t f i b r q=>?_⟩;cases t with
 |ref a =>
  rw[Pz] at q;cases d:f a with
  |none=>rw[d] at q;exact q.elim
  |some l =>
  rw[d] at q;cases l with
  |dct kvs=>rw[PB] at q;obtain⟨vs,c,g⟩:=b a _ d;exact⟨a,vs,r.ref,.inl ⟨c,λo=>k _ _ _ _ _ (i.trans (bC (by rw[c];exact trivial))) (b.frzS c g) Ab (q o)⟩⟩
  |dsf o kvs=>rw[PJ] at q;obtain⟨vs,c,g⟩:=b a _ d;exact⟨a,vs,r.ref,.inr ⟨o,c,k _ _ _ _ _ i b Ab q⟩⟩
  |_=>exact q.elim
 |_=>exact q.elim
def P6 (o:Option O3) (k:ap) (H:gV) (Q:Z1):Prop:=match o with
 |some (.dsf _ kvs)=>oq (aP k kvs) λt=>Q t H
 |_=>False
def Yc:R3:=λx y H Q=>match x,y with
 |.ref a,.str k=>P6 (H a) k H Q
 |_,_=>False
theorem aaq (a:ah) (k:ap):Yc (.ref a) (.str k) H Q=P6 (H a) k H Q:=rfl
theorem PK (o:dP) (kvs:List (ap × T)) (k:ap):P6 (ab (.dsf o kvs)) k H Q=oq (aP k kvs) λt=>Q t H:=rfl
theorem Hh (C:X.A.units+1<db) (L:Z7 X o u) (F:Z7 X i q) (O:Ec i:=by exact λ_ _=>rfl):Z7 X (.Subscript o i f) (sY Yc u q):=by
 refine PE.imp (sU C L F O) ?_;rintro Z H Q ⟨s,H3,G,p,K,h,k⟩;refine⟨s,H3,_,p,K,h,λx P D l c m w E=>⟨s,l,_,p.mono c,m,E,λy S J b g d N n=>?_⟩⟩;cases D with
 |ref a =>
  cases J with
  |str key =>
   have h':P6 (b a) key b G:=n
   cases e:b a with
   |none=>rw[e] at h';exact h'.elim
   |some B =>
    rw[e] at h'
    cases B with
    |dsf R kvs =>
     rw[PK] at h'
     obtain⟨vs,I,r⟩:=d a _ e
     cases j:aP key kvs with
     |none=>rw[j] at h';exact h'.elim
     |some t =>
      rw[j] at h'
      obtain⟨v,z,M⟩:=oN r j
      refine⟨a,v,w.ref,?_,k.at (c.trans g) _ _ _ _ .refl d M h'⟩
      rw[N.str,<- z]
      exact .inl ⟨vs,ca key,.inr ⟨_,I⟩,rfl,rfl⟩
    |_=>exact h'.elim
  |_=>exact n.elim
 |_=>exact n.elim
theorem o6 (K:KdlSrc P w "dict" r d n j l) (p:A.handled=af) (c:l s.heap) (k:n<=ai) (h:∀h' tk a,FX s.heap h'->gy j a n->Q₁ (.ref h'.objs.size) { s with heap:=h'.push { cls:=.type "tuple",data:=.seq a},toks:=tk}):
  dy (aI P w) A (.call (.builtin "tuple.__new__") ⟨[.type "tuple",.ref r],[]⟩) (wants Q₁ E) s:=by
 refine kR ?_;show ax _ A.in1 (do rq "tuple.__new__" ⟨[.type "tuple",.ref r],[]⟩;again (.builtin "tuple.__new__" ⟨[.type "tuple",.ref r],[]⟩)) _ _ s;refine a_ (EZ (qo _) (h_ ⟨F0 qh _,Fn qq ?_⟩));rw[I0 qh _];have m:=tF;have g:=oQ;have q:=t0;have i:=K.type s c;have f:A.in1.handled=af:=p
 wp_walk using GA i,mC (A:=A.in1) K f c k
 intro h' tk a o _ b;show ax _ _ (a6 a.toList.toArray >>= λv=>yn v) _ _ _;unfold a6;refine a_ (B9 ?_ (by show a.toList.toArray.size<=ai;simp only[mh];rw[b.1];exact k));refine h_ ?_;have e:a.toList.toArray=a:=ze
 rw[e];exact h h' tk a o b
theorem vK (O:Pr k X.A):Cf X (.type "tuple") (λxs H Q=>∃a kvs,xs=[V.ref a]/\Rd H a (.dK kvs)/\∀l,H l=af->Q (.ref l) (zw H l (.tup (kvs.map λq=>kV q.1)))):=by
 intro d s Z H xs us Q I r h;obtain⟨a,kvs,rfl,W,q⟩:=h;obtain⟨u,rfl,C⟩:=AQ r;cases C;obtain⟨z,y,vs,m,U⟩:=jM I.hok W;obtain⟨o,T,ep,p,K,G,M,D,L⟩:=U;have Y:=m.length;refine lP (Q₁:=λf c=>c.TypeIs f "tuple"/\∃x H',y4 X d Z H' c/\zh x f/\Q x H') wP (oa _) F.entry_object_init
  (o6 (kdl_dict (knd:=bA X.prog X.w) (kvs:=vs) (ep:=ep) y) ?_ ⟨o,T,p,K,G,M,D,L⟩ yT λh' tk g N i=>⟨⟨_,t_ _ rfl,rfl⟩,?_⟩) λf c n=>?_
 .exact O.hd
 .have S:=rJ (P:=X.prog) (w:=X.w) m g.toList (by rw[C3];exact i.1) λj v e=>i.2 j v (by rw[<- Go];exact e);have t:y4 X d Z H { s with heap:=h',toks:=tk}:=I.kept (t':=tk) N;have E:y4 X d Z (zw H h'.objs.size (.tup (kvs.map λq=>kV q.1))) { s with heap:=h'.push { cls:=.type "tuple",data:=.seq g},toks:=tk} :=
   t.laid (t':=tk) (λb o e=>e_ _ e) (l_ _) (show Bz X.prog X.w _ _ _ (.tup _) from ⟨by rw[d_];exact z,g.toList,S,by simpa using EO.new h' g⟩)
  exact⟨.ref h'.objs.size,_,E,rfl,q _ (t.hok.fresh (l_ _))⟩
 obtain⟨p,x,H',R,B,J⟩:=n;exact⟨p,QE f _,object_init_meets F.called_tuple.init.lookup F.called_tuple.made y6 _ _ _ _ c ⟨p,rfl,⟨x,H',R,B,J⟩⟩⟩
def Ps (o:Option O3) (H:gV) (Q:Z1):Prop:=match o with
 |some (.dsf _ kvs)=>Q (.tup (kvs.map IZ)) H
 |_=>False
def Hi:List T->gV->Z1->Prop:=λts H Q=>match ts with
 |[.ref a]=>Ps (H a) H Q
 |_=>False
theorem Ui (a:ah) (H:gV) (Q:Z1):Hi [.ref a] H Q=Ps (H a) H Q:=rfl
theorem PL (o:dP) (kvs:List (ap × T)) (H:gV) (Q:Z1):Ps (ab (.dsf o kvs)) H Q=Q (.tup (kvs.map IZ)) H:=rfl
theorem Lf (f:Pr k X.A):dO X (.type "tuple") Hi:=by
 refine Cf.imp (vK f) ?_;rintro xs H Q ⟨ts,H3,j,r,c,h,k⟩
 match ts,h,r with
 |[.ref a],h,r =>
 obtain⟨v,rfl,d⟩:=r.one';have h':Ps (H3 a) H3 j:=h;cases e:H3 a with
 |none=>rw[e] at h';exact h'.elim
 |some m =>
 rw[e] at h';cases m with
 |dsf o kvs=>rw[PL] at h';obtain⟨vs,i,g⟩:=c a _ e;exact⟨a,vs,by rw[d.ref],.inr ⟨o,i⟩,λl b=>k _ _ _ _ (aO b) (c.new b) (xr.newTup (H3:=H3) b (CK g)) h'⟩
 |_=>exact h'.elim
def E4 (b:Bool) (t:pu):Prop:=t.led=!b/\t.dummies=#[]/\t.place.toList.Pairwise (·<·)
theorem yr {xs:Array Nat} (h:xs.toList.Pairwise (·<·)) (a:i<=k) (b:k<xs.size):xs.getD i j<=xs.getD k j:=by
 have c:i<xs.size:=nN a b;rcases Nat.lt_or_eq_of_le a with e | rfl
 .have:=L0.mp h i k (by simpa using c) (by simpa using b) e;simp only[KG,O_ c,O_ b,rV];simp only[Q1] at this;omega
 exact l_ _
theorem Hj (h:xs.toList.Pairwise (·<·)):∀(f b a:Nat),b<=a->a<=xs.size->a - b<=f->(∀i,i<b->xs.getD i j<j)->(∀i,a<=i->i<xs.size->j<=xs.getD i j) ->
  eT xs j f b a<=xs.size/\(∀i,i<eT xs j f b a->xs.getD i j<j)/\∀i,eT xs j f b a<=i->i<xs.size->j<=xs.getD i j
 |0,b,a,h1,h2,h3,h4,h5=>by
  obtain rfl:b=a:=by omega
  exact⟨h2,h4,h5⟩
 |f+1,b,a,h1,h2,h3,h4,h5=>by
  unfold eT
  by_cases c:b<a
  ·
   rw[zi c]
   dsimp only
   by_cases d:xs.getD ((b+a) / 2) j<j
   ·
    rw[zi d]
    exact Hj h f _ _ yT h2 yT (λi e=>nN (yr h (k:=(b+a) / 2) yT yT) d) h5
   ·
    rw[y9 d]
    exact Hj h f _ _ yT yT yT h4 λi l g=>U_ (IS.mp d) (yr h l g)
  ·
   rw[y9 c]
   obtain rfl:b=a:=by omega
   exact⟨h2,h4,h5⟩
theorem tX (h:xs.toList.Pairwise (·<·)):bS xs j<=xs.size/\(∀i,i<bS xs j->xs.getD i j<j)/\∀i,bS xs j<=i->i<xs.size->j<=xs.getD i j :=
 Hj h _ _ _ (B6 _) (l_ _) yT (λi b=>As b (NH _)) λi c a=>As a yT
theorem Lg (h:xs.toList.Pairwise (·<·)) (a:i<xs.size):bS xs (xs[i]+1)=i+1:=by
 obtain⟨l,d,g⟩:=tX (j:=xs[i]+1) h;have e:∀k (b:k<xs.size),xs.getD k (xs[i]+1)=xs[k]:=λk b=>by rw[KG,O_ b];rfl
 rcases iF (bS xs (xs[i]+1)) (i+1) with c | c | c
 .have:=g i yT a;rw[e i a] at this;omega
 .exact c
 have f:=d (i+1) c;rw[e (i+1) yT] at f;have:=L0.mp h i (i+1) (by simpa using a) (by simp;omega) (IL _);simp only[Q1] at this;omega
theorem Lh (h:xs.toList.Pairwise (·<·)):bS xs 0=0:=by
 obtain⟨_,a,_⟩:=tX (j:=0) h;rcases nS (bS xs 0) with c | c
 .exact c
 exact As (a 0 c) (NH _)
theorem Li (h:xs.toList.Pairwise (·<·)) (n:xs[bS xs j]?≠ab j):(SetTable.insertAt xs (bS xs j) j).toList.Pairwise (·<·):=by
 obtain⟨v,q,l⟩:=tX (j:=j) h;generalize bS xs j=p at *;have e:∀k (m:k<xs.size),xs.getD k j=xs[k]:=λk m=>by rw[KG,O_ m];rfl
 have g:∀b∈xs.toList.drop p,j<b:=λb c=>by obtain⟨i,f,rfl⟩:=L9 c;rw[KM,C3] at f;rw[List.getElem_drop,Q1];have s:=l (p+i) yT yT;rw[e _ yT] at s;have t:=l p (l_ _) yT;rw[e _ yT] at t;have u:xs[p]' yT≠j:=λz=>n (by rw[O_ yT,z]);have o:=yr (j:=j) h (i:=p) (k:=p+i) yT yT;rw[e _ yT,e _ yT] at o;omega
 rw[SetTable.toList_insertAt,List.pairwise_append];refine⟨h.sublist (pS _ _),List.pairwise_cons.mpr ⟨g,h.sublist (List.drop_sublist _ _)⟩,λa r b c=>?_⟩;have d:a<j:=by
  obtain⟨i,f,rfl⟩:=L9 r;rw[FG,C3] at f;rw[pT,Q1];have:=q i yT
  rwa [e _ yT] at this
 rcases o_.mp c with rfl | c
 .exact d
 exact FE d (g b c)
theorem Yd (j:Nat):pi #[] j=am:=by unfold pi;rfl
theorem vL {t:pu} (a:t.dummies=#[]):t.slot j≠.dummy/\(t.slot j=.empty->t.place[bS t.place j]?≠ab j):=by
 unfold SetTable.slot;dsimp only;rw[a,Yd];cases c:t.place[bS t.place j]?==ab j
 .refine⟨ze,λ_ z=>?_⟩;rw[z] at c;simp at c
 simp
theorem rK (a:t.dummies=#[]):∀(f:Nat) (p:SetTable.Probe),p.dummy=af->∀j d,SetTable.probe.go t (λ_=>h+1) h f p=ab (.empty j d)->t.slot j=.empty/\d=af
 |0,_,_,_,_,e=>by cases e
 |f+1,p,hp,j,d,e=>by
  unfold SetTable.probe.go at e
  cases c:t.slot p.j with
  |empty =>
   rw[c] at e
   cases e
   exact⟨c,hp⟩
  |dummy=>exact As c (vL a).1
  |live i =>
   rw[c] at e
   dsimp only at e
   rw[y9 (by simp only[Gc];omega)] at e
   refine rK a f _ ?_ j d e
   unfold SetTable.advance
   split
   ·
    exact hp
   ·
    exact hp
theorem Hk {t:pu} (c:t.dummies=#[]) (e:t.freeSlot h=ab (j,b)):t.slot j=.empty:=by
 unfold SetTable.freeSlot at e;split at e
 .rename_i g d f;obtain⟨a,rfl⟩:=rK c _ _ rfl _ _ f;cases e;exact a
 cases e
theorem E4.stand (h:E4 b t) (n:Nat):E4 b (t.standIn n):=⟨h.1,rfl,by
 show (Array.range n).toList.Pairwise (·<·)
 rw[Array.toList_range]
 exact e5⟩
theorem E4.or (h:E4 b t) (n:Nat):E4 b (t.orStandIn n):=by
 unfold SetTable.orStandIn;split
 .exact h
 exact h.stand n
theorem E4.new (a:E4 b t) (c:Array (Int × av)) (h:Int) (x:av):E4 b (layNew t c h x).2.1:=by
 unfold layNew;split
 .rename_i j d e;have f:E4 b (t.put j).1:=by refine⟨a.1,?_,Li a.2.2 ((vL a.2.1).2 (Hk a.2.1 e))⟩;show (if pi t.dummies j then _ else t.dummies)=#[];rw[a.2.1,Yd];rfl
  exact f.or _
 exact a.stand _
theorem E4.relay (g:E4 b t) (i:Array (Int × av)) (n:Nat):E4 b (lh t i n).2.1:=by
 unfold lh;split
 .rename_i t' q e;dsimp only;split
  .unfold SetTable.relaid SetTable.laid at e;cases c:SetTable.layClean (SetTable.sizeAbove n - 1) (i.map (·.1)) with
   |none=>rw[c] at e;cases e
   |some owner =>
   rw [c] at e;cases e;refine ⟨g.1,rfl,?_⟩;dsimp only;rw [Nd];refine List.Pairwise.filterMap _ (R:=(· < ·)) (λa l k y f o d => ?_) e5;cases h : owner.getD a af with
   |none=>rw[h] at f;cases f
   |some z =>
   cases j:owner.getD l af with
   |none=>rw[j] at d;cases d
   |some m =>
   rw[h] at f;rw[j] at d;cases f;cases d;exact k
  exact g.stand _
 exact g.stand _
def HE:av->Int
 |.int n _=>n
 |_=>0
def EX (a:List (Int × av)):List Int:=a.map λe=>HE e.2
def SI (prog:bX) (w:bP) (h:cK) (a:ah) (c:List Int):Prop:=∃o b ep t,h.get? a=ab o/\o.ExactSet/\o.data=.set b ep t/\ElemsOf (d5 prog w) b.toList/\(EX b.toList).Nodup/\(∀k,k∈EX b.toList↔k∈c)/\b.size<=c.length/\t.fits b.size=ag/\E4 (w.params.followText "set-order") t
theorem SI.at' (x:SI prog w h a b) (k:∀o,h.get? a=ab o->h'.get? a=ab o):SI prog w h' a b:=by
 obtain⟨o,d,ep,t,c,r⟩:=x;exact⟨o,d,ep,t,k _ c,r⟩
theorem vM {h:cK} (c:h.get? a=ab o) (b:o.data=.set d ep t):(h.update a (wm es' t')).get? a=ab { o with data:=.set es' (ep+1) t'}:=by
 have:=F9 (wm es' t') c (by rw[putSet_of es' t' b];rfl);rw[putSet_of es' t' b] at this;exact this
theorem add_int (hS:SI prog w s.heap a p) (room:p.length+1<ee) (h:∀v h',dA a s.heap h'->SI prog w h' a (p++[k])->Q v { s with heap:=h'}):ax (aI prog w) A (setAddHashed a (.int k tk) ((d5 prog w).hash k)) Q E s:=by
 obtain⟨o,f,ep,t,J,B,F,i,nd,P,hl,O,tb⟩:=hS;have n:(d5 prog w).is k (.int k tk)=ag:=nk _ _ _ _;have hb:f.size<ee:=yT
 have H:∀e∈f.toList,∀l,(d5 prog w).is l e.2=ag↔HE e.2=l:=λe M l=>by
  obtain⟨⟨k2,h2,_⟩,_⟩:=i e M;obtain⟨t2,e2⟩:=ip h2;rw[e2];constructor
  .intro z;exact (d5 prog w).inj _ _ _ (nk _ _ _ _) z
  rintro rfl;exact nk _ _ _ _
 unfold setAddHashed tN;refine DF (a_ (NR J F O ?_));dsimp only;rw[byScan_of (knd:=d5 prog w) rfl hb i];simp only[↓reduceIte];unfold setAddByScan;refine a_ (a_ (KL (a_ (wpAny_setScan_of n J F O i ?_))));cases hr:List.findIdx? (λe=>(d5 prog w).is k e.2) f.toList with
 |some j=>dsimp only;obtain⟨hj,pj,_⟩:=List.findIdx?_eq_some_iff_getElem.mp hr;have e0:=(H _ (C6 hj) k).mp pj;have hk:k∈EX f.toList:=k_.mpr ⟨_,C6 hj,e0⟩;refine h_ (h_ (h _ s.heap (Heap.SameBut.refl a s.heap) ⟨o,f,ep,t,J,B,F,i,nd,λl=>?_,by rw[b_];omega,O,tb⟩));rw[P l,F_,i_];exact⟨.inl,λz=>z.elim id λe=>by rw[e];exact (P k).mp hk⟩
 |none =>
 dsimp only;have Y:k∉EX f.toList:=λz=>by obtain⟨e,M,hp⟩:=k_.mp z;have:=List.findIdx?_eq_none_iff.mp hr e M;rw[(H e M k).mpr hp] at this;cases this
 have gw:∀(b:Bool) {Z:aE} {T:Unit->aE->Prop},T () Z->ax (aI prog w) A (match b with | true=>rule "set.scan.the-table-gave-way" | false=>bE ()) T E Z:=λb Z T hq=>by
  cases b
  .exact h_ hq
  exact KL hq
 have G:=layNew_perm t f ((d5 prog w).hash k) (.int k tk);have W:=layNew_fits t f ((d5 prog w).hash k) (.int k tk);have m:=tb.new f ((d5 prog w).hash k) (.int k tk);generalize layNew t f ((d5 prog w).hash k) (.int k tk)=L at G W m |-;obtain⟨c,g,wd,gv⟩:=L;dsimp only at G W m |-;rw[qE] at G;have V:c.size=f.size+1:=by rw[<- C3,G.length_eq,b_,C3];rfl
 have u:∀d:Array (Int × av),d.toList.Perm c.toList->ElemsOf (d5 prog w) d.toList/\(EX d.toList).Nodup/\(∀l,l∈EX d.toList↔l∈p++[k])/\d.size=f.size+1:=λd D=>by
  have p3:=D.trans G;have p4:=p3.map λe=>HE e.2;have p5:(EX d.toList).Perm (EX f.toList++[k]):=by unfold EX;rw[v_] at p4;exact p4
  refine⟨(i.push n rfl).perm p3,p5.nodup_iff.mpr ?_,λl=>?_,?_⟩
  .rw[L8];refine⟨nd,ze,λx hx y hy z=>?_⟩;rw[i_.mp hy] at z;exact Y (z▸hx)
  .rw[p5.mem_iff,F_,F_,P l]
  rw[<- C3,D.length_eq,C3,V]
 have lk:(p++[k]).length=p.length+1:=by rw[b_];rfl
 refine a_ (gw _ ?_);have q:ax (aI prog w) A (do
   storeSet a c g
   if (!wd&&g.tooFull)=ag then do
     (match (lh g c (dQ c.size)).2.2 with | true=>rule "set.scan.the-table-gave-way" | false=>bE ())
     storeSet a (lh g c (dQ c.size)).1 (lh g c (dQ c.size)).2.1
     bE (ab ag)
    else bE (ab ag)) (λr s'=>∃h',r=ab ag/\s'={ s with heap:=h'}/\dA a s.heap h'/\SI prog w h' a (p++[k])) E s:=by
  refine a_ (oi J F ?_ (oS yT))
  have N:=vM (es':=c) (t':=g) J F
  have K:=NN s.heap a (wm c g)
  split
  ·
   have D:=relayAll_perm g c (dQ c.size)
   have U:=relayAll_fits g c (dQ c.size)
   have C:=m.relay c (dQ c.size)
   generalize lh g c (dQ c.size)=R at D U C |-
   obtain⟨d,t2,g2⟩:=R
   dsimp only at D U C |-
   obtain⟨S,q2,X,q4⟩:=u d D
   refine a_ (gw _ (a_ (oi N rfl ?_ (oS yT))))
   exact h_ ⟨_,rfl,rfl,K.trans (NN _ a _),_,d,_,t2,vM N rfl,B,rfl,S,q2,X,yT,U,C⟩
  ·
   obtain⟨S,q2,X,q4⟩:=u c (.refl _)
   exact h_ ⟨_,rfl,rfl,K,_,c,_,g,N,B,rfl,S,q2,X,yT,W,m⟩
 have I:∀(r:Option Bool) (s':aE),(∃h',r=ab ag/\s'={ s with heap:=h'}/\dA a s.heap h'/\SI prog w h' a (p++[k]))->ax (aI prog w) A (match r with | some added=>bE added | none=>tN a (.int k tk) ((d5 prog w).hash k) 99999) Q E s':=by rintro r s' ⟨h',rfl,rfl,sb,hs⟩;exact h_ (h ag h' sb hs)
 split
 .refine a_ ?_;rw[hashByValue_scannable 8 (x:=.int k tk) rfl];refine h_ ?_;exact Cn q I λ_ _ e=>e
 refine a_ (h_ ?_);simp only[↓reduceIte];exact Cn q I λ_ _ e=>e
theorem Uj {St:Nat->cK->Prop} (W:Walks prog w A.in1 J L f n P St) (B:ah) (I:B∉L) (xs:List Int) (M:xs.length=n) (N:∀i v,P i v->∃x t,xs[i]?=ab x/\v=.int x t) (E:n+1<ee):
  ∀(k i:Nat) (s:aE),n - i=k->i<=n->St i s.heap->SI prog w s.heap B (xs.take i) ->
   (∀s',sv (B::f) (λa b=>b=a) s s'->SI prog w s'.heap B xs->R (.ok (.ret .none)) s') ->
   dy (aI prog w) A (.builtin "set.update.loop" ⟨[.ref B,.ref J],[]⟩) R s:=by
 have l:=W.toS;have K:B∉f:=λh=>I (l.sub _ h);have D:∀c∈f,c∈B::f:=λc m=>A_ _ m;intro k;induction k with
 |zero =>
  intro i s V O st p d;have S:i=n:=yT
  subst S;refine Fn eC ?_;rw[I0 S2 _];show ax _ A.in1 (eR (.ref J) >>= _) _ _ s;refine a_ (l.done s _ _ st λs' j=>?_);show ax _ A.in1 (yn bg) _ _ s';rw[<- M,fh] at p;exact h_ (d s' (j.mono D) (p.at' λo e=>j.heap B _ K e))
 |succ k T =>
 intro i s V O st p d;have H:i<n:=yT
 refine Fn eC ?_;rw[I0 S2 _];show ax _ A.in1 (eR (.ref J) >>= _) _ _ s;refine a_ (l.item i s _ _ H st λv s' pv r j=>?_);obtain⟨x,t,Q,rfl⟩:=N i v pv;have C:=p.at' λo e=>j.heap B _ K e;show ax _ A.in1 (eS [da x t] (setAdd B (.int x t)) >>= _) _ _ s';refine a_ (DF ?_);unfold setAdd;refine DF ?_;refine a_ ((d5 prog w).pyHash (k:=x) (nk _ _ _ _) ?_);have U:xs.take (i+1)=xs.take i++[x]:=by rw[List.take_add_one,Q];rfl
 refine add_int (s:={ s' with toks:=s'.toks+1}) C (by rw[FG];omega) λv h' G g=>?_;rw[<- U] at g;refine h_ ⟨F0 S2 _,T (i+1) _ yT H (l.frame _ s' _ _ r (ID _) λc m o e=>?_) g λq u y=>?_⟩
 .rw[G.2 c (λz:c=B=>I (by rw[<- z];exact m))];exact e
 refine d q (Moved.trans l.gtrans ((j.mono D).then_heap (ID _) λc o m e=>?_) u) y;rw[G.2 c (λz=>m (by rw[z];exact n_))];exact e
@[reducible] def o7 (w:bP):dP:={ cls:=.type "set",dict:=af,data:=.set #[] 0 (.fresh 0 0 (!w.params.followText "set-order"))}
section
variable {s:aE}
theorem Lj (b:h.get? a=ab (o7 w)):SI prog w h a []:=⟨_,_,_,_,b,⟨rfl,rfl,rfl⟩,rfl,λe c=>by simp at c,by simp [EX],λk=>by simp [EX],l_ _,rfl,rfl,rfl,iO⟩
theorem Hl (a:av) (h:Q₁ (.ref s.heap.objs.size) { s with heap:=s.heap.push (o7 w)}):dy (aI prog w) A (.call (.builtin "set.__new__") ⟨[.type "set",a],[]⟩) (wants Q₁ E) s:=by
 refine kR ?_;show ax _ A.in1 (rq "set.__new__" ⟨[.type "set",a],[]⟩ >>= λ_=>again (.builtin "set.__new__" ⟨[.type "set",a],[]⟩)) _ _ s;refine a_ (EZ (PySem.F.newCall_set_1 a) (h_ ⟨F0 sP _,Fn F.entry_set_new ?_⟩));rw[I0 sP _];unfold cn.«set.__new__» Builtin.Frozenset.newClass;have sub:=sub_set_self;obtain⟨b,g,d,tk,c⟩:=s;dsimp only
 wp_walk
 refine OC (h_ ?_);dsimp only;simp only[newObj];exact a_ (wpAny_alloc (h_ (h_ h)))
theorem CP (hh:A.handled=af) (P:s.heap.IsList l a) (hx:xs.length=a.size) (hv:∀(i:Nat) (v:av),a[i]?=ab v->∃x t,xs[i]?=ab x/\v=.int x t) (k:a.size+1<ee) (h:∀(h':cK) (tk:Nat),SI prog w h' s.heap.objs.size xs->(∀b o,b<s.heap.objs.size->s.heap.get? b=ab o->h'.get? b=ab o)->Q (.ref s.heap.objs.size) { s with heap:=h',toks:=tk}):
  ax (aI prog w) A (jS (.type "set") [.ref l]) Q E s:=by
 obtain⟨cc,tl,T⟩:=JO.mro;have y:=JO.made;have N:=JO.sub;refine s_ (kR ?_);show ax _ _ (callAny (.type "set") _) _ _ _;refine h_ ⟨hY _ Ap,Fn F.entry_type_call ?_⟩;rw[Around.under_plain (weight_type_call_type "set" [.ref l] []) rfl];have n1:=JO.notType;have n2:=JO.canCreate;have hct:=PySem.F.typeCall_set_1 (.ref l);repeat (any_goals (first | assumption | wp_step))
 refine HG (Hl (.ref l) (E:=E) (Q₁:=λg S=>g=.ref s.heap.objs.size/\S={ s with heap:=s.heap.push (o7 w)}) ⟨rfl,rfl⟩) λr S D=>?_;cases r with
 |error e=>exact D
 |ok U =>
 cases U with
 |ret g =>
  obtain⟨rfl,rfl⟩:=D;have O:(s.heap.push (o7 w)).get? s.heap.objs.size=ab (o7 w):=t_ _ rfl;have W:Shared.TypeIs { s with heap:=s.heap.push (o7 w)} (.ref s.heap.objs.size) "set":=⟨_,O,rfl⟩;have hli:=JO.init.lookup;have hbi:=JO.init.bind (.ref s.heap.objs.size);repeat (any_goals (first | assumption | wp_step))
  refine HG (codeAny_call_builtin (R:=wants (λr K=>r=.none/\∃h' tk,K={ s with heap:=h',toks:=tk}/\SI prog w h' s.heap.objs.size xs /\
    (∀b o,b<s.heap.objs.size->s.heap.get? b=ab o->h'.get? b=ab o)) E) JO.init.plain F.entry_set_init (check_set_init_1 W ?_)) λr2 K d=>?_
  .have j:(s.heap.push (o7 w)).IsList l a:=P.push _;obtain⟨ol,m,n,X,f⟩:=id P;obtain⟨oc,od,oda,B⟩:=ol;simp only at n f;subst n;subst f;have J:(s.heap.push (o7 w)).get? l=ab { cls:=.type "list",dict:=od,data:=.seq a X,slots:=B}:=e_ _ m;have t1:=PySem.F.sub_list_set;have t2:=PySem.F.sub_list_frozenset;have t3:(ci "list"==ci "dict")=am:=by decide
   unfold cn.«set.__init__» noKeywords Builtin.Frozenset.updateFrom;generalize q:ra=PI
   wp_walk
   subst q;refine P8 j ?_;refine a_ (gI ?_);have L:l<s.heap.objs.size:=C_ m;have u:A.in1.in1.in1.handled=af:=by simp [hh]
   have C:(s.heap.push (o7 w)).objs.size=s.heap.objs.size+1:=GB ..;have Z:l≠(s.heap.push (o7 w)).objs.size:=by rw[C];exact P_ (Kj L)
   have nB:s.heap.objs.size∉[(s.heap.push (o7 w)).objs.size,l]:=by
    rw[C];intro z;simp only[o_,B8,B7] at z;rcases z with z | z
    .exact As z (P_ (IL _))
    exact As z (EN L)
   refine Uj (Walks.list u _ l Z a) s.heap.objs.size nB xs hx hv k (a.size - 0) 0 _ yT (B6 _) ⟨⟨_,t_ _ rfl,rfl,rfl⟩,j.push _⟩ (Lj (e_ _ O)) ?_;intro s' p c;obtain⟨h',g',d',H,G⟩:=s';have Y:g'=s.gens:=p.gens;have V:d'=s.drawn:=p.drawn;have eo:G=s.os:=p.os;subst Y V eo;show ax _ _ _ _ _ _;refine h_ ?_;show ax _ _ (yn bg) _ _ _;refine h_ ⟨rfl,h',H,rfl,c,λb o M e=>p.heap b o ?_ (e_ _ (e_ _ e))⟩;intro z;simp only[o_,B8,B7] at z;rcases z with z | z
   .exact As z (P_ M)
   rw[C] at z;exact As z (P_ (Kj M))
  cases r2 with
  |error e=>exact d
  |ok I =>
  cases I with
  |ret r =>
   obtain⟨rfl,h',tk,rfl,c,kp⟩:=d;repeat (any_goals (first | assumption | wp_step))
   exact h _ _ c kp
  |_=>exact d.elim
 |_=>exact D.elim
end
theorem LJ:xo "set_iterator" "__next__" "set_iterator.__next__":=.of (owner:="set_iterator") (n:="__next__") (by rw[F6,F5];kernel_rfl) Ap Ap Ap
 (by first | exact .inr Ap | exact .inl Ap) (by rw[G1];kernel_rfl)
theorem Ac:xo "set_iterator" "__iter__" "set_iterator.__iter__":=.of (owner:="set_iterator") (n:="__iter__") (by rw[F6,F5];kernel_rfl) Ap Ap Ap
 (by first | exact .inr Ap | exact .inl Ap) (by rw[G1];kernel_rfl)
theorem Hm:Manifest.owners.lookup (xk ['r','o','t','a','r','e','t','i','_','t','e','s'].reverse)=ab Manifest.sig_set_iterator:=by kernel_rfl
theorem rM:gT tw "set_iterator.__next__"=ab cn.«set_iterator.__next__»:=fe AR
theorem rN (a:av):kz "set_iterator.__next__" ⟨[a],[]⟩:=by
 unfold kz;rw[No (id:="set_iterator.__next__") (n:=['_','_','t','x','e','n','_','_']) (o:=['r','o','t','a','r','e','t','i','_','t','e','s']) AR Hm];kernel_rfl
theorem CQ (a:av):kz "set_iterator.__iter__" ⟨[a],[]⟩:=by
 unfold kz;rw[No (id:="set_iterator.__iter__") (n:=['_','_','r','e','t','i','_','_']) (o:=['r','o','t','a','r','e','t','i','_','t','e','s']) AR Hm];kernel_rfl
theorem CT:gT tw "set_iterator.__iter__"=ab cn.«dict_keyiterator.__iter__» :=
 gS (id':="dict_keyiterator.__iter__") AR (by first | rfl | decide +kernel | (unfold lT;simp +decide [ix])) Ap AR
theorem yt:gT tw "set.__iter__"=ab cn.«frozenset.__iter__» :=
 gS (id':="frozenset.__iter__") AR (by first | rfl | decide +kernel | (unfold lT;simp +decide [ix])) Ap AR
@[reducible] def KB (w:bP):Bool:=w.params.followText "set-order"
@[reducible] def MA (a:Array (Int × av)) (t:pu):Bool:=!t.plain&&decide (a.size>1)
def LP (w:bP) (h:cK) (J a tp:ah) (vs:List av) (i:Nat) (b:Array (Int × av)) (ep:Nat) (t:pu) (first:av):Prop :=
 (∃c:Nat,first=.int c 0/\KB w=ag/\(rb (w.params.setOrder a ep) b).toList.map (·.2)=vs) \/
 (∃c:Nat,first=.int c 0/\KB w=am/\MA b t=am/\t.led=ag/\t.place.toList.Pairwise (·<·)/\bS t.place c=i/\b.toList.map (·.2)=vs) \/
 (∃pl:List Nat,first=.ref tp/\tp≠J/\h.IsTuple tp (pl.map λp:Nat=>da (p:Int) 0).toArray/\pl.length=vs.length/\∀(k p:Nat),pl[k]?=ab p->(b[p]?).map (λe=>e.2)=vs[k]?)
def Nc (w:bP) (h:cK) (J a tp:ah) (vs:List av) (i:Nat):Prop:=∃o b ep t c first,h.get? a=ab o/\o.data=.set b ep t/\t.fits b.size=ag/\b.size=vs.length/\h.get? J=ab c/\c.cls=.type "set_iterator"/\c.data=.fields #[first,.int i 0,.ref a,.int vs.length 0,.int ep 0]/\LP w h J a tp vs i b ep t first
theorem o8 {i j:Nat} (q:s.heap.get? a=ab o) (r:o.data=.set b ep t) (n:t.fits b.size=ag) (hsz:b.size=vs.length) (C:LP w h J a tp vs i b ep t (.int j 0)) (z:∀v sl',vs[i]?=ab v->LP w h J a tp vs (i+1) b ep t (.int (sl':Nat) 0)->Q (ab (v,sl')) s) (y:vs[i]?=af->Q af s):ax (aI prog w) A (setNext a j i ep) Q E s:=by
 unfold setNext;refine a_ (NR q r n ?_);dsimp only;unfold tJ;refine a_ (a_ (OC (h_ ?_)));show ax _ _ (if KB w=ag then _ else _) _ _ _;rcases C with ⟨j,e,k,d⟩ | ⟨j,e,k,m,f,g,p,d⟩ | ⟨pl,e,_⟩
 .cases e;rw[zi k,y9 ze];refine a_ ?_;unfold setWalk;refine a_ (NR q r n ?_);dsimp only;unfold tJ;refine a_ (a_ (OC (h_ ?_)));show ax _ _ (if KB w=ag then _ else _) _ _ _;rw[zi k];refine a_ (OC (h_ (h_ ?_)));show Q (((rb (w.params.setOrder a ep) b)[i]?).map λe=>(e.2,j)) s;have l:vs[i]?=((rb (w.params.setOrder a ep) b)[i]?).map (·.2):=by rw[<- d,u_,Go]
  cases u:(rb (w.params.setOrder a ep) b)[i]? with
  |none=>exact y (by rw[l,u];rfl)
  |some x=>exact z x.2 j (by rw[l,u];rfl) (.inl ⟨j,rfl,k,d⟩)
 .cases e;rw[y9 (by rw[k];simp)];show ax _ _ (if MA b t=ag then _ else _) _ _ _;rw[y9 (by rw[m];simp)];show ax _ _ ((if (!t.led&&!b.isEmpty)=ag then _ else bE ()) >>= _) _ _ _;rw[y9 (by rw[f];simp)];refine a_ (h_ (h_ ?_));rw[p];have D:t.place.size=b.size:=by simp only[SetTable.fits,CL,Gc] at n;exact n.1
  have l:vs[i]?=(b[i]?).map (·.2):=by rw[<- d,u_,Go]
  by_cases c:i<b.size
  .have B:i<t.place.size:=yT
   rw[O_ c,O_ B];refine z _ _ (by rw[l,O_ c];rfl) (.inr (.inl ⟨_,rfl,k,m,f,g,Lg g B,d⟩))
  rw[NE yT];exact y (by rw[l,NE yT];rfl)
 cases e
theorem nj {h:cK} (b:h.get? J=ab a) (d:a.data=.fields e) (k:Nat) (x:av):∃c,(h.update J (fo (·.setIfInBounds k x))).get? J=ab c/\c.cls=a.cls/\c.data=.fields (e.setIfInBounds k x) :=
 ⟨_,F9 _ b (Pp (JI d _)),iE ..,JI d _⟩
theorem LP.at' (x:LP w h J a tp vs i c ep t first) (k:∀o,tp≠J->h.get? tp=ab o->h'.get? tp=ab o):LP w h' J a tp vs i c ep t first:=by
 rcases x with x | x | ⟨pl,e,b,⟨o,d,r⟩,x⟩
 .exact .inl x
 .exact .inr (.inl x)
 exact .inr (.inr ⟨pl,e,b,⟨o,k o b d,r⟩,x⟩)
theorem Lk (hJ:Nc w s.heap J a tp vs i) (G:a≠J) (u:vs[i]?=ab v) (hQ:∀h',Nc w h' J a tp vs (i+1)->(∀b o,b≠J->s.heap.get? b=ab o->h'.get? b=ab o)->Q (ab v) { s with heap:=h'}):ax (aI prog w) A (eR (.ref J)) Q E s:=by
 obtain⟨o,T,ep,t,oJ,first,F,k,n,hsz,c,M,d,hw⟩:=hJ;have X:s.TypeIs (.ref J) "set_iterator":=⟨oJ,c,M⟩;unfold eR;refine a_ (Mn (Kn (name:=cx "__next__") X LJ (DS LJ X rM ?_ (rN _))));unfold cn.«set_iterator.__next__»;refine a_ (h_ (a_ (s9 c d ?_)));dsimp only;refine a_ (fT F k n ?_);rw[y9 (by rw[hsz];simp)];have D:∀f:Nat,first=.int f 0->ax (aI prog w) A.in1 (setNext a f i ep >>= λr=>match r with
   |some (x,next)=>lf (.ref J) 0 (cq next) >>= λ_=>lf (.ref J) 1 (cq ((i:Int)+1)) >>= λ_=>yn x
   |none=>lf (.ref J) 2 .none >>= λ_=>rc (.type "StopIteration") [] >>= λe=>oC e) (λP s'=>∃v,P=Fin.done (Flow.ret v)/\ax (aI prog w) A (bE (ab v)) Q E s') (λe s'=>ax (aI prog w) A (t9 e (.type "StopIteration") >>= λb=>if b=ag then bE af else throw e) Q E s') s:=by
  rintro f rfl
  refine a_ (o8 (h:=s.heap) (J:=J) (tp:=tp) F k n hsz hw (λv' q e K=>?_) λe=>by rw[u] at e;cases e)
  rw[u] at e
  cases e
  dsimp only
  refine a_ (FM c d ze ?_)
  obtain⟨V,H,S,I⟩:=nj c d 0 (cq q)
  refine a_ (FM H I ze ?_)
  obtain⟨o2,g2,c2,d2⟩:=nj H I 1 (cq ((i:Int)+1))
  have g:∀b o,b≠J->s.heap.get? b=ab o->((s.heap.update J (fo (·.setIfInBounds 0 (cq q)))).update J (fo (·.setIfInBounds 1 (cq ((i:Int)+1))))).get? b=ab o:=λb o j e=>by
   rw[HZ _ _ _ _ j,HZ _ _ _ _ j];exact e
  exact h_ ⟨_,rfl,h_ (hQ _ ⟨o,T,ep,t,o2,_,g _ _ G F,k,n,hsz,g2,(c2.trans S).trans M,by rw[d2];rfl,K.at' λo hn e=>g _ _ hn e⟩ g)⟩
 rcases id hw with ⟨f,rfl,j,L⟩ | ⟨f,rfl,j,hdr,Z,W,hsl,L⟩ | ⟨pl,rfl,C,R,U,y⟩
 .exact D f rfl
 .exact D f rfl
 dsimp only;obtain⟨ot,m,N,nt,B⟩:=id R;refine a_ (Mo m B ?_);obtain⟨p,Y⟩:∃p,pl[i]?=ab p:=by
  have:i<pl.length:=by
   rcases gg i vs.length with z | z
   .omega
   rw[G_ z] at u;cases u
  exact⟨_,g_ this⟩
 have e1:((pl.map λp:Nat=>da (p:Int) 0).toArray)[((i:Nat):Int).toNat]?=ab (.int (p:Int) 0):=by rw[F3,Oy,u_,Y];rfl
 dsimp only;rw[e1];dsimp only;have l:=y i p Y;rw[u] at l;cases O:T[p]? with
 |none=>rw[O] at l;cases l
 |some x =>
 rw[O] at l;cases l;unfold setNextDrawn;refine a_ (a_ (NR F k n ?_));dsimp only;rw[y9 ze,F3,O];refine h_ (a_ (FM c d ze ?_));obtain⟨V,H,S,I⟩:=nj c d 1 (cq ((i:Int)+1));have g:∀b o,b≠J->s.heap.get? b=ab o->(s.heap.update J (fo (·.setIfInBounds 1 (cq ((i:Int)+1))))).get? b=ab o:=λb o j e=>by rw[HZ _ _ _ _ j];exact e
 exact h_ ⟨_,rfl,h_ (hQ _ ⟨o,T,ep,t,V,_,g _ _ G F,k,n,hsz,H,S.trans M,by rw[I];rfl,.inr (.inr ⟨pl,rfl,C,⟨ot,g _ _ C m,N,nt,B⟩,U,y⟩)⟩ g)⟩
theorem tY {J:ah} (d:A.handled=af) (f:∀h',(∀b o,s.heap.get? b=ab o->h'.get? b=ab o)->Q af { s with heap:=h'}):ax (aI prog w) A.in1 (rc (.type "StopIteration") [] >>= λe=>oC e) (λc s'=>∃v,c=Fin.done (Flow.ret v)/\ax (aI prog w) A (bE (ab v)) Q E s') (λe s'=>ax (aI prog w) A (t9 e (.type "StopIteration") >>= λb=>if b=ag then bE af else throw e) Q E s') s:=by
 refine a_ ?_;simp only[rc,xI];refine a_ (B9 ?_ (by size_fits));refine a_ (m:=er _ _) (EZ (a:=bg) (by first | rfl | (simp only[er];rfl)) ?_);refine B9 ?_ (by size_fits);simp only[oC];refine a_ (mS ?_);rw[show A.in1.handled=af from d];refine a_ (h_ (se ?_));refine a_ (MW (T:="StopIteration") (b:=ag) ⟨_,t_ _ rfl,rfl⟩ t4 ?_);exact h_ (f _ λb o e=>e_ _ (e_ _ e))
theorem Ln (q:A.handled=af) (L:Nc w s.heap J a tp vs vs.length) (v:∀h',(∀b o,b≠J->s.heap.get? b=ab o->h'.get? b=ab o)->Q af { s with heap:=h'}):ax (aI prog w) A (eR (.ref J)) Q E s:=by
 obtain⟨o,S,ep,t,z,first,u,g,l,hsz,c,G,d,r⟩:=L;have y:s.TypeIs (.ref J) "set_iterator":=⟨z,c,G⟩;have x:vs[vs.length]?=af:=G_ (l_ _);unfold eR;refine a_ (Mn (Kn (name:=cx "__next__") y LJ (DS LJ y rM ?_ (rN _))));unfold cn.«set_iterator.__next__»;refine a_ (h_ (a_ (s9 c d ?_)));dsimp only;refine a_ (fT u g l ?_);rw[y9 (by rw[hsz];simp)];rcases id r with ⟨B,rfl,_⟩ | ⟨B,rfl,_⟩ | ⟨pl,rfl,I,⟨P,j,H,nt,n⟩,N,F⟩
 .dsimp only;refine a_ (o8 (h:=s.heap) (J:=J) (tp:=tp) (i:=vs.length) u g l hsz r (λC m e _=>by rw[x] at e;cases e) λ_=>?_);dsimp only;refine a_ (FM c d ze ?_);exact tY (J:=J) q λh' k=>v h' λb o f e=>k b o (by rw[HZ _ _ _ _ f];exact e)
 .dsimp only;refine a_ (o8 (h:=s.heap) (J:=J) (tp:=tp) (i:=vs.length) u g l hsz r (λC m e _=>by rw[x] at e;cases e) λ_=>?_);dsimp only;refine a_ (FM c d ze ?_);exact tY (J:=J) q λh' k=>v h' λb o f e=>k b o (by rw[HZ _ _ _ _ f];exact e)
 dsimp only;refine a_ (Mo j n ?_);have D:((pl.map λp:Nat=>da (p:Int) 0).toArray)[((vs.length:Nat):Int).toNat]?=af:=by rw[F3,Oy,u_,G_ yT];rfl
 dsimp only;rw[D];dsimp only;refine a_ (FM c d ze ?_);obtain⟨O,K,R,M⟩:=nj c d 0 (cq 0);refine a_ (FM K M ze ?_);exact tY (J:=J) q λh' k=>v h' λb o f e=>k b o (by rw[HZ _ _ _ _ f,HZ _ _ _ _ f];exact e)
theorem Lp (C:A.handled=af) (n:a≠J) (vs:List av):Walks prog w A J [J,a,tp] [J] vs.length (λi v=>vs[i]?=ab v) (λi h=>Nc w h J a tp vs i) where
 sub:=λb d=>by simp at d;simp [d]
 frame:=λi h h' st q=>by
  obtain⟨o,y,ep,t,j,first,x,u,r,hsz,c,p,f,z⟩:=st
  exact⟨o,y,ep,t,j,first,q a ze _ x,u,r,hsz,q J ze _ c,p,f,z.at' λo _ e=>q tp ze o e⟩
 item:=λi s Q E B st g=>Lk st n (g_ B) λh' l k=>g _ h' s.toks (g_ B) l λb o d e=>k b o (by simpa using d) e
 done:=λs Q E st g=>Ln C st λh' k=>g h' s.toks λb o d e=>k b o (by simpa using d) e
 self:=λi s Q E st g=>by
  obtain⟨o,y,ep,t,j,first,x,u,r,hsz,c,p,f,z⟩:=st
  have m:s.TypeIs (.ref J) "set_iterator":=⟨j,c,p⟩
  refine P3 m Ac (DS Ac m CT ?_ (CQ _))
  show ax _ _ (yn (.ref J)) _ _ s
  exact h_ ⟨_,rfl,"set_iterator",_,m,LJ.lookup,g⟩
theorem jF {c:Type}:∀{l:List c}{i:Nat}(b:i<l.length),(l[i]::l.eraseIdx i).Perm l
 |x::l,0,_=>.refl _
 |x::l,i+1,b=>by
  have a:i<l.length:=by simpa using b
  show (l[i]::x::l.eraseIdx i).Perm (x::l)
  exact (wE _ _ _).trans ((jF a).cons _)
theorem yu (c:n≠0) (h:∀i d,i<n->Q i { s with drawn:=d}):ax (aI prog w) A (choose a n) Q E s:=λb p hb=>by
 show Sem.wp _ b (.choose a n .pure) _ _ p s;rw[Sem.wp_choose];refine⟨c,?_⟩;rw[Sem.wp_pure];exact h _ _ (wo _ (Nat.pos_of_ne_zero c))
theorem rO {c:Type}:∀(n:Nat) (xs:List c) (s:aE) {Q:List c->aE->Prop},xs.length=n->(∀a d,a.Perm xs->Q a { s with drawn:=d})->ax (aI prog w) A (drawOrder n xs) Q E s
 |0,xs,s,Q,hl,h=>by
  rw[MZ hl] at h |-
  exact h_ (h [] s.drawn .nil)
 |n+1,[],_,_,hl,_=>by cases hl
 |n+1,x::xs,s,Q,hl,h=>by
  show ax _ _ (choose .order (x::xs).length >>= λi=>match (x::xs)[i]? with
   |some y=>drawOrder n ((x::xs).eraseIdx i) >>= λr=>bE (y::r)
   |none=>unsupported "internal:drawOrder") _ _ _
  refine a_ (yu ze λi d b=>?_)
  rw[g_ b]
  dsimp only
  refine a_ (rO n _ _ (by rw[TH b];omega) λa d' e=>h_ (h _ d' ?_))
  exact (e.cons _).trans (jF b)
theorem Ad (next:Nat->Nat):∀(f k:Nat) (left:List b) (out:Array b),left.length=f->(pickOrder.go next f k left out).toList.Perm (out.toList++left)
 |0,k,left,out,hl=>by
  rw[MZ hl,X_]
  exact .refl _
 |f+1,k,left,out,hl=>by
  have a:next k%left.length<left.length:=wo _ yT
  unfold pickOrder.go
  rw[g_ a]
  dsimp only
  refine (Ad next f _ _ _ (by rw[TH a];omega)).trans ?_
  rw[qE,EF]
  exact (jF a).append_left _
theorem Ae:∀{vs:List av},(∀v∈vs,∃n t,v=da n t)->eh vs (vs.map HE)
 |[],_=>.nil
 |v::vs,h=>by
  obtain⟨n,t,rfl⟩:=h v (.head _)
  exact .cons n t (Ae λv a=>h v (.tail _ a))
def rP (vs:List av) (a:List Int):Prop:=eh vs (vs.map HE)/\(vs.map HE).Nodup/\(∀k,k∈vs.map HE↔k∈a)/\vs.length<=a.length
theorem yw {a:Array (Int × av)} (b:ElemsOf (d5 prog w) a.toList) (i:(EX a.toList).Nodup) (h:∀k,k∈EX a.toList↔k∈c) (m:a.size<=c.length) (p:vs.Perm (a.toList.map (·.2))):rP vs c/\a.size=vs.length:=by
 have f:=p.map HE;rw[L_] at f;have d:(vs.map HE).Perm (EX a.toList):=f;have e:a.size=vs.length:=by rw[p.length_eq,d_,C3]
 refine⟨⟨Ae λv j=>?_,d.nodup_iff.mpr i,λk=>by rw[d.mem_iff,h],yT⟩,e⟩;obtain⟨x,g,rfl⟩:=k_.mp (p.mem_iff.mp j);obtain⟨⟨k,l,_⟩,_⟩:=b x g;obtain⟨t,e⟩:=ip l;exact⟨k,t,e⟩
section
variable {s:aE}
theorem Hn (X:SI prog w s.heap a y) (Y:y.length<ee) (R:∀h' d J tp vs,Nc w h' J a tp vs 0->rP vs y->FX s.heap h'->s.heap.objs.size<=J->(tp=a\/s.heap.objs.size<=tp)->Q (.ref J) { s with heap:=h',drawn:=d}):ax (aI prog w) A (ra (.ref a)) Q E s:=by
 obtain⟨o,f,ep,t,q,K,m,j,C,H,L,n,M⟩:=X;have O:s.TypeIs (.ref a) "set":=⟨o,q,K.1⟩;refine P3 O k7 (DS k7 O yt ?_ (PySem.F.args_set_iter_1 _));unfold cn.«frozenset.__iter__» Builtin.Frozenset.slot0 slotArgs;simp only[List.isEmpty_nil,E9,H_,↓reduceIte,bind_assoc,FR,bne_self_eq_false];unfold Builtin.Frozenset.addrOf Builtin.Frozenset.sizeOf;refine a_ (h_ (a_ (h_ (a_ (a_ (fT q m n (h_ ?_)))))));unfold setDrawn;refine a_ (a_ (NR q m n ?_));dsimp only;unfold tJ;refine a_ (a_ (OC (h_ (h_ ?_))));show ax _ _ (if (!KB w&&MA f t)=ag then _ else _) _ _ _;have g:∀vs:List av,rP vs y/\f.size=vs.length->LP w s.heap s.heap.objs.size a a vs 0 f ep t (.int ((0:Nat):Int) 0)->ax (aI prog w) A.in1 (setEpoch a >>= λe=>xy "set_iterator" [cq 0,cq 0,.ref a,cq f.size,cq e] >>= λr=>yn r) (λI s'=>∃v,I=Fin.done (Flow.ret v)/\∃P r,s'.TypeIs v P/\fb (.type P) "__next__"=bE (ab r)/\Q v s') E s:=by rintro vs ⟨l,hsz⟩ U;refine a_ (oj q m n ?_);unfold xy;refine a_ (B9 (h_ ⟨_,rfl,"set_iterator",_,⟨_,t_ _ rfl,rfl⟩,LJ.lookup,?_⟩));refine R _ s.drawn _ a vs ⟨o,f,ep,t,_,_,e_ _ q,m,n,hsz,t_ _ rfl,rfl,by rw[<- hsz];rfl,U.at' λo _ e=>e_ _ e⟩ l (λb o e=>e_ _ e) (l_ _) (.inl rfl)
 by_cases c:(!KB w&&MA f t)=ag
 .rw[zi c];refine a_ (rO f.size (ae f.size) s m_ λx d G=>?_);have W:ai=16777216:=rfl;have V:ee=4096:=rfl;have T:x.length=f.size:=by rw[G.length_eq,m_]
  refine a_ (s0 ?_ (by rw[d_];omega));have u:=e_ (h:=s.heap) { cls:=.type "tuple",data:=.seq (x.map λ(i:Nat)=>cq i).toArray} q;refine a_ (oj (s:={ s with heap:=_,drawn:=d}) u m n ?_);unfold xy;refine a_ (B9 (h_ ⟨_,rfl,"set_iterator",_,⟨_,t_ _ rfl,rfl⟩,LJ.lookup,?_⟩));have pv:(x.map λp=>((f[p]?).map λe=>e.2).getD .none).Perm (f.toList.map (·.2)):=by
   refine (G.map _).trans (List.Perm.of_eq ?_);apply GW;intro i;rw[u_,u_];by_cases l:i<f.size
   .rw[CI l,FF,Go,O_ l];rfl
   rw[G_ (by simpa using l),Go,NE yT];rfl
  obtain⟨l,hsz⟩:=yw j C H L pv;have B:s.heap.objs.size≠(s.heap.push { cls:=.type "tuple",data:=.seq (x.map λ(i:Nat)=>cq i).toArray}).objs.size:=by rw[GB];omega
  refine R _ d _ s.heap.objs.size _ ⟨o,f,ep,t,_,_,e_ _ u,m,n,hsz,t_ _ rfl,rfl,by rw[<- hsz];rfl,.inr (.inr ⟨x,rfl,B,⟨_,e_ _ (t_ _ rfl),rfl,_,rfl⟩,by rw[d_],λk p S=>?_⟩)⟩ l (λb o e=>e_ _ (e_ _ e)) (by show s.heap.objs.size<=(s.heap.push _).objs.size;rw[GB];exact ID _) (.inr (l_ _));rw[u_,S,FF];have N:p<f.size:=by have:=G.mem_iff.mp (EW S);exact K_.mp this
  rw[O_ N];rfl
 rw[y9 c];refine a_ (h_ ?_);cases z:KB w with
 |true=>refine g _ (yw j C H L ?_) (.inl ⟨0,rfl,z,rfl⟩);exact (Ad (w.params.setOrder a ep) f.size 0 f.toList #[] ze).map _
 |false =>
  have D:MA f t=am:=by
   rw[z] at c
   cases e:MA f t with
   |false=>rfl
   |true=>rw[e] at c;exact As rfl c
  refine g _ (yw j C H L (.refl _)) (.inr (.inl ⟨0,rfl,z,D,?_,M.2.2,Lh M.2.2,rfl⟩))
  rw[M.1]
  show (!KB w)=ag
  rw[z]
  rfl
end
@[reducible] def GO:l9:=⟨Int,λa b=>decide (a<b),λa=>by simp,λa b c e d=>by simp only[q_] at *;omega,λa b c h=>by simp only[q_] at *;omega,λa b e d=>by simp only[OB] at *;omega⟩
section
variable {X:Cx}{ZO:List (ah × dP)}{Z:L2.St}
theorem CV {K:a3} (r:D7 K H kvs vs):jj K H (kvs.map λq=>yv q.1) (vs.map λq=>kV q.1):=by
 induction r with
 |nil=>exact .nil
 |cons h _ a =>
 refine .cons ?_ a;dsimp only;rw[h.1];exact .ofInt
theorem Af:∀{ns:List Int}{d:List V}{c:List av},jj X.K H (ns.map yv) d->y7 d c->eh c ns
 |[],_,_,r,a=>by rw[r.inv0] at a;cases a;exact .nil
 |x::ss,_,_,r,a=>by
  obtain⟨v,f,rfl,q,b⟩:=r.inv
  cases a with
  |cons e a =>
   cases q.int
   obtain⟨t,rfl⟩:=e
   exact .cons x t (Af b a)
theorem A6 (h:eh a ns):∀i,i<a.length->∃t,a.getD i bg=da (ns.getD i 0) t:=by
 induction h with
 |nil=>intro i b;exact As b (NH _)
 |cons x t _ c =>
 intro i b;cases i with
 |zero=>exact⟨t,rfl⟩
 |succ i=>exact c i (by simpa using b)
theorem vN (h:eh a ns):a.length=ns.length:=by
 induction h with
 |nil=>rfl
 |cons x t _ b=>rw[j_,j_,b]
theorem vO (h:eh a ns):∀v∈a,∃x t,v=da x t:=by
 induction h with
 |nil=>intro v b;cases b
 |cons x t _ c =>
 intro v b;rcases o_.mp b with rfl | b
 .exact⟨x,t,rfl⟩
 exact c v b
theorem rQ (I:y4 X ZO Z H s) (sh:xr X.K H3 H) (k:HC X.K H Q3 Q) (hh:X.A.handled=af) (B:Rd H a (.dK vs)) (rd:D7 X.K H kvs vs) (h64:kvs.length<64) (h:∀us:List Int,us.Perm (kvs.map (·.1))->us.Pairwise (λx y=>GO.kle x y)->∀p,H3 p=af->Q3 (.ref p) (eH H3 p (.lst (us.map yv)))):ax (aI X.prog X.w) X.A (jS (.builtin "sorted") [.ref a]) (EP X ZO Z Q) X.xe s:=by
 obtain⟨z,hd,vs',D,dd⟩:=jM I.hok B;obtain⟨o,es,ep,h1,h2,h3,h4,h5,h6⟩:=dd;have hl:=D.length;have hl2:=FK rd;refine Le (O:=GO) (key:=λi=>((kvs.map (·.1)).getD i 0:Int)) λA' E' hA=>?_;refine mC (kdl_dict (knd:=bA X.prog X.w) (kvs:=vs') (ep:=ep) hd) (hA.trans hh) ⟨o,es,h1,h2,h3,h4,h5,h6⟩ yT λh' tk J kp r n=>?_;have l:=rJ (P:=X.prog) (w:=X.w) D J.toList (by rw[C3];exact n.1) λj v e=>n.2 j v (by rw[<- Go];exact e);have rs:=CV rd;have g:jj X.K H ((kvs.map (·.1)).map yv) (vs.map λq=>kV q.1):=by rw[L_];exact rs
 have S:=Af g l;have l3:=vN S;rw[d_] at l3;generalize hys:(vs.map λq=>kV q.1)=R at l g;generalize J.toList=M at *;have l1:=g.length;rw[d_,d_] at l1;have l2:=l.length;have hz:ai=16777216:=rfl;refine⟨yT,λg2 g' kq=>?_,λq g' c hs kq hc=>?_⟩
 .refine kas_kind (T:=.type "int") (s:={ s with heap:=g',toks:=tk}) g2 (λv hv=>?_) rfl rfl ⟨rfl,λi j C d m hC=>?_⟩
  .obtain⟨x,t,rfl⟩:=vO S v hv;exact Looks.of_pure rfl
  obtain⟨t,F⟩:=A6 S i d;obtain⟨u,B⟩:=A6 S j m;unfold sR;rw[F,B];exact kat_lt_int hC
 obtain⟨G,Y⟩:=hs;have f:∀i∈q,i<kvs.length:=λi d=>by have:=K_.mp (G.mem_iff.mp d);omega
 have E:q.length=kvs.length:=by rw[G.length_eq,m_];omega
 have ry:jj X.K H ((q.map λi=>(kvs.map (·.1)).getD i 0).map yv) (q.map λi=>R.getD i .non):=by
  clear Y G E hc;induction q with
  |nil=>exact .nil
  |cons i q ih =>
  refine .cons ?_ (ih λj m=>f j (.tail _ m));have d:=f i (.head _);have L:i<(kvs.map (·.1)).length:=by rw[d_];exact d
  obtain⟨y,F,r1⟩:=g.get (i:=i) (t:=yv ((kvs.map (·.1))[i])) (by rw[u_,g_ L];rfl);dsimp only;rw[y_,g_ L,y_,F];exact r1
 have rz:y7 (q.map λi=>R.getD i .non) (q.map λi=>M.getD i bg):=by
  clear Y G E ry hc;induction q with
  |nil=>exact .nil
  |cons i q ih =>
  refine .cons ?_ (ih λj m=>f j (.tail _ m));have d:i<R.length:=by have:=f i (.head _);omega
  obtain⟨z,F,r1⟩:=l.get (i:=i) (g_ d);dsimp only;rw[y_,g_ d,y_,F];exact r1
 have N:s.heap.objs.size<=h'.objs.size:=D4 r;have U:H h'.objs.size=af:=I.hok.fresh N;refine⟨.ref h'.objs.size,zw H h'.objs.size (.lst (q.map λi=>R.getD i .non)),I.laid (t':=tk) (λb o e=>kq b o (kp b o e)) N ⟨by rw[d_];omega,_,c,rz,hc⟩,rfl,?_⟩;refine k _ _ _ _ (aO U) (sh.newLst U ry) .ofRef (h _ ?_ ?_ _ (sh.fresh U))
 .have W:=G.map λi=>(kvs.map (·.1)).getD i 0;rw[show M.length=(kvs.map (·.1)).length by rw[d_];omega] at W;have B:(ae (kvs.map (·.1)).length).map (λi=>(kvs.map (·.1)).getD i 0)=kvs.map (·.1):=by
   apply GW;intro i;rw[u_];by_cases d:i<(kvs.map (·.1)).length
   .rw[CI d,g_ d,FF,y_,g_ d];rfl
   rw[G_ (by simpa using d),G_ yT];rfl
  rw[B] at W;exact W
 rw[L0];intro i j d m hij;rw[d_] at d m;have:=Y i j yT yT;rw[y_,g_ d,y_,g_ m] at this;rw[fi,fi];exact this
def L5 (o:Option O3) (H:gV) (Q:Z1):Prop:=match o with
 |some (.dci kvs)=>kvs.length<64/\∀us:List Int,us.Perm (kvs.map (·.1))->us.Pairwise (λx y=>GO.kle x y)->∀p,H p=af->Q (.ref p) (eH H p (.lst (us.map yv)))
 |some (.dif _ kvs)=>kvs.length<64/\∀us:List Int,us.Perm (kvs.map (·.1))->us.Pairwise (λx y=>GO.kle x y)->∀p,H p=af->Q (.ref p) (eH H p (.lst (us.map yv)))
 |_=>False
def Ho:List T->gV->Z1->Prop:=λts H Q=>match ts with
 |[.ref a]=>L5 (H a) H Q
 |_=>False
theorem Uk (a:ah) (H:gV) (Q:Z1):Ho [.ref a] H Q=L5 (H a) H Q:=rfl
theorem Ye (kvs:List (Int × T)) (H:gV) (Q:Z1):L5 (ab (.dci kvs)) H Q=(kvs.length<64/\∀us:List Int,us.Perm (kvs.map (·.1))->us.Pairwise (λx y=>GO.kle x y)->∀p,H p=af->Q (.ref p) (eH H p (.lst (us.map yv)))):=rfl
theorem Yg (o:dP) (kvs:List (Int × T)) (H:gV) (Q:Z1):L5 (ab (.dif o kvs)) H Q=(kvs.length<64/\∀us:List Int,us.Perm (kvs.map (·.1))->us.Pairwise (λx y=>GO.kle x y)->∀p,H p=af->Q (.ref p) (eH H p (.lst (us.map yv)))):=rfl
theorem Lq (j:Pr n X.A):dO X (.builtin "sorted") Ho:=by
 intro i s Z H xs us Q I l h;obtain⟨ts,H3,m,r,b,h,k⟩:=h
 match ts,h,r with
 |[.ref a],h,r =>
 obtain⟨v,rfl,f⟩:=r.one';obtain⟨u,rfl,g⟩:=AQ l;rw[f.ref] at g;cases g;have h':L5 (H3 a) H3 m:=h;unfold L5 at h';split at h'
 .rename_i kvs e;obtain⟨vs,d,c⟩:=b a _ e;exact rQ I b k j.hd (.inl d) c h'.1 h'.2
 .rename_i o kvs e;obtain⟨vs,d,c⟩:=b a _ e;exact rQ I b k j.hd (.inr ⟨o,d⟩) c h'.1 h'.2
 exact h'.elim
theorem Hq {Q:Bool->aE->Prop} (c:s.TypeIs (.ref r) "set") (h:Q am s):ax (aI prog w) A (c_ (.ref r)) Q E s:=by
 unfold c_;refine a_ (Ix c PySem.F.slot_set_len.lookup ?_);generalize a:("set.__len__":String)=d
 wp_delta
 rw[show splitId d=ab ("set","__len__") from by subst a;decide +kernel];subst a;refine a_ (MW (T:="set") (b:=ag) c (by rw[G1];kernel_rfl) ?_);refine kP (λz=>As z y6) λ_=>?_;refine kP (λ_=>?_) λz=>As Ap z;exact a_ (GA c (h_ h))
theorem Lr (hh:A.handled=af) (M:SI prog w s.heap a B) (hr:B.length<ee) (C:S≠a) (x:s.heap.get? S=ab (cE "list" #[] 0)) (hR:∀h' tk d vs c,(∀b o,b≠S->s.heap.get? b=ab o->h'.get? b=ab o)->h'.get? S=ab (cE "list" vs.toArray c)->rP vs B->R (.ok (.ret res)) { s with heap:=h',toks:=tk,drawn:=d}):
  ax (aI prog w) A.in1 (a7 (.ref S) (.ref a) res) (λG s'=>match G with
   |.done f=>R (.ok f) s'
   |.again y=>y.quiet=ag/\dy (aI prog w) A y R s') (λe s'=>R (.error e) s') s:=by
 have O:∀h':cK,FX s.heap h'->∀d,Shared.TypeIs { s with heap:=h',drawn:=d} (.ref a) "set":=λh' k d=>by
  obtain⟨o,es,ep,t,H,I,r⟩:=id M
  exact⟨o,k _ _ H,I.1⟩
 have hsl:ai=16777216:=rfl
 have hsb:ee=4096:=rfl
 have P:S<s.heap.objs.size:=C_ x
 unfold a7
 refine a_ (GA (T:="set") (O s.heap (λ_ _ e=>e) s.drawn) ?_)
 have e1:cv (.ref S) (.ref a)=am:=by simp [cv,C]
 have Y:(ci "set"==ci "list")=am:=by decide
 have e3:(ci "set"==ci "tuple")=am:=by decide
 simp only[e1,Y,e3,ja,H_,Y_]
 refine a_ (Hn M hr λN d J tp vs st u l D K=>?_)
 have L:a≠J:=by
  obtain⟨o,es,ep,t,H,r⟩:=M
  exact P_ (V_ (C_ H) D)
 have W:=Lp (prog:=prog) (w:=w) (A:=A.in1) hh (J:=J) (a:=a) (tp:=tp) L vs
 have V:S∉[J,a,tp]:=λz=>by
  simp only[o_,B8,B7] at z
  rcases z with z | z | z
  ·
   exact P_ (V_ P D) z
  ·
   exact C z
  ·
   rcases K with q | q
   ·
    exact C (z.trans q)
   ·
    exact P_ (V_ P q) z
 have key:∀(h:cK) (c tk:Nat),Nc w h J a tp vs 0->(∀b o,b≠S->s.heap.get? b=ab o->h.get? b=ab o)->h.get? S=ab (cE "list" #[] c)->dy (aI prog w) A (.builtin "list.extend.loop" ⟨[.ref S,.ref J,res],[]⟩) R { s with heap:=h,toks:=tk,drawn:=d}:=by
  intro h c tk st l x
  refine fr W.toS (by have:=u.2.2.2;omega) S V res vs.length 0 _ #[] c rfl (B6 _) st x (ItemsOf.nil _) λs' n y Q m X=>?_
  rw[Moved.eq_with Q]
  have Z:n=vs.toArray:=by
   apply Array.ext_getElem?
   intro i
   by_cases U:i<n.size
   ·
    have:=X.2 i _ (O_ U)
    rw[O_ U,Oy,this]
   ·
    rw[NE yT,Oy,G_ (by have:=X.1;omega)]
  rw[Z] at m
  refine hR s'.heap s'.toks d vs y (λb o g e=>Q.heap b o (λz=>?_) (l b o g e)) m u
  rcases o_.mp z with z | z
  ·
   exact g z
  ·
   exact P_ (V_ (C_ e) D) (i_.mp z)
 refine a_ (DF (Hq (O N l d) ?_))
 have j:=l _ _ x
 refine kP (λ_=>?_) λ_=>h_ ⟨F0 ia _,key _ 0 _ st (λb o _ e=>l b o e) j⟩
 refine a_ (KL (a_ ?_))
 show ax _ _ (mm S (·.push .none) >>= λ_=>mm S (·.pop)) _ _ _
 refine a_ (NW j rfl ?_)
 have v:=F9 (ce (·.push bg)) j rfl
 refine NW (hz:=by seq_fits) v rfl ?_
 have E:=F9 (ce (·.pop)) v rfl
 have p:∀b o,b≠S->N.get? b=ab o->((N.update S (ce (·.push bg))).update S (ce (·.pop))).get? b=ab o:=λb o g e=>(HL _ _ (aS g)).trans ((HL _ _ (aS g)).trans e)
 exact h_ ⟨F0 ia _,key _ _ _ (W.frame 0 _ _ st λb g o e=>p b o (λz=>V (z▸g)) e) (λb o g e=>p b o g (l b o e)) E⟩
theorem vP {Q:List av->aE->Prop} (v:A.handled=af) (p:SI prog w s.heap a l) (C:l.length<ee) (h:∀h' tk d vs,FX s.heap h'->s.heap.objs.size<h'.objs.size->rP vs l->Q vs { s with heap:=h',toks:=tk,drawn:=d}):ax (aI prog w) A (ky (.ref a)) Q E s:=by
 have B:a<s.heap.objs.size:=by obtain⟨o,F,ep,t,u,r⟩:=p;exact C_ u
 unfold ky;refine a_ (gI (Fn ly ?_));refine a_ (m:=sQ []) (OK (h_ ⟨hY _ Ap,Fn ro ?_⟩))
 let st:aE:={ s with heap:=s.heap.push (cE "list" #[] 0)}
 let G:yb->aE->Prop:=λq t=>∃h' tk d vs c,q=.ok (.ret (.ref s.heap.objs.size))/\t={ s with heap:=h',toks:=tk,drawn:=d}/\FX s.heap h'/\h'.get? s.heap.objs.size=ab (cE "list" vs.toArray c)/\rP vs l
 have key:=Lr (A:=A) (s:=st) (R:=G) (res:=.ref s.heap.objs.size) (S:=s.heap.objs.size) v (p.at' λo e=>e_ _ e) C (EN B) (t_ _ rfl) (λh' tk d vs c D g j=>⟨h',tk,d,vs,c,rfl,rfl,λb o e=>D b o (P_ (C_ e)) (e_ _ e),g,j⟩);have i:∀q t,G q t->∃h' tk d vs c,q=.ok (.ret (.ref s.heap.objs.size))/\h'.get? s.heap.objs.size=ab (cE "list" vs.toArray c)/\t={ s with heap:=h',toks:=tk,drawn:=d}/\Q vs t:=by rintro q t ⟨h',tk,d,vs,c,k,rfl,z,g,j⟩;exact⟨h',tk,d,vs,c,k,g,rfl,h h' tk d vs z (C_ g) j⟩
 refine Cn (A:=A.in1) key (λf t x=>?_) λe t x=>?_
 .cases f with
  |done f=>obtain⟨h',tk,d,vs,c,k,g,rfl,n⟩:=i _ _ x;cases k;exact a_ (m:=load s.heap.objs.size) (L1 g (h_ n))
  |again H =>
  refine⟨x.1,HG x.2 λq t y=>?_⟩;obtain⟨h',tk,d,vs,c,rfl,g,rfl,n⟩:=i _ _ y;exact a_ (m:=load s.heap.objs.size) (L1 g (h_ n))
 obtain⟨_,_,_,_,_,k,_⟩:=i _ _ x;cases k
end
theorem Ls:ba "set"=ab (.type "set"):=by decide +kernel
theorem Ul {Z:L2.St} (I:y4 X a Z H s) (d:Drawn):y4 X a Z H { s with drawn:=d}:=⟨I.ok,I.os,I.bare,I.base,I.loc,I.cell,I.free,I.freeC,I.pin,I.hok,I.len⟩
def PU (ns us:List Int):Prop:=us.Pairwise (·<·)/\∀k,k∈us↔k∈ns
theorem Ag:∀{a:List av}{ns:List Int},eh a ns->y7 (ns.map V.int) a
 |_,_,.nil=>.nil
 |_,_,.cons n t h=>.cons ⟨t,rfl⟩ (Ag h)
theorem rR (h:eh a ns):∀{q:List Nat},(∀i∈q,i<a.length)->eh (q.map λi=>a.getD i bg) (q.map λi=>ns.getD i 0)
 |[],_=>.nil
 |i::q,hq=>by
  obtain⟨t,e⟩:=A6 h i (hq i (.head _))
  rw[z_,z_,e]
  exact .cons _ t (rR h λj b=>hq j (.tail _ b))
theorem yx {ns:List Int}:(ae ns.length).map (λi=>ns.getD i 0)=ns:=by
 apply GW;intro i;rw[u_];by_cases a:i<ns.length
 .rw[CI a,g_ a,FF,y_,g_ a];rfl
 rw[G_ (by simpa using a),G_ yT];rfl
section
variable {P:bX}{w:bP}{E:av->aE->Prop}
theorem Lw (k:∀A' E',A'.handled=A.handled->ax (aI P w) A' (ky x) (λvs s1=>∃key:Nat->O.α,vs.length<64 /\
   (2<=vs.length->∀h',FX s1.heap h'->ax (aI P w) A.in1.in1 (xL vs.toArray) (λκ s'=>s'={ s1 with heap:=h'}/\∀i j (C:Bool->aE->Prop),i<vs.length->j<vs.length->C (O.blt (key i) (key j)) { s1 with heap:=h'}->sR P w A.in1.in1 κ vs i j C { s1 with heap:=h'}) (λ_ _=>False) { s1 with heap:=h'}) /\
   ∀a h' c,NF O key vs.length a->FX s1.heap h'->h'.get? s1.heap.objs.size=ab (cE "list" (a.map λi=>vs.getD i bg).toArray c)->Q (.ref s1.heap.objs.size) { s1 with heap:=h'}) E' s):ax (aI P w) A (jS (.builtin "sorted") [x]) Q E s:=by
 refine ic kind_sorted plain_sorted entry_sorted (args_sorted1 _) ?_;unfold cn.«sorted»;refine a_ (m:=checkCount "sorted" 1 1 _) (h_ ?_);refine a_ (Cn (k _ _ rfl) (λvs s1 l=>?_) λ_ _ e=>e);obtain⟨key,g,r,h⟩:=l;refine a_ (OK ?_ (by rw[Ll];omega));have d:(s1.heap.push (cE "list" vs.toArray 0)).get? s1.heap.objs.size=ab (cE "list" vs.toArray 0):=t_ _ rfl;refine a_ (DF (DS tI ⟨_,d,rfl⟩ sA (o5 (O:=O) (key:=key) d g (λp h' f=>r p h' λb o e=>f b o ?_ ?_) λa n=>⟨_,rfl,?_⟩) (vT _)))
 .exact P_ (C_ e)
 .exact e_ _ e
 obtain⟨f,c,q⟩:=Aa (h:=s1.heap) (vs:=vs) (out:=(a.map λi=>vs.getD i bg).toArray);exact h_ ⟨_,rfl,h a _ c n f q⟩
variable {X:Cx}{e:Expr}{p1 p2 ZT b':kc}
def Lx (te:TE):TE:=λZ H Q=>te Z H λx a=>∃p ns,x=.ref p/\A8 X.K a p (ns.map V.int)/\ns.length<64/\∀us,PU ns us->∀q,a q=af->Q (.ref q) (zw a q (.lst (us.map V.int)))
theorem Ly {Z:L2.St} (I:y4 X l Z H s) (Y:X.A.handled=af) (hS:SI X.prog X.w s.heap a ns) (h64:ns.length<64) (h:∀us,PU ns us->∀q,H q=af->Q (.ref q) (zw H q (.lst (us.map V.int)))):
  ax (aI X.prog X.w) X.A (jS (.builtin "sorted") [.ref a]) (EP X l Z Q) X.xe s:=by
 have hz:ai=16777216:=rfl;have hb:ee=4096:=rfl;refine Lw (O:=GO) λA' E' hA=>vP (hA.trans Y) hS yT λh' tk d vs kp p g=>?_;obtain⟨n,J,P,hl⟩:=g;generalize vs.map HE=f at *;have l1:=vN n;refine⟨λi=>(f.getD i 0:Int),yT,λW g' G=>?_,λq g' c hs G U=>?_⟩
 .refine kas_kind (T:=.type "int") (s:={ s with heap:=g',toks:=tk,drawn:=d}) W (λv S=>?_) rfl rfl ⟨rfl,λi j C g m hC=>?_⟩
  .obtain⟨x,t,rfl⟩:=vO n v S;exact Looks.of_pure rfl
  obtain⟨t,M⟩:=A6 n i g;obtain⟨u,K⟩:=A6 n j m;unfold sR;rw[M,K];exact kat_lt_int hC
 obtain⟨r,R⟩:=hs;have B:∀i∈q,i<vs.length:=λi g=>K_.mp (r.mem_iff.mp g);have L:q.length=vs.length:=by rw[r.length_eq,m_]
 have rz:=Ag (rR n B);have E:(q.map λi=>f.getD i 0).Perm f:=by have:=r.map λi=>f.getD i 0;rw[l1,yx] at this;exact this
 have N:H h'.objs.size=af:=I.hok.fresh (D4 p);refine⟨.ref h'.objs.size,zw H h'.objs.size (.lst ((q.map λi=>f.getD i 0).map V.int)),(Ul I d).laid (t':=tk) (λb o e=>G b o (kp b o e)) (D4 p) ⟨by rw[d_,d_];omega,_,c,rz,U⟩,rfl,h _ ⟨?_,λk=>by rw[E.mem_iff,P]⟩ _ N⟩;have y:=E.nodup_iff.mpr J;rw[L0];intro i j g m D;have h1:(q.map λi=>f.getD i 0)[i]≠(q.map λi=>f.getD i 0)[j]:=L0.mp y i j g m D;rw[d_] at g m;have F:=R i j yT yT;rw[y_,g_ g,y_,g_ m] at F;rw[fi,fi] at h1 |-;have h3:¬(f.getD q[j] 0<f.getD q[i] 0):=λz=>by have:decide (f.getD q[j] 0<f.getD q[i] 0)=am:=F;rw[N_ z] at this;cases this
 omega
theorem CW (A:X.calm=ag) (k:Gl X "sorted") (j:X.mg "sorted"=af) (n:Gl X "set") (m:X.mg "set"=af) (P:PE X e te)
  (C:aw [e] X.env=(am,bo e X.env)::aw [] X.env:=by rfl) (w:(bb ZT (aw [] X.env)).any (·.1)=am:=by rfl) (d:(bb b' (aw [] X.env)).any (·.1)=am:=by rfl) :
  PE X (.Call (.Name "sorted" p1) [.Call (.Name "set" p2) [e] [] b'] [] ZT) (Lx (X:=X) te):=by
 intro a s Z H Q I h;refine Ee (dq I k j rH ?_ y6 y6);refine fg ?_ rfl w;show ax _ _ (eK ((am,bo (.Call (.Name "set" p2) [e] [] b') X.env)::bb ZT (aw [] X.env))) _ _ s;refine ES ?_;refine Ee (dq I n m Ls ?_ y6 y6);refine Z_ ?_ C d;rw[C];show ax _ _ (eK ((am,bo e X.env)::bb b' (aw [] X.env))) _ _ s;refine ES (z3 (P a s Z H _ I h) λu s1 ⟨x,E,g,L,p,ns,N,F,r,q⟩=>?_);subst N;cases L;obtain⟨l,D,O,hz⟩:=g.list F;have c:=D.length;rw[d_] at c;have S:ee=4096:=rfl;refine FA ?_;refine CP (xs:=ns) (g.ok.hd A) O.isList (by simp [c]) (λi v K=>?_) (by simp;omega) λh' tk R M=>?_
 .have f:l[i]?=ab v:=by simpa using K
  have z:i<ns.length:=by have:=(HV.mp f).1;omega
  obtain⟨u,y,G⟩:=D.get (i:=i) (x:=V.int ns[i]) (by rw[u_,g_ z];rfl);rw[f] at y;cases y;obtain⟨t,rfl⟩:=G;exact⟨ns[i],t,g_ z,rfl⟩
 refine FA ?_;have J:y4 X a Z E { s1 with heap:=h',toks:=tk}:=g.kept λb o B=>M b o (C_ B) B;exact Ly J (g.ok.hd A) R r q
end
def CZ (o:Option O3) (H:gV) (Q:Z1):Prop:=match o with
 |some (.lst ts)=>oq (zv ts) λns=>ns.length<64/\∀us,PU ns us->∀q,H q=af->Q (.ref q) (eH H q (.lst (us.map yv)))
 |_=>False
def SR (x:T) (H:gV) (Q:Z1):Prop:=match x with
 |.ref a=>CZ (H a) H Q
 |_=>False
def vQ (te:zS):zS:=λZ H Q=>te Z H λx a=>SR x a Q
theorem Hr (te:zS):vQ te Z H Q=te Z H λx a=>SR x a Q:=rfl
theorem Yh (a:ah):SR (.ref a) H Q=CZ (H a) H Q:=rfl
theorem Um (ns:List Int):CZ (ab (.lst (ns.map yv))) H Q=(ns.length<64/\∀us,PU ns us->∀q,H q=af->Q (.ref q) (eH H q (.lst (us.map yv)))):=by
 unfold CZ;simp only[cN];rfl
theorem vR:∀{ts:List T}{ns:List Int},zv ts=ab ns->ts=ns.map yv
 |[],_,h=>by cases h;rfl
 |t::r,ns,h=>by
  cases t with
  |int i =>
   cases e:zv r with
   |none=>simp [zv,e] at h
   |some l =>
    simp [zv,e] at h
    rw[<- h,vR e]
    rfl
  |_=>simp [zv] at h
theorem vU {K:a3}:∀{ns:List Int}{xs:List V},jj K H (ns.map yv) xs->xs=ns.map V.int
 |[],_,r=>r.inv0
 |n::ns,xs,r=>by
  obtain⟨v,a,rfl,q,b⟩:=r.inv
  rw[z_,<- vU b,q.int]
theorem o9 {K:a3}:∀{ns:List Int},jj K H (ns.map yv) (ns.map V.int)
 |[]=>.nil
 |_::_=>.cons .ofInt o9
section
variable {p1 p2 ZT b':kc}
theorem Dc (A:X.calm=ag) (i:Gl X "sorted") (g:X.mg "sorted"=af) (m:Gl X "set") (l:X.mg "set"=af) (F:Z7 X e te) (C:aw [e] X.env=(am,bo e X.env)::aw [] X.env:=by rfl) (n:(bb ZT (aw [] X.env)).any (·.1)=am:=by rfl) (d:(bb b' (aw [] X.env)).any (·.1)=am:=by rfl):
  Z7 X (.Call (.Name "sorted" p1) [.Call (.Name "set" p2) [e] [] b'] [] ZT) (vQ te):=by
 refine PE.imp (CW A i g m l F C n d) ?_;rintro Z H Q ⟨w,H3,B,s,D,h,k⟩;refine⟨w,H3,_,s,D,h,λv H' t f u c r q=>?_⟩;cases t with
 |ref a =>
  have b:CZ (f a) f B:=q
  unfold CZ at b
  split at b
  ·
   rename_i ts x
   cases z:zv ts with
   |none=>rw[z] at b;exact b.elim
   |some ns =>
    rw[z] at b
    have e:=vR z
    subst e
    obtain⟨G,o,E⟩:=c a _ x
    rw[vU E] at o
    exact⟨a,ns,r.ref,.of o,b.1,λus y p j=>k _ _ _ _ (u.trans (aO j)) (c.newLst j o9) .ofRef (b.2 us y p (c.fresh j))⟩
  ·
   exact b.elim
 |_=>exact q.elim
end
end L3
namespace M
open L2 L3
def YO : String := "ne_eq not_false_eq_true aD zu uY PD eX NZ sZ zq NB Rx sY NK Nu WF Nv RC WN Em El NQ tD Nz zr aaa WL vp zy aae Fg gJ RK RL WP iu q_I aaf Fi RM RN Fj lz Oc WR WT WW WX zL Od WY Fl Fo W0 W3 W4 W5 RP W6 aag RQ W7 Oe RV W8 W9 q_D Xa RW Xb Xc RX Xd RZ Sd zM Og zN Sg Xe Sh Sq Ss Su Xf Xg Xh Xi Xj Oh Xk Oi Xl Xm Ka Xn Xo Xp Xq Sv Oj Kc rA lX Sw Kd Sx aC RB Et qZ m9 decide_true decide_false Bool.not_true Bool.not_false WO VO N9 UK List.eraseIdx_cons_zero Int.toNat_natCast zp List.length_map List.length_cons List.length_nil Nat.zero_add Bool.false_eq_true if_false if_true List.getElem?_cons_zero List.getElem?_cons_succ List.set_cons_zero List.set_cons_succ Xw Xx List.map_cons List.map_nil Ga S9 Tc Ge Th Xy Xz Tj Ou Ov OD Gn Gq OJ HB PP Ox PX HD KR O1 Us Ut Uu Uv aam KZ K3 K4 K5 TX O5 O2 O4 GD O6 GK O7 Gu Gv Xu Xv Fy Vh T6 Pj G8 Ue Pk Pn X5 G9 Pq Ha Hb zZ jW XQ aao O9 GR z6 XS GX G4 Ua XX G6 ym Uc Pa Pb G7 Pg Ph X6 Hd Py X8 aaq PK Ui PL Gu Gv Vq Ke Kf Fv Kg Fw Xr Kh Uk Ye Yg Hr Yh Um Tw XD KD XF"
structure AN (x:ap):Prop where
 lo:1<=x.length
 hi:x.length<=8
 az:∀c∈x.cps.toList,97<=c/\c<=122
structure BQ (ws:List ap):Prop where
 nm:∀x∈ws,AN x
 nd:ws.Nodup
theorem BQ.nil:BQ []:=⟨λ_ h=>(nomatch h),KS⟩
theorem BQ.snoc (n:BQ ws) (h:AN x) (a:x∉ws):BQ (ws++[x]) :=
 ⟨λy b=>(F_.mp b).elim (n.nm y) λz=>by rw[i_.mp z];exact h,m5 n.nd a⟩
structure Wk where
 tasks:List (ap × Int × List ap)
 orders:List (ap × ap)
 pairs:List (ap × ap × ap)
 row:List ap
def sT (xs:List ap):T:=.tup (xs.map yy)
def AE (t:ap × Int × List ap):T:=.tup [.str t.1,.int t.2.1,sT t.2.2]
def AG (o:ap × ap):T:=.tup [.str o.1,.str o.2]
def AW (p:ap × ap × ap):T:=.tup [.str p.1,.str p.2.1,.str p.2.2]
def Wk.enc (W:Wk):T:=.tup [.tup (W.tasks.map AE),.tup (W.orders.map AG),.tup (W.pairs.map AW),sT W.row]
structure SW (t:ap × Int × List ap):Prop where
 nm:AN t.1
 lo:1<=t.2.1
 hi:t.2.1<10^60
 ks:BQ t.2.2
 kl:t.2.2.length<=4
structure mz (W:Wk):Prop where
 t1:1<=W.tasks.length
 t8:W.tasks.length<=8
 tk:∀t∈W.tasks,SW t
 nd:(W.tasks.map (·.1)).Nodup
 os:W.orders.length<=28
 od:W.orders.Nodup
 oo:∀o∈W.orders,o.1≠o.2/\o.1∈W.tasks.map (·.1)/\o.2∈W.tasks.map (·.1)
 ps:W.pairs.length<=12
 pd:W.pairs.Nodup
 pp:∀p∈W.pairs,(p.1="with"\/p.1="apart")/\p.2.1≠p.2.2/\p.2.1∈W.tasks.map (·.1)/\p.2.2∈W.tasks.map (·.1)
 r1:1<=W.row.length
 r8:W.row.length<=8
 rn:∀x∈W.row,AN x
theorem gF {c:Type}{f:c->T}(d:∀{a b},f a=f b->a=b) {x:c}{xs:List c}:f x∈xs.map f↔x∈xs:=by
 rw[k_];exact⟨λ⟨y,g,e⟩=>d e▸g,λh=>⟨x,h,rfl⟩⟩
theorem iy (h:yy a=yy b):a=b:=by injection h
theorem Uo {c:Type}{f:c->T}(d:∀{a b},f a=f b->a=b) {x:c}{xs:List c}:di ag (f x) (xs.map f)=ag↔x∉xs:=by
 unfold di;simp [gF d]
theorem Yi {c:Type}{f:c->T}(d:∀{a b},f a=f b->a=b) {x:c}{xs:List c}:di am (f x) (xs.map f)=ag↔x∈xs:=by
 unfold di;simp [gF d]
theorem fc (xs:List ap):(xs.map yy).all (pl 20)=ag:=by rw[W_];intro t a;obtain⟨x,_,rfl⟩:=k_.mp a;rfl
theorem Uq (xs:List (ap × ap)):(xs.map AG).all (pl 20)=ag:=by rw[W_];intro t a;obtain⟨x,_,rfl⟩:=k_.mp a;rfl
theorem Ur (xs:List (ap × ap × ap)):(xs.map AW).all (pl 20)=ag:=by rw[W_];intro t a;obtain⟨x,_,rfl⟩:=k_.mp a;rfl
theorem Us (W:Wk) (H:gV) (Q:Z1):vo W.enc (.int 0) H Q=Q (.tup (W.tasks.map AE)) H:=rfl
theorem Ut (W:Wk) (H:gV) (Q:Z1):vo W.enc (.int 1) H Q=Q (.tup (W.orders.map AG)) H:=rfl
theorem Uu (W:Wk) (H:gV) (Q:Z1):vo W.enc (.int 2) H Q=Q (.tup (W.pairs.map AW)) H:=rfl
theorem Uv (W:Wk) (H:gV) (Q:Z1):vo W.enc (.int 3) H Q=Q (.tup (W.row.map yy)) H:=rfl
def AB:List ap->Int->List ap
 |[],_=>[]
 |x::r,b=>if b%2=1 then x::AB r (b / 2) else AB r (b / 2)
def FL:List ap->Int->Int
 |[],_=>0
 |_::r,b=>(if b%2=1 then 1 else 0)+2*FL r (b / 2)
def y3:List ap->List ap->Int
 |[],_=>0
 |x::r,ss=>(if x∈ss then 1 else 0)+2*y3 r ss
theorem jY:∀(ws:List ap) (b:Int),∀x∈AB ws b,x∈ws
 |[],_,x,h=>by cases h
 |y::r,b,x,h=>by
  unfold AB at h
  split at h
  ·
   rcases o_.mp h with rfl | h
   ·
    exact n_
   ·
    exact A_ _ (jY r _ x h)
  ·
   exact A_ _ (jY r _ x h)
theorem mD:∀(ws b a:List ap),(∀x∈ws,x∈b↔x∈a)->y3 ws b=y3 ws a
 |[],_,_,_=>rfl
 |y::r,b,a,h=>by
  have e:=h y n_
  have d:=mD r b a λx c=>h x (A_ _ c)
  simp only[y3,d,e]
theorem ph:∀(ws:List ap) (b:Int),ws.Nodup->y3 ws (AB ws b)=FL ws b
 |[],_,_=>rfl
 |y::r,b,nd=>by
  rw[DJ] at nd
  have a:=ph r (b / 2) nd.2
  have f:y∉AB r (b / 2):=λh=>nd.1 (jY r _ y h)
  by_cases c:b%2=1
  ·
   have e:y3 r (y::AB r (b / 2))=y3 r (AB r (b / 2)):=mD r _ _ λx d=>by
    have:x≠y:=λe=>nd.1 (e▸d)
    simp [this]
   simp only[y3,FL,AB,c,if_true,e,a,o_,true_or]
  ·
   simp only[y3,FL,AB,c,Y_,f,a]
theorem Ht:∀(ws:List ap) (b:Int),0<=b->b<2^ws.length->FL ws b=b
 |[],b,h0,h1=>by simp at h1;simp only[FL];omega
 |y::r,b,h0,h1=>by
  have a:b / 2<2^r.length:=by
   rw[j_,FU] at h1
   omega
  have c:=Ht r (b / 2) yT a
  simp only[FL,c]
  split <;> omega
theorem pA:∀(A:List ap) (y:ap) (a:List ap),y3 (A++[y]) a=y3 A a+2^A.length*(if y∈a then 1 else 0)
 |[],y,a=>by simp [y3]
 |x::A,y,a=>by
  have b:=pA A y a
  simp only[OZ,y3,j_,b,FU]
  generalize (2:Int)^A.length=w
  generalize (if y∈a then (1:Int) else 0)=z
  rw[Int.mul_add,<- Int.mul_assoc,Int.mul_comm 2 w]
  omega
theorem vV:∀(A B:List ap) (b:Int),AB (A++B) b=AB A b++AB B (b / 2^A.length)
 |[],B,b=>by simp [AB]
 |y::A,B,b=>by
  have a:=vV A B (b / 2)
  have e:b / 2 / 2^A.length=b / 2^(A.length+1):=by
   rw[FU,Int.mul_comm,kg y6]
  simp only[OZ,AB,j_,a,e]
  split <;> simp
theorem tZ (m n:Nat):a5 (m:Int) (n:Int)=((m &&& n:Nat):Int):=by
 unfold a5;rfl
theorem Uw (m n:Nat):eg (m:Int) (n:Int)=((m ||| n:Nat):Int):=by
 have h:∀z:Nat,decide ((0:Int)<=e8 (z:Int))=am:=λz=>I_ (by unfold e8;omega);have g:∀z:Int,e8 (e8 z)=z:=λz=>by unfold e8;omega
 unfold eg a5;rw[h,h];simp only[g,F3]
def bU:List ap->List ap->Nat
 |[],_=>0
 |x::r,ss=>(if x∈ss then 1 else 0)+2*bU r ss
theorem cI:∀(ns a:List ap),y3 ns a=((bU ns a:Nat):Int)
 |[],_=>rfl
 |x::r,a=>by
  have:=cI r a
  simp only[y3,bU,this]
  by_cases h:x∈a <;> simp [h]
theorem Lz (b c a d:Nat) (j:b<2) (k:c<2):(b+2*a) &&& (c+2*d)=(if b=1/\c=1 then 1 else 0)+2*(a &&& d):=by
 have i:((b+2*a) &&& (c+2*d)) / 2=(b+2*a) / 2 &&& (c+2*d) / 2:=Nat.and_div_two;have f:(b+2*a) / 2=a:=yT
 have g:(c+2*d) / 2=d:=yT
 rw[f,g] at i;have e:((b+2*a) &&& (c+2*d))%2=1↔(b+2*a)%2=1/\(c+2*d)%2=1:=Nat.and_mod_two_eq_one;by_cases h:b=1/\c=1
 .rw[zi h];have:=e.mpr ⟨yT,yT⟩;omega
 rw[y9 h];have:¬((b+2*a) &&& (c+2*d))%2=1:=λz=>h (by have:=e.mp z;omega);omega
theorem Ux (b c a d:Nat) (j:b<2) (k:c<2):(b+2*a) ||| (c+2*d)=(if b=1\/c=1 then 1 else 0)+2*(a ||| d):=by
 have i:((b+2*a) ||| (c+2*d)) / 2=(b+2*a) / 2 ||| (c+2*d) / 2:=Nat.or_div_two;have f:(b+2*a) / 2=a:=yT
 have g:(c+2*d) / 2=d:=yT
 rw[f,g] at i;have e:((b+2*a) ||| (c+2*d))%2=1↔(b+2*a)%2=1\/(c+2*d)%2=1:=Nat.or_mod_two_eq_one;by_cases h:b=1\/c=1
 .rw[zi h];have:=e.mpr yT;omega
 rw[y9 h];have:¬((b+2*a) ||| (c+2*d))%2=1:=λz=>h (by have:=e.mp z;omega);omega
theorem nq (p:Prop) [Decidable p]:(if p then 1 else 0)<2:=by split <;> decide
theorem pB:∀(ns A B:List ap),bU ns A &&& bU ns B=bU ns (A.filter λx=>decide (x∈B))
 |[],_,_=>by simp [bU]
 |x::r,A,B=>by
  simp only[bU]
  rw[Lz _ _ _ _ (nq _) (nq _),pB r A B]
  by_cases b:x∈A <;> by_cases a:x∈B <;> simp [b,a]
theorem Ah:∀(ns A B:List ap),bU ns A ||| bU ns B=bU ns (A++B)
 |[],_,_=>by simp [bU]
 |x::r,A,B=>by
  simp only[bU]
  rw[Ux _ _ _ _ (nq _) (nq _),Ah r A B]
  by_cases b:x∈A <;> by_cases a:x∈B <;> simp [b,a]
theorem jZ:∀(ns A B:List ap),bU ns A=bU ns B↔∀x∈ns,x∈A↔x∈B
 |[],_,_=>by simp [bU]
 |y::r,A,B=>by
  have a:=jZ r A B
  simp only[bU,o_,forall_eq_or_imp]
  rw[<- a]
  by_cases b:y∈A <;> by_cases c:y∈B <;> simp only[b,c,if_true,Y_,iff_true,iff_false,true_iff,false_iff,true_and,not_true,not_false_eq_true,false_and] <;> omega
theorem iM:∀ns:List ap,bU ns []=0
 |[]=>rfl
 |x::r=>by simp only[bU,B8,Y_,iM r]
theorem Dd (ns A:List ap):bU ns A=0↔∀x∈ns,x∉A:=by
 have:=jZ ns A [];rw[iM] at this;rw[this];simp
theorem gG (ns A B:List ap):(a5 (y3 ns A) (y3 ns B)=y3 ns B)↔∀x∈ns,x∈B->x∈A:=by
 rw[cI,cI,tZ,pB];constructor
 .intro h x a b;have:=(jZ ns _ _).mp (Int.ofNat.inj h) x a;exact (D_.mp (this.mpr b)).1
 intro h;refine Q_ Int.ofNat ((jZ ns _ _).mpr λx a=>?_);rw[D_,q_];exact⟨λz=>z.2,λz=>⟨h x a z,z⟩⟩
theorem t6 (ns A B:List ap):(a5 (y3 ns A) (y3 ns B)=0)↔∀x∈ns,¬(x∈A/\x∈B):=by
 rw[cI,cI,tZ,pB];have e:((bU ns (A.filter λx=>decide (x∈B)):Nat):Int)=0↔bU ns (A.filter λx=>decide (x∈B))=0:=yT
 rw[e,Dd];constructor
 .intro h x a z;exact h x a (D_.mpr ⟨z.1,N_ z.2⟩)
 intro h x a z;have:=D_.mp z;exact h x a ⟨this.1,DB this.2⟩
theorem Uy (ns A B:List ap):eg (y3 ns A) (y3 ns B)=y3 ns (A++B):=by
 rw[cI,cI,cI,Uw,Ah]
theorem Hu (ns A:List ap):0<=y3 ns A:=by rw[cI];exact Lc _
theorem vW:∀(ns A:List ap),y3 ns A<2^ns.length
 |[],_=>by simp [y3]
 |x::r,A=>by
  have:=vW r A
  simp only[y3,j_,FU]
  split <;> omega
theorem vX:∀(ns:List ap) (A:List ap),ns.Nodup->AB ns (y3 ns A)=ns.filter λx=>decide (x∈A)
 |[],_,_=>rfl
 |x::r,A,nd=>by
  rw[DJ] at nd
  have c:=vX r A nd.2
  have n0:=Hu r A
  by_cases h:x∈A
  ·
   have a:(1+2*y3 r A)%2=1:=yT
   have b:(1+2*y3 r A) / 2=y3 r A:=yT
   simp only[y3,h,if_true,AB,a,b,c,LG,EU]
  ·
   have a:¬(0+2*y3 r A)%2=1:=yT
   have b:(0+2*y3 r A) / 2=y3 r A:=yT
   simp only[y3,h,Y_,AB,a,b,c,LG,ER,H_]
theorem Hv (a:ns.Nodup) (c:0<=n) (b:n<2^ns.length):y3 ns (AB ns n)=n:=by rw[ph ns n a,Ht ns n c b]
universe u
variable {α:Type u}
inductive RT (R:α->α->Prop):α->α->Prop
 |refl {a:α}:RT R a a
 |step {a b c:α}:RT R a b->R b c->RT R a c
theorem RT.trans {a b c:α} (h:RT R a b) (g:RT R b c):RT R a c:=by
 induction g with
 |refl=>exact h
 |step _ r d=>exact .step d r
theorem RT.flip {a b:α} (h:RT R a b):RT (λx y=>R y x) b a:=by
 induction h with
 |refl=>exact .refl
 |step _ r c=>exact (RT.step (R:=λx y=>R y x) .refl r).trans c
theorem LC {a b:α}:RT (λx y=>R y x) a b↔RT R b a:=⟨λh=>h.flip,λh=>h.flip⟩
theorem Yj {L:List (α × α)}{F:List α} (e:s∈F) (c:∀a b,(a,b)∈L->a∈F->b∈F) (h:RT (λa b=>(a,b)∈L) s x):x∈F:=by
 induction h with
 |refl=>exact e
 |step _ r d=>exact c _ _ r d
theorem lF [DecidableEq α]:∀{l m:List α},l.Nodup->(∀x∈l,x∈m)->l.length<=m.length:=by
 intro l;induction l with
 |nil=>intro m _ _;exact B6 _
 |cons a l j =>
 intro m d g;rw[DJ] at d;have i:=g a n_;have h:=j (m:=m.erase a) d.2 λx f=>by have c:=g x (A_ _ f);have b:x≠a:=λe=>d.1 (e▸f);exact (List.mem_erase_of_ne b).mpr c
 have e:=List.length_erase_of_mem i;have p:0<m.length:=List.length_pos_of_mem i;simp only[j_];omega
def AU (l:List Nat):ap:=⟨l.toArray⟩
theorem fj (l:List Nat):(AU l).cps.toList=l:=rfl
theorem d9 (l:List Nat):(AU l).length=l.length:=by show (l.toArray).size=_;simp
theorem Uz (x:ap):∃l,x=AU l:=⟨x.cps.toList,by cases x;rfl⟩
theorem Ai (h:AU a=AU b):a=b:=by have:=Q_ (λx=>x.cps.toList) h;exact this
theorem t7 (a b:List Nat):AU a++AU b=AU (a++b):=by
 show (⟨a.toArray++b.toArray⟩:ap)=⟨(a++b).toArray⟩;simp
theorem Yk (l:List Nat) (k:Nat) (h:k<=l.length):j2 (AU l) af (ab (k:Int))=AU (l.take k):=by
 have e:=StrLaws.sliceText_to (x:=AU l) (j:=(k:Int)) ⟨Lc k,by rw[fj];omega⟩;rw[fj,wx,Int.sub_zero,F3] at e;exact e
theorem LK (l:List Nat) (k:Nat) (h:k<=l.length):j2 (AU l) (ab (k:Int)) af=AU (l.drop k):=by
 have e:=StrLaws.sliceText_from (x:=AU l) (i:=(k:Int)) ⟨Lc k,by rw[fj];omega⟩;rw[fj,F3,M0 (by rw[KM];omega)] at e;exact e
def mQ:List Nat:=[97,98,99,100,101,102,103,104,105,106,107,108,109,110,111,112,113,114,115,116,117,118,119,120,121,122]
theorem Hw:("abcdefghijklmnopqrstuvwxyz":ap)=AU mQ:=by decide +kernel
theorem LQ:∀i:_root_.Fin 26,mQ[i.val]?=ab (97+i.val):=by decide
theorem Hx (i:Int) (b:0<=i) (c:i<26):AA mQ i=ab (97+i.toNat):=by
 obtain⟨j,rfl⟩:=kf b;have a:j<26:=yT
 have:=LQ ⟨j,a⟩;exact bQ (by simpa using this)
theorem LR:∀i:_root_.Fin 26,bp (AU mQ) (AU [97+i.val]) 0 26 1=[i.val]:=by decide +kernel
theorem UG (c:Nat) (b:97<=c) (a:c<=122):bp (AU mQ) (AU [c]) 0 (AU mQ).length 1=[c - 97]:=by
 have:=LR ⟨c - 97,yT⟩;rw[show 97+(c - 97)=c by omega] at this;exact this
theorem PN (b:1<=l.length) (a:l.length<=8) (h:∀c∈l,97<=c/\c<=122):AN (AU l):=⟨by rw[d9];exact b,by rw[d9];exact a,by rw[fj];exact h⟩
def UE (t:ap × Int × List ap):List ap:=([("task":ap),t.1,(toString t.2.1:String)]:List ap)++t.2.2
end M
namespace L3
open L2
structure NY (p:Prop):Prop where
 out:p
theorem aq (h:∀R,NY (R=u)->(zu t R) D Z H):(zu t u) D Z H:=h u ⟨rfl⟩
theorem De (W:Nat->AJ->gV->Prop) (e:∃m,W m Z H) (d:∀m Z H,W m Z H->∀(WI:Nat->AJ->gV->Prop) (TB:BY) (NX:AJ->gV->Prop),NY (WI=W)->NY (TB=a)->NY (NX=D.nx) ->
  c Z H λb H1=>if b=ag then TB { D with nx:=λZ' H'=>∃m',m'<m/\WI m' Z' H',ct:=λZ' H'=>∃m',m'<m/\WI m' Z' H',bk:=D.nx} Z H1 else NX Z H1):tu c a D Z H :=
 ⟨W,e,λm Z H w=>d m Z H w W a D.nx ⟨rfl⟩ ⟨rfl⟩ ⟨rfl⟩⟩
theorem dz {m:Type} (c f:m->T) (p:m->Bool) (g:List m) (zk:AJ) (i:still H) (u:g.length<=ai) (w:∀a∈g,∀Q:Bool->gV->Prop,Q (p a) H->tt (ab (c a)::zk) H Q) (s:∀a∈g,p a=ag->∀Q:Z1,Q (f a) H->te (ab (c a)::zk) H Q) (j:k ((g.filter p).map f) H):C4 (eX 0) tt te still k (g.map c) [] (v::zk) H:=by
 refine iK (λr o Z H'=>∃(e h:List m) (v:Option T),Z=v::zk/\r=e.map c/\o=(h.filter p).map f/\h++e=g/\H'=H) ⟨g,[],v,rfl,rfl,rfl,rfl,rfl⟩ ?_ ?_
 .rintro o Z H' ⟨e,h,v,rfl,d,rfl,b,rfl⟩;have l:e=[]:=MG.mp d.symm;subst l;rw[X_] at b;subst b;exact⟨i,by rw[d_];exact U_ (DA _ _) u,j⟩
 rintro x r o Z H' N ⟨e,h,v,rfl,d,rfl,b,rfl⟩ q;cases e with
 |nil=>cases d
 |cons t e =>
 injection d with e1 e2;subst e1 e2;refine⟨i,?_⟩;show tt (ab (c t)::zk) H' _;refine w t (by rw[<- b];simp) _ ?_;cases n:p t with
 |true=>rw[zi rfl];refine s t (by rw[<- b];simp) n _ ⟨?_,q _ _ _ ⟨e,h++[t],_,rfl,rfl,by simp [n],by rw[<- b];simp,rfl⟩⟩;have:=Q_ aT b;simp only[b_,j_] at this;rw[d_];have:=DA p h;omega
 |false =>
 rw[y9 B_];exact q _ _ _ ⟨e,h++[t],_,rfl,rfl,by simp [n],by rw[<- b];simp,rfl⟩
end L3
namespace M
open L2 L3
inductive Rw where
 |tk (t:ap × Int × List ap) | od (o:ap × ap) | pr (p:ap × ap × ap)
def Rw.words:Rw->List ap
 |.tk t=>UE t
 |.od o=>["order",o.1,o.2]
 |.pr p=>[p.1,p.2.1,p.2.2]
def MX:List Rw->List (ap × Int × List ap)
 |[]=>[]
 |.tk t::r=>t::MX r
 |_::r=>MX r
def AC:List Rw->List (ap × ap × ap)
 |[]=>[]
 |.pr p::r=>p::AC r
 |_::r=>AC r
def fits (L:List Rw):Rw->Prop
 |.tk _=>True
 |.od o=>o.1∈(MX L).map (·.1)/\o.2∈(MX L).map (·.1)
 |.pr p=>p.2.1∈(MX L).map (·.1)/\p.2.2∈(MX L).map (·.1)
inductive RowW:List ap->Prop
 |tk {t:ap × Int × List ap} (h:SW t):RowW (UE t)
 |od {a b:ap} (h1:AN a) (h2:AN b):RowW ["order",a,b]
 |pr {z a b:ap} (h0:z="with"\/z="apart") (h1:AN a) (h2:AN b):RowW [z,a,b]
 |row {xs:List ap} (h1:1<=xs.length) (h8:xs.length<=8) (h:∀x∈xs,AN x):RowW (([("row":ap)]:List ap)++xs)
def C1 (ws:List ap) (p:ap × ap × ap):List (ap × ap):=if p.1∈ws then [(p.2.1,p.2.2),(p.2.2,p.2.1)] else []
def HP (ws:List ap) (W:Wk):List (ap × ap):=W.orders++W.pairs.flatMap (C1 ws)
def EC (ws:List ap) (W:Wk) (a b:ap):Prop:=(a,b)∈HP ws W
theorem Ma (ws:List ap) (p:ap × ap × ap):(C1 ws p).length<=2:=by unfold C1;split <;> simp
theorem ud (ws:List ap):∀a:List (ap × ap × ap),(a.flatMap (C1 ws)).length<=2*a.length
 |[]=>l_ _
 |p::r=>by
  have c:=Ma ws p
  have b:=ud ws r
  simp only[List.flatMap_cons,b_,j_]
  omega
theorem Aj (h:mz W):(HP ws W).length<=52:=by
 have b:=ud ws W.pairs;have a:=h.os;have c:=h.ps;unfold HP;rw[b_];omega
def dF (F:List ap):List (ap × T):=F.map λz=>(z,T.bl ag)
theorem nu (z:ap):∀F:List ap,(aP z (dF F)).isSome=decide (z∈F)
 |[]=>rfl
 |y::r=>by
  have a:=nu z r
  unfold dF at a |-
  simp only[z_,aP]
  by_cases h:y=z
  ·
   simp [h]
  ·
   rw[y9 h,a]
   have h':¬z=y:=λe=>h e.symm
   simp [h']
theorem UJ (z:ap) (F:List ap):((dF F).any λb=>decide (b.1=z))=decide (z∈F):=by
 unfold dF;rw[pV];induction F with
 |nil=>rfl
 |cons y r a =>
 simp only[MQ,Function.comp_apply,a];by_cases h:y=z
 .simp [h]
 have h':¬z=y:=λe=>h e.symm;simp [h,h']
theorem UL (h:z∉F):AT z (T.bl ag) (dF F)=dF (F++[z]):=by
 unfold AT;rw[UJ,I_ h,y9 B_];unfold dF;rw[v_];rfl
theorem UT (F:List ap):(dF F).length=F.length:=d_ _
theorem UV (z:ap):[(z,T.bl ag)]=dF [z]:=rfl
theorem Hy (b:(∃a,x=.ref a/\H a=ab (.lst ts))\/x=.tup ts) (h:∀still:gV->Prop,(still=cC\/∃a,still=bZ a ts/\H a=ab (.lst ts))->R ts still H):Cg x H R:=by
 rcases b with ⟨a,rfl,e⟩ | rfl
 .rw[SM,e,lX];exact h _ (.inr ⟨a,rfl,e⟩)
 rw[SJ];exact h _ (.inl rfl)
def gM (W:Wk) (t:ap):List ap:=(W.tasks.map (·.1)).filter λx=>@decide (RT (EC ["with"] W) t x/\RT (EC ["with"] W) x t) (ay _)
def jG (W:Wk) (t:ap):List ap:=(W.tasks.map (·.1)).filter λx=>@decide (RT (EC ["with"] W) x t/\¬RT (EC ["with"] W) t x) (ay _)
def NV (o:ap × ap):ap × ap:=(o.2,o.1)
theorem UW {L:List (ap × ap)}:RT (λx y=>(x,y)∈L.map NV) a b↔RT (λx y=>(x,y)∈L) b a:=by
 have e:(λx y=>(x,y)∈L.map NV)=λx y:ap=>(y,x)∈L:=by funext x y;refine propext ⟨λh=>?_,λh=>k_.mpr ⟨(y,x),h,rfl⟩⟩;obtain⟨o,c,d⟩:=k_.mp h;obtain⟨g,f⟩:=o;cases d;exact c
 rw[e];exact LC
structure Hs (H:gV) (fs:List (ah × O3)):Prop where
 at':∀q∈fs,H q.1=ab q.2
 nd:(fs.map (·.1)).Nodup
def Yl (H:gV) (x:T) (b:List ap):Prop:=x=sT b\/∃a,x=.ref a/\H a=ab (.lst (b.map yy))
theorem Mf (h:Yl H x b) (q:Q (.bl (if c then !decide (y∈b) else decide (y∈b))) H):vm c (.str y) x H Q:=by
 have e:di c (yy y) (b.map yy)=(if c then !decide (y∈b) else decide (y∈b)):=by unfold di;have:(yy y∈b.map yy)↔y∈b:=gF iy;simp only[this]
 rcases h with rfl | ⟨a,rfl,d⟩
 .show vm c (.str y) (.tup (b.map yy)) H Q;rw[Od,e];exact⟨rfl,fc b,q⟩
 rw[Fl,d,Fo,e];exact⟨rfl,fc b,q⟩
def iJ (a:List ap) (k:ap):Bool:=decide (a=[])||decide (k∈a)
def j0 (W:Wk) (t:ap):List ap:=(W.pairs.filter λp=>decide (p.1=("apart":ap))&&decide (p.2.1=t)).map (·.2.2)
def LS (W:Wk) (a:ap) (D S:List ap) (t:ap × Int × List ap):Bool :=
 !decide (t.1∈D)&&iJ t.2.2 a&&@decide (∀x∈gM W t.1,x∈S) (ay _)&&@decide (∀x∈jG W t.1,x∈S++D) (ay _)&&@decide (∀x∈j0 W t.1,x∉S) (ay _)
def cB (ts:List (ap × Int × List ap)) (S:List ap):Int:=((ts.filter λt=>decide (t.1∈S)).map (·.2.1)).sum
def yz (W:Wk) (eG:Int) (a:ap) (D S:List ap):Bool:=(W.tasks.all λt=>!decide (t.1∈S)||LS W a D S t)&&decide (cB W.tasks S<=eG)
def B5 (W:Wk) (ns:List ap) (t:ap × Int × List ap):T:=.tup [.int (y3 ns [t.1]),.int t.2.1,sT t.2.2,.int (y3 ns (gM W t.1)),.int (y3 ns (jG W t.1)),.int (y3 ns (j0 W t.1))]
theorem yC (A:List (ap × Int × List ap)) (t:ap × Int × List ap) (S:List ap):cB (A++[t]) S=cB A S+if t.1∈S then t.2.1 else 0:=by
 unfold cB;rw[Ki,v_,kS];by_cases h:t.1∈S <;> simp [h]
theorem ue (a:x∈ns):(a5 (y3 ns A) (y3 ns [x])=y3 ns [x])↔x∈A:=by
 rw[gG];constructor
 .intro h;exact h x a ze
 intro h y _ b;rw[i_.mp b];exact h
end M
namespace L3
open L2
def Tx (o:Option O3) (a:ah) (H:gV) (Q:Z1):Prop:=match o with
 |some (.lst xs)=>oq (xs[xs.length - 1]?) λt=>Q t (eH H a (.lst xs.dropLast))
 |_=>False
def Hz:T->List T->gV->Z1->Prop:=λx ts H Q=>match x,ts with
 |.ref a,[]=>Tx (H a) a H Q
 |_,_=>False
theorem HB (a:ah) (H:gV) (Q:Z1):Hz (.ref a) [] H Q=Tx (H a) a H Q:=rfl
theorem PP (xs:List T) (a:ah) (H:gV) (Q:Z1):Tx (ab (.lst xs)) a H Q=oq (xs[xs.length - 1]?) λt=>Q t (eH H a (.lst xs.dropLast)):=rfl
theorem jj.dropLast {K:a3} (r:jj K H ts vs):jj K H ts.dropLast vs.dropLast:=by
 rw[la,la,r.length];exact r.take _
theorem U0:sX X "list.pop" Hz:=by
 refine E7.imp Rp ?_;rintro x xs H Q ⟨n,ts,H3,p,m,i,f,h,k⟩;cases n with
 |ref a =>
  cases ts with
  |cons _ _=>exact h.elim
  |nil =>
  rw[HB] at h;cases e:H3 a with
  |none=>rw[e] at h;exact h.elim
  |some o =>
  rw[e] at h;cases o with
  |lst d =>
   rw[PP] at h;obtain⟨j,b,r⟩:=f a _ e;cases c:d[d.length - 1]? with
   |none=>rw[c] at h;exact h.elim
   |some t =>
   rw[c,iu] at h;obtain⟨v,l,g⟩:=r.get c;refine⟨a,j,v,m.ref,i.inv0,b,by rw[<- r.length];exact l,k _ _ _ _ (bC (by rw[b];exact trivial)) (f.wrL b r.dropLast) (g.mono (bC (by rw[b];exact trivial))) h⟩
  |_=>exact h.elim
 |_=>exact h.elim
def TL (a b:ah) (o u:Option O3) (H:gV) (Q:Z1):Prop:=match o,u with
 |some (.rol xs),ab (.lst ys)=>a≠b/\xs.all (pl 20)=ag/\ys.all (pl 20)=ag/\Q (.bl (decide (xs=ys))) H
 |_,_=>False
def PQ:R3:=λx y H Q=>match x,y with
 |.ref a,.ref b=>TL a b (H a) (H b) H Q
 |_,_=>False
theorem PX (a b:ah) (H:gV) (Q:Z1):PQ (.ref a) (.ref b) H Q=TL a b (H a) (H b) H Q:=rfl
theorem HD (a b:ah) (xs c:List T) (H:gV) (Q:Z1):TL a b (ab (.rol xs)) (ab (.lst c)) H Q=(a≠b/\xs.all (pl 20)=ag/\c.all (pl 20)=ag/\Q (.bl (decide (xs=c))) H):=rfl
theorem U3 (E:X.A.units+30<db):dh X (be .Eq) PQ:=by
 intro n s Z H x y v u Q I L C h;obtain⟨F,J,H3,O,B,N,i,h,k⟩:=h;cases F with
 |ref a =>
  cases J with
  |ref b =>
   rw[PX] at h;cases g:H3 a with
   |none=>rw[g] at h;exact h.elim
   |some o =>
   cases l:H3 b with
   |none=>rw[g,l] at h;cases o <;> exact h.elim
   |some t =>
   rw[g,l] at h;cases o with
   |rol ts =>
    cases t with
    |lst us =>
     rw[HD] at h;obtain⟨xs,K,r⟩:=i.sqL (.inr g);obtain⟨P,G,w⟩:=i b _ l;cases B.ref;cases N.ref;cases L;cases C;obtain⟨m,c,p,_⟩:=I.list (X:=X) K;obtain⟨its',f,d,_⟩:=I.list (X:=X) (.of G);have M:m.length=ts.length:=by rw[<- c.length,<- r.length]
     have D:its'.length=us.length:=by rw[<- f.length,<- w.length]
     by_cases hsz:ts.length=us.length
     .refine sB (e:=λj=>decide (ts[j]?=us[j]?)) p.isList d.isList (by simp;omega) yT (oH I E h.2.1 h.2.2.1 r w c f) ⟨.bl _,H,I,rfl,?_⟩;have e:=oK (ts:=ts) (us:=us);rw[<- hsz,Nat.min_self,beq_self_eq_true,NA] at e;rw[p_,M,e];exact k _ _ _ _ .refl i .ofBl h.2.2.2
     refine SeqAt.eq_list_lengthsAt p.isList d.isList (by simp;omega) yT ⟨.bl am,H,I,rfl,?_⟩;have e:decide (ts=us)=am:=I_ λz=>hsz (by rw[z]);have q:=h.2.2.2;rw[e] at q;exact k _ _ _ _ .refl i .ofBl q
    |_=>exact h.elim
   |_=>cases t <;> exact h.elim
  |_=>exact h.elim
 |_=>exact h.elim
end L3
namespace M
open L2 L3
local macro_rules | `(tactic| walk_at "c") => `(tactic| try dsimp only [u6,a4,z_,DH,OZ,sD,KA,Pd,rV])
local macro_rules | `(tactic| walk_at "n") => `(tactic| (obtain ⟨e⟩:=‹NY (_ = _)›; subst e; try dsimp only))
local macro_rules | `(tactic| walk_at "") => do
 let ls <- ((YO.splitOn " ").toArray.map String.toName).filterM λn => do return !(<- Lean.Macro.resolveGlobalName n).isEmpty
 let ls <- ls.mapM λn => let i:=Lean.mkIdent n; `(Lean.Parser.Tactic.simpLemma| $i:ident)
 `(tactic| ((try dsimp only [$[$ls:simpLemma],*]); try simp only [*,$[$ls:simpLemma],*]))
local macro_rules | `(tactic| walk_at "h") => `(tactic| have hsz:ai=16777216:=rfl)
local macro_rules | `(tactic| walk_at "t") => `(tactic| refine ⟨zC,?_⟩)
local macro_rules | `(tactic| walk_at "s") => `(tactic| (refine aq λR h=>?_; walk_at ""))
theorem q5 (n:ap) (N:List ap) (t:T) (s:List T):aM (n::N) (t::s)=ab t::aM N s:=by simp [aM]
theorem WE (n:ap) (N:List ap):aM (n::N) []=af::aM N []:=by simp [aM,List.replicate_succ]
theorem X0:aM [] []=[]:=rfl
theorem WH (a b c d):Wk.enc ⟨a,b,c,d⟩=yA [yA (a.map AE),yA (b.map AG),yA (c.map AW),yA (d.map yy)]:=rfl
local macro_rules | `(tactic| walk_at "q") => `(tactic| simp only [q5,WE,X0,WH])
local macro_rules | `(tactic| walk_at "l") => `(tactic| (intro _ _ _ h; first | (obtain ⟨_,e,_⟩:=h; subst e; rfl) | (obtain ⟨_,_,e,_⟩:=h; subst e; rfl) | (obtain ⟨_,_,_,e,_⟩:=h; subst e; rfl) | (obtain ⟨_,_,_,_,e,_⟩:=h; subst e; rfl) | (obtain ⟨_,_,_,_,_,e,_⟩:=h; subst e; rfl) | (obtain ⟨_,_,_,_,_,_,e,_⟩:=h; subst e; rfl) | (obtain ⟨_,_,_,_,_,_,_,e,_⟩:=h; subst e; rfl) | (obtain ⟨_,_,_,_,_,_,_,_,e,_⟩:=h; subst e; rfl) | (obtain ⟨_,_,_,_,_,_,_,_,_,e,_⟩:=h; subst e; rfl) | (obtain ⟨_,_,_,_,_,_,_,_,_,_,e,_⟩:=h; subst e; rfl) | (obtain ⟨_,_,_,_,_,_,_,_,_,_,_,e,_⟩:=h; subst e; rfl) | (obtain ⟨_,_,_,_,_,_,_,_,_,_,_,_,e,_⟩:=h; subst e; rfl) | (obtain ⟨_,_,_,_,_,_,_,_,_,_,_,_,_,e,_⟩:=h; subst e; rfl) | (obtain ⟨_,_,_,_,_,_,_,_,_,_,_,_,_,_,e,_⟩:=h; subst e; rfl)))
theorem n7 (l:List ap) (h:l.Nodup:=by decide +kernel):l.Nodup:=h
theorem b6 (i:Nat) (N N':List ap) (nt:Nat) (cap:List Nat) {X}{scope} (c:X.env.scope.names=(aA (yY i)).names:=by rfl) (o:X.N=N:=by rfl) (h:BA (aA (yY i)).names N (scope.kind==.function) scope.names N' nt cap=ag:=by decide +kernel):IE X N' nt cap scope:=bz c o h
theorem c6 {P:bX}{w:bP}{K:a3}{mg:ap->Option av}{base:cK}{k:Nat}{sp:Au}{N ps:List ap}{f:ah}{fd:de}{x:ap}{st:eB} (F:G3 K mg x st ps f fd) (S:fY N ps (aA st)) (cb:∀(c:av) (A:eD) (a:List x8) (s:aE) (H:Hp) (E:XK) (ts:List T) (H3:gV) (Q:Z1),Pr k (A.deeper (i7 x (aA st) s.heap.objs.size f c))->sp ts H3 Q ->
   ∃t,sW (xH Lo P w K mg base N x (aA st) f c A a s H E).nox (cH st) t/\t { nx:=λ_ H'=>My Q .non H',rt:=My Q} (aM N ts) H3) (gl:∀ts H Q,sp ts H Q->ts.length=ps.length:=by walk_at "l"):R8 P w K mg base (k+1) x st ps sp:=⟨f,fd,F,LN F.fn S gl cb⟩
structure g8 (p:Prop):Prop where
 out:p
structure Cl (H:gV) (a:ah):Prop where
 ex:∃ns:List Int,H a=ab (.lst (ns.map yv))/\ns.length<=504
structure Co (a:ah) (H H':gV):Prop where
 cl:Cl H' a
 off:∀b,b≠a->H' b=H b
theorem Cl.refl (D:Cl H a):Co a H H:=⟨D,λ_ _=>rfl⟩
theorem Cl.ne (D:Cl H a) (b:H p=af):p≠a:=λe=>by obtain⟨ns,h,_⟩:=D.ex;rw[<- e,b] at h;cases h
theorem Cl.new (D:Cl H a) (h:p≠a):Cl (eH H p u) a:=by
 obtain⟨ns,e,r⟩:=D.ex;exact⟨ns,by rw[aD (aS h)];exact e,r⟩
def A4 (a:ah) (H H':gV):Prop:=∀b o,H b=ab o->b≠a->H' b=ab o
theorem A4.refl:A4 a H H:=λ_ _ h _=>h
theorem A4.drw (x:A4 a H d) (y:Co a d c):A4 a H c:=λb o h e=>by rw[y.off b e];exact x b o h e
theorem A4.new (x:A4 a H c) (d:c p=af):A4 a H (eH c p u):=λb o h e=>by
 have:=x b o h e;rw[aD (aR this d)];exact this
theorem A4.at (x:A4 a H c) (d:H p=af):A4 a H (eH c p u):=λb o h e=>by
 rw[aD (aR h d)];exact x b o h e
theorem A4.sub (x:A4 a H d) (s:gb d c):A4 a H c:=λb o h e=>s b o (x b o h e)
theorem jh (D:Cl H' a) (k:A4 a H H') (q:∀H'',Co a H H''->Q v H''):My Q v H':=by
 refine⟨λb=>if b=a then H' b else H b,λb o c=>?_,q _ ⟨?_,λb d=>?_⟩⟩
 .by_cases h:b=a
  .simp only[h,if_true] at c |-;exact c
  simp only[h,Y_] at c;exact k b o c h
 .obtain⟨ns,e,r⟩:=D.ex;exact⟨ns,by simp only[if_true];exact e,r⟩
 simp only[d,Y_]
structure Wt (c:ah) (H0 H:gV) (fs:List (ah × O3)):Prop where
 cl:Cl H c
 kp:A4 c H0 H
 at':∀p∈fs,H p.1=ab p.2/\p.1≠c
theorem Wt.drw (w:Wt c b H e) (d:Co c H H'):Wt c b H' e:=⟨d.cl,w.kp.drw d,λp a=>⟨by rw[d.off _ (w.at' p a).2];exact (w.at' p a).1,(w.at' p a).2⟩⟩
theorem Wt.new (w:Wt c d H e) (b:H p=af):Wt c d (eH H p o) ((p,o)::e):=⟨w.cl.new (w.cl.ne b),w.kp.new b,λq a=>by
 rcases o_.mp a with rfl | a
 .exact⟨aC,w.cl.ne b⟩
 exact⟨by rw[aD (aR (w.at' q a).1 b)];exact (w.at' q a).1,(w.at' q a).2⟩⟩
theorem Wt.hd (w:Wt c a H ((p,o)::b)):H p=ab o:=(w.at' (p,o) n_).1
theorem Wt.tl (w:Wt c a H (q::b)):Wt c a H b:=⟨w.cl,w.kp,λp d=>w.at' p (A_ _ d)⟩
theorem Wt.set (w:Wt c b H ((p,o)::d)) (e:b p=af) (h:∀q∈d,q.1≠p) (f:O3):Wt c b (eH H p f) ((p,f)::d) :=
 have g:=(w.at' (p,o) n_).2
 ⟨w.cl.new g,w.kp.at e,λq a=>by
  rcases o_.mp a with rfl | a
  ·
   exact⟨aC,g⟩
  ·
   exact⟨by rw[aD (h q a)];exact (w.at' q (A_ _ a)).1,(w.at' q (A_ _ a)).2⟩⟩
theorem Wt.fresh (w:Wt c a H d) (b:H p=af):a p=af:=by
 cases e:a p with
 |none=>rfl
 |some o=>rw[w.kp p o e (w.cl.ne b)] at b;cases b
def P0:Au:=λts H Q=>∃(a:ah) (ns:List Int),ts=[.ref a]/\H a=ab (.rol (ns.map yv))/\ns.length<=63/\∀(p:ah) (H':gV),gb H H'->H p=af->Cl H' p->Q (.ref p) H'
def pC:Au:=λts H Q=>∃(d:ah) (m:Int),ts=[.ref d,.int m]/\0<m/\Cl H d/\∀(n:Int) (H':gV),0<=n->n<m->Co d H H'->Q (.int n) H'
def U4:Au:=λts H Q=>∃(d:ah) (m:Int),ts=[.ref d,.int m]/\0<m/\Cl H d/\∀(n:Int) (H':gV),0<=n->n<m->Co d H H'->Q (.int n) H'
theorem gO (D:Cl H' d) (k:A4 d H H') (c:H' p=ab o) (g:H p=af) (f:p≠d) (q:∀H1,Co d H H1->H1 p=af->Q (.ref p) (eH H1 p o)):My Q (.ref p) H':=by
 refine⟨eH (λb=>if b=d then H' b else H b) p o,λb u a=>?_,q _ ⟨?_,λb i=>?_⟩ ?_⟩
 .by_cases e:b=p
  .subst e;rw[aC] at a;rw[c];exact a
  rw[aD e] at a;by_cases h:b=d
  .simp only[h,if_true] at a |-;exact a
  simp only[h,Y_] at a;exact k b u a h
 .obtain⟨ns,e,r⟩:=D.ex;exact⟨ns,by simp only[if_true];exact e,r⟩
 .simp only[i,Y_]
 simp only[f,Y_];exact g
theorem Wt.swap (w:Wt c b H [(p,o),(q,u)]):Wt c b H [(q,u),(p,o)]:=⟨w.cl,w.kp,λx a=>w.at' x (by
 rcases o_.mp a with rfl | a
 ·
  simp
 ·
  rw[i_.mp a];simp)⟩
def Mg:Au:=λts H Q=>∃(d a:ah) (xs:List T),ts=[.ref d,.ref a]/\a≠d/\H a=ab (.lst xs)/\xs.all (pl 20)=ag/\xs.length<=60/\Cl H d/\∀(c:List T) (b:gV) (p:ah),c.Perm xs->Co d H b->b p=af->Q (.ref p) (eH b p (.lst c))
theorem Mh {a:Type}{xs:List a} (h:j<xs.length):(xs[j]::xs.eraseIdx j).Perm xs:=by
 have e:xs=xs.take j++xs[j]::xs.drop (j+1):=by rw[<- PR h];exact (PM j xs).symm
 rw[List.eraseIdx_eq_take_drop_succ];exact List.perm_middle.symm.trans (by rw[<- e])
theorem U5 {xs:List T}(h:xs.all (pl 20)=ag) (j:Nat):(xs.eraseIdx j).all (pl 20)=ag:=by
 rw[W_] at h |-;exact λt a=>h t (List.mem_of_mem_eraseIdx a)
theorem fX (n:Nat):dM 0 n=(ae n).map λ(i:Nat)=>yv (i:Int):=by
 unfold dM;exact C7 λi _=>by rw[Int.zero_add]
theorem cM (s:gb H H') (a:H' p=af):H p=af:=by
 cases e:H p with
 |none=>rfl
 |some o=>rw[s _ _ e] at a;cases a
theorem HF (ns:List Int) (b:ns.length<=63):∃a:List Int,1<=a.length/\a.length<=63/\gC (ns.map yv) af (ab 63)++(a4 (if decide (ns.map yv=[])=ag then (1:Int) else 0).toNat [yv 0]).flatten=a.map yv:=by
 have e:gC (ns.map yv) af (ab 63)=ns.map yv:=by rw[show (63:Int)=((63:Nat):Int) from rfl,Sy,M0 (by rw[d_];exact b)]
 rw[e];cases ns with
 |nil=>exact⟨[0],y6,y6,rfl⟩
 |cons n r=>exact⟨n::r,ze,b,ze⟩
theorem Mi (ns:List Int):(ns.map yv).all (pl 20)=ag:=by rw[W_];intro t a;obtain⟨x,_,rfl⟩:=k_.mp a;rfl
structure Nb (H0 H:gV) (pc pf:ah) (cs fs:List Int):Prop where
 sb:gb H0 H
 c:H pc=ab (.lst (cs.map yv))
 f:H pf=ab (.lst (fs.map yv))
 f0:H0 pf=af
 ne:pc≠pf
theorem Nb.new (x:Nb b H d g e h) (a:H p=af):Nb b (eH H p o) d g e h :=
 ⟨x.sb.trans (gb.new a),by rw[aD (aR x.c a)];exact x.c,by rw[aD (aR x.f a)];exact x.f,x.f0,x.ne⟩
theorem Nb.put {f H:gV} (x:Nb f H g b h d) (z:Int):Nb f (eH H b (.lst (d.map yv++[yv z]))) g b h (d++[z]) :=
 ⟨λa u e=>by rw[aD (aR e x.f0)];exact x.sb a u e,by rw[aD x.ne];exact x.c,by rw[aC,v_];rfl,x.f0,x.ne⟩
theorem HH (ns:List Int) (n:Int):((ns++[n]).map yv)[((ns++[n]).map yv).length - 1]?=ab (yv n):=by simp
theorem Df (ns:List Int) (n:Int):((ns++[n]).map yv).dropLast=ns.map yv:=by simp
def Ym:Au:=λts H Q=>∃(d:ah) (m:Nat),ts=[.ref d,.int (m:Int)]/\m<=8/\Cl H d/\∀(b:List Int) (a:gV) (p:ah),b.length=m->(∀l∈b,1<=l/\l<10^60)->Co d H a->a p=af->Q (.ref p) (eH a p (.lst (b.map yv)))
theorem US:(10:Int)^d4 60=1000000000000000000000000000000000000000000000000000000000000:=by decide
theorem Xs:(10:Int)^d4 58=10000000000000000000000000000000000000000000000000000000000:=by decide
theorem Yn:(10:Int)^60=1000000000000000000000000000000000000000000000000000000000000:=by decide
theorem Ts:∀(ws:List ap) (f:Nat->ap),(∀i j,i<=ws.length->j<=ws.length->f i=f j->i=j)->(∀i,i<=ws.length->f i∈ws)->False
 |[],f,_,h=>by have:=h 0 (l_ _);simp at this
 |w::ws,f,inj,h=>by
  rw[j_] at inj h
  by_cases q:∃j,j<=ws.length+1/\f j=w
  ·
   obtain⟨j,g,e⟩:=q
   refine Ts ws (λi=>if i<j then f i else f (i+1)) (λa b l k c=>?_) (λi m=>?_)
   ·
    try dsimp only at c
    split at c <;> split at c
    ·
     exact inj a b yT yT c
    ·
     have:=inj a (b+1) yT yT c;omega
    ·
     have:=inj (a+1) b yT yT c;omega
    ·
     have:=inj (a+1) (b+1) yT yT c;omega
   ·
    show (if i<j then f i else f (i+1))∈ws
    split
    ·
     exact (o_.mp (h i yT)).resolve_left λd=>by have:=inj i j yT g (d.trans e.symm);omega
    ·
     exact (o_.mp (h (i+1) yT)).resolve_left λd=>by have:=inj (i+1) j yT g (d.trans e.symm);omega
  ·
   exact Ts ws f (λa b l k=>inj a b yT yT) λi m=>(o_.mp (h i yT)).resolve_left λe=>q ⟨i,yT,e⟩
def dg:Nat->Int->List Nat
 |0,_=>[]
 |n+1,l=>(97+(l%26).toNat)::dg n (l / 26)
theorem yD:∀(n:Nat) (l:Int),(dg n l).length=n
 |0,_=>rfl
 |n+1,l=>by rw[dg,j_,yD n]
theorem Qa:∀(n:Nat) (l:Int),∀c∈dg n l,97<=c/\c<=122
 |0,_,_,h=>nomatch h
 |n+1,l,c,h=>by
  rw[dg] at h
  have:=GV l (show (0:Int)<26 by decide)
  rcases o_.mp h with rfl | h
  ·
   omega
  ·
   exact Qa n _ c h
theorem U6 {i j:Nat} (f:i<=25) (c:j<=25) (h:AU (dg (n+1) (a+i))=AU (dg (n+1) (a+j))):i=j:=by
 have e:=Ai h;rw[dg,dg,LV] at e;have b:=e.1;have d:=FH (a+i) (show (26:Int)≠0 by decide);have g:=FH (a+j) (show (26:Int)≠0 by decide);omega
def Yo:Au:=λts H Q=>∃(c:Nat) (b:Int) (a:ah) (ws:List ap),ts=[.int (c:Int),.int b,.ref a]/\1<=c/\c<=8/\H a=ab (.lst (ws.map yy))/\ws.length<=8/\∀x,AN x->x∉ws->Q (.str x) H
def KU (l:List Nat) (a s i:Nat):ap:=AU (l.take a++[97+(((s:Int)+(i:Int))%26).toNat]++l.drop (a+1))
theorem U7 (f:l.length<=8) (g:a<l.length) (e:∀c∈l,97<=c/\c<=122):AN (KU l a s i):=by
 have d:(l.take a++[97+(((s:Int)+(i:Int))%26).toNat]++l.drop (a+1)).length=l.length:=by rw[b_,b_,FG,KM,E_];omega
 refine PN (by rw[d];omega) (by rw[d];exact f) λc b=>?_;rcases F_.mp b with b | b
 .rcases F_.mp b with b | b
  .exact e c (List.mem_of_mem_take b)
  rw[i_.mp b];have:=GV ((s:Int)+(i:Int)) (show (0:Int)<26 by decide);omega
 exact e c (List.mem_of_mem_drop b)
theorem Mj (f:i<26) (c:j<26) (h:KU l a s i=KU l a s j):i=j:=by
 have e:=Ai h;rw[EF,EF,List.append_cancel_left_eq,k9,k9,LV] at e;have b:=e.1;have d:=FH ((s:Int)+(i:Int)) (show (26:Int)≠0 by decide);have g:=FH ((s:Int)+(j:Int)) (show (26:Int)≠0 by decide);omega
theorem Ml (e:l.length<=8) (g:a<l.length) (f:∀c∈l,97<=c/\c<=122) (k:m<=8):BQ ((ae m).map (KU l a s)):=by
 refine⟨λx b=>?_,?_⟩
 .obtain⟨i,_,rfl⟩:=k_.mp b;exact U7 e g f
 rw[n9,Nd];refine SY (λ{x y} b j d h=>?_) (ke (n:=m));have p:=K_.mp b;have o:=K_.mp j;exact d (Mj yT yT h)
def U8:Au:=λts H Q=>∃(d:ah) (m:Nat),ts=[.ref d,.int (m:Int)]/\1<=m/\m<=8/\Cl H d/\∀(ws:List ap) (a:gV) (p:ah),ws.length=m->BQ ws->Co d H a->a p=af->Q (.ref p) (eH a p (.lst (ws.map yy)))
structure Tb (H0 H:gV) (p:ah) (m:Nat) (as:List ah):Prop where
 sb:gb H0 H
 l:as.length=m
 t:H p=ab (.lst (as.map yB))
 r:∀a∈as,∃bs:List Bool,bs.length=m/\H a=ab (.lst (bs.map T.bl))
 np:p∉as
 f0:H0 p=af
 fa:∀a∈as,H0 a=af
structure Pw (H0 H:gV) (m:Nat) (as:List ah):Prop where
 sb:gb H0 H
 r:∀a∈as,∃bs:List Bool,bs.length=m/\H a=ab (.lst (bs.map T.bl))
 fa:∀a∈as,H0 a=af
theorem Pw.grow {b:List Bool} (x:Pw e H m g) (i:b.length=m) (c:H q=af):Pw e (eH H q (.lst (b.map T.bl))) m (g++[q]):=by
 refine⟨x.sb.trans (gb.new c),λa d=>?_,λa d=>?_⟩
 .rcases F_.mp d with h | h
  .obtain⟨j,k,f⟩:=x.r a h;exact⟨j,k,by rw[aD (aR f c)];exact f⟩
  rw[i_.mp h];exact⟨b,i,aC⟩
 rcases F_.mp d with h | h
 .exact x.fa a h
 rw[i_.mp h];exact cM x.sb c
theorem Tb.put {c:List Bool} (x:Tb h H p m g) (i:a∈g) (j:c.length=m):Tb h (eH H a (.lst (c.map T.bl))) p m g:=by
 have d:p≠a:=λe=>x.np (e▸i);refine⟨λb u e=>by rw[aD (aR e (x.fa a i))];exact x.sb b u e,x.l,by rw[aD d];exact x.t,λb f=>?_,x.np,x.f0,x.fa⟩;by_cases e:b=a
 .subst e;exact⟨c,j,aC⟩
 obtain⟨k,o,n⟩:=x.r b f;exact⟨k,o,by rw[aD e];exact n⟩
theorem Tb.at' (x:Tb e H p m b) (g:i<m):∃(a:ah) (c:List Bool),AA (b.map yB) (i:Int)=ab (.ref a)/\a∈b/\c.length=m/\H a=ab (.lst (c.map T.bl)):=by
 have d:i<b.length:=by rw[x.l];exact g
 obtain⟨c,h,f⟩:=x.r _ (C6 d);exact⟨b[i],c,bQ (by rw[u_,g_ d];rfl),C6 d,h,f⟩
theorem pF {a:List Bool} (h:j<a.length):∃b,AA (a.map T.bl) (j:Int)=ab (.bl b):=⟨a[j],bQ (by rw[u_,g_ h];rfl)⟩
def Yp:Au:=λts H Q=>∃(m:Nat) (a:ah) (b:List T),ts=[.int (m:Int),.ref a]/\m<=8/\H a=ab (.lst b)/\b.all (pl 20)=ag/\∀(p:ah) (c:List ah) (H':gV),Tb H H' p m c->Q (.ref p) H'
def bw (b:Bool):ap:=if b then "with" else "apart"
def C8 (x:Bool × Nat × Nat):T:=.tup [.str (bw x.1),.int (x.2.1:Int),.int (x.2.2:Int)]
def NM (b:Bool) (m i:Nat):List (Bool × Nat × Nat):=(ae m).map λj=>(b,i,j)
def FS (b:Bool) (m:Nat) (A:List Nat):List (Bool × Nat × Nat):=A.flatMap (NM b m)
def RH (m:Nat):List (Bool × Nat × Nat):=FS ag m (ae m)++FS am m (ae m)
theorem Mm:∀m:_root_.Fin 9,(RH m.val).Nodup:=by decide +kernel
theorem vY (b:Bool) (m:Nat) (A:List Nat) (i:Nat):FS b m (A++[i])=FS b m A++NM b m i:=by simp [FS]
structure Tq (d:ah) (H0 H:gV) (p:ah) (m:Nat) (as:List ah):Prop where
 l:as.length=m
 t:H p=ab (.lst (as.map yB))
 r:∀a∈as,∃bs:List Bool,bs.length=m/\H a=ab (.lst (bs.map T.bl))
 f0:H0 p=af
 fa:∀a∈as,H0 a=af
 nd:p≠d
 na:∀a∈as,a≠d
theorem Tq.drw (x:Tq d b H p m e) (D:Co d H H'):Tq d b H' p m e :=
 ⟨x.l,by rw[D.off _ x.nd];exact x.t,λa c=>by obtain⟨f,h,g⟩:=x.r a c;exact⟨f,h,by rw[D.off _ (x.na a c)];exact g⟩,x.f0,x.fa,x.nd,x.na⟩
theorem Tq.new (x:Tq d c H p m f) (b:H q=af):Tq d c (eH H q o) p m f :=
 ⟨x.l,by rw[aD (aR x.t b)];exact x.t,λa h=>by obtain⟨g,i,e⟩:=x.r a h;exact⟨g,i,by rw[aD (aR e b)];exact e⟩,x.f0,x.fa,x.nd,x.na⟩
theorem Tq.at' (x:Tq d f H p m b) (h:i<m):∃(a:ah) (c:List Bool),AA (b.map yB) (i:Int)=ab (.ref a)/\a∈b/\c.length=m/\H a=ab (.lst (c.map T.bl)):=by
 have e:i<b.length:=by rw[x.l];exact h
 obtain⟨c,j,g⟩:=x.r _ (C6 e);exact⟨b[i],c,bQ (by rw[u_,g_ e];rfl),C6 e,j,g⟩
structure PI (d:ah) (H0 H:gV) (pp pe a:ah) (ws:List ap) (ps:List (Bool × Nat × Nat)) (es:List T):Prop where
 w:Wt d H0 H [(pp,.lst (ps.map C8)),(pe,.lst es),(a,.lst (ws.map yy))]
 ne:pe≠pp
 na:a≠pp
 l12:ps.length<=12
 ea:es.all (pl 20)=ag
 el:es.length<=28+2*ps.length
 ok:∀x∈ps,x.2.1≠x.2.2/\x.2.1<ws.length/\x.2.2<ws.length
theorem PI.drw (x:PI d e H g c a ws b f) (D:Co d H H'):PI d e H' g c a ws b f:={ x with w:=x.w.drw D}
theorem PI.add (x:PI d k H e t a ws b g) (B:k e=af) (s:b.length<12) (A:y.2.1≠y.2.2/\y.2.1<ws.length/\y.2.2<ws.length) (j:eH H e (.lst ((b++[y]).map C8)) i=af) (m:eH (eH H e (.lst ((b++[y]).map C8))) i o q=af) (u:f.all (pl 20)=ag) (p:f.length=2):PI d k (eH (eH (eH H e (.lst ((b++[y]).map C8))) i o) q (.lst (g++f))) e q a ws (b++[y]) (g++f):=by
 have v:=x.w.set B (λr c=>by
  rcases o_.mp c with rfl | c
  ·
   exact x.ne
  ·
   rw[i_.mp c];exact x.na) (.lst ((b++[y]).map C8))
 have n:=(v.new (o:=o) j).tl;have l:=n.new (o:=.lst (g++f)) m;refine⟨⟨l.cl,l.kp,λr c=>l.at' r ?_⟩,aS (aR n.hd m),x.na,by rw[b_,E_];omega,by rw[sK,x.ea,u];rfl,by have:=x.el;rw[b_,b_,E_,p];omega,λz hz=>?_⟩
 .simp only[o_,B8,B7] at c |-;rcases c with h | h | h
  .exact .inr (.inl h)
  .exact .inl h
  exact .inr (.inr (.inr h))
 rcases F_.mp hz with h | h
 .exact x.ok z h
 rw[i_.mp h];exact A
theorem PI.add1 (x:PI d f H c g a ws b i) (l:f c=af) (j:b.length<12) (k:y.2.1≠y.2.2/\y.2.1<ws.length/\y.2.2<ws.length):PI d f (eH H c (.lst ((b++[y]).map C8))) c g a ws (b++[y]) i:=by
 refine⟨x.w.set l (λr e=>by
  rcases o_.mp e with rfl | e
  ·
   exact x.ne
  ·
   rw[i_.mp e];exact x.na) _,x.ne,x.na,by rw[b_,E_];omega,x.ea,by have:=x.el;rw[b_,E_];omega,λz hz=>?_⟩
 rcases F_.mp hz with h | h
 .exact x.ok z h
 rw[i_.mp h];exact k
theorem PI.sub (x:PI d f H h e a ws b g) (s:gb H H'):PI d f H' h e a ws b g:=by
 refine { x with w:=⟨?_,x.w.kp.sub s,λq c=>⟨s _ _ (x.w.at' q c).1,(x.w.at' q c).2⟩⟩};obtain⟨ns,j,i⟩:=x.w.cl.ex;exact⟨ns,s _ _ j,i⟩
theorem Tb.tq (x:Tb H H' p m n) (c:Cl H d) (k:A4 d g H):Tq d g H' p m n:=by
 have h:∀b,H b=af->b≠d:=λb f=>c.ne f;have j:∀b,H b=af->g b=af:=λb f=>by
  cases e:g b with
  |none=>rfl
  |some o=>rw[k b o e (h b f)] at f;cases f
 exact⟨x.l,x.t,x.r,j _ x.f0,λa i=>j a (x.fa a i),h _ x.f0,λa i=>h a (x.fa a i)⟩
theorem Tq.set (x:Tq d c H p m b) (i:p≠q) (h:∀a∈b,a≠q):Tq d c (eH H q o) p m b :=
 ⟨x.l,by rw[aD i];exact x.t,λa e=>by obtain⟨f,g,j⟩:=x.r a e;exact⟨f,g,by rw[aD (h a e)];exact j⟩,x.f0,x.fa,x.nd,x.na⟩
theorem fZ {g k:Type}{f:g->k}:∀{i xs:List k},i.Perm xs->∀l:List g,xs=l.map f->∃c:List g,c.Perm l/\i=c.map f:=by
 intro i xs h;induction h with
 |nil=>intro l e;rw[MG.mp e.symm];exact⟨[],ME _,rfl⟩
 |cons x _ n =>
  intro l e;cases l with
  |nil=>cases e
  |cons a r =>
  rw[z_,LV] at e;obtain⟨c,w,q⟩:=n r e.2;exact⟨a::c,w.cons a,by rw[z_,q,e.1]⟩
 |swap x y t =>
  intro l e;cases l with
  |nil=>cases e
  |cons a r =>
  cases r with
  |nil=>rw[z_,LV] at e;cases e.2
  |cons b r =>
  rw[z_,z_,LV,LV] at e;exact⟨b::a::r,wE a b r,by rw[z_,z_,<- e.1,<- e.2.1,<- e.2.2]⟩
 |trans _ _ d j =>
 intro l e;obtain⟨u,v,p⟩:=j l e;obtain⟨m,s,o⟩:=d u p;exact⟨m,s.trans v,o⟩
def DV (ws:List ap) (x:Bool × Nat × Nat):ap × ap × ap:=(bw x.1,ws.getD x.2.1 "",ws.getD x.2.2 "")
theorem gP {ws:List ap} (h:ws.Nodup) (b:i<ws.length) (a:j<ws.length) (e:ws.getD i ""=ws.getD j ""):i=j:=by
 rw[y_,y_,g_ b,g_ a] at e;have d:ws[i]=ws[j]:=e;have c:=L0.mp h;rcases iF i j with q | q | q
 .exact As d (c i j b a q)
 .exact q
 exact As d.symm (c j i a b q)
theorem U9 (h:ws.Nodup) {c:List (Bool × Nat × Nat)} (l:c.Nodup) (i:∀x∈c,x.2.1≠x.2.2/\x.2.1<ws.length/\x.2.2<ws.length):(c.map (DV ws)).Nodup:=by
 rw[n9,Nd];refine SY (λ{x y} j s b a=>b ?_) l;have e:=i x j;have f:=i y s;obtain⟨g,q,r⟩:=x;obtain⟨d,o,p⟩:=y;simp only[DV,ng] at a;have k:q=o:=gP h e.2.1 f.2.1 a.2.1;have n:r=p:=gP h e.2.2 f.2.2 a.2.2;have m:g=d:=by have:=a.1;cases g <;> cases d <;> first | rfl | (exact As this Ap)
 rw[k,n,m]
theorem Va (h:ws.Nodup) (o:x.2.1≠x.2.2/\x.2.1<ws.length/\x.2.2<ws.length):((DV ws x).1="with"\/(DV ws x).1="apart")/\(DV ws x).2.1≠(DV ws x).2.2/\(DV ws x).2.1∈ws/\(DV ws x).2.2∈ws:=by
 have a:∀i,i<ws.length->ws.getD i ""∈ws:=λi c=>by rw[y_,g_ c];exact C6 c
 refine⟨?_,λe=>o.1 (gP h o.2.1 o.2.2 e),a _ o.2.1,a _ o.2.2⟩;obtain⟨b,i,j⟩:=x;cases b
 .exact .inr rfl
 exact .inl rfl
theorem BB {ws:List ap} (h:i<ws.length):AA (ws.map yy) (i:Int)=ab (.str (ws.getD i "")):=bQ (by rw[u_,g_ h,y_,g_ h];rfl)
theorem yE {a:Type}{b E:List a}{y:a}(h:b.Sublist E):(b++[y]).Sublist (E++[y]):=h.append (Pi _)
theorem yF {a:Type}{b E:List a}{y:a}(h:b.Sublist E):b.Sublist (E++[y]):=h.trans (List.sublist_append_left _ _)
def Yq:Au:=λts H Q=>∃(d a o:ah) (ws:List ap) (c:List T) (b:Int),ts=[.ref d,.ref a,.ref o,.int b]/\1<=b/\b<=100/\a≠d/\o≠d/\H a=ab (.lst (ws.map yy))/\BQ ws/\ws.length<=8/\H o=ab (.lst c)/\c.all (pl 20)=ag/\c.length<=28/\Cl H d /\
 ∀(AC:List (ap × ap × ap)) (p:ah) (e:List ah) (H':gV),AC.length<=12->AC.Nodup->(∀x∈AC,(x.1="with"\/x.1="apart")/\x.2.1≠x.2.2/\x.2.1∈ws/\x.2.2∈ws)->Cl H' d->A4 d H H'->Tq d H H' p ws.length e->Q (.tup [.tup (AC.map AW),.ref p]) H'
theorem Yr (a:List (Bool × Nat × Nat)):(a.map C8).all (pl 20)=ag:=by rw[W_];intro t b;obtain⟨x,_,rfl⟩:=k_.mp b;rfl
def Ys:Au:=λts H Q=>∃(d a:ah) (c:ap) (ws:List ap),ts=[.ref d,.str c,.ref a]/\a≠d/\H a=ab (.lst (ws.map yy))/\BQ ws/\ws.length<=8/\AN c/\Cl H d/\∀(b:List ap) (H':gV),BQ b->b.length<=4->Co d H H'->Q (.tup (b.map yy)) H'
theorem BQ.ins (h:BQ ws) (b:AN x) (c:x∉ws):BQ (ws.take i++x::ws.drop i):=by
 have a:(ws.take i++x::ws.drop i).Perm (x::ws):=List.perm_middle.trans (by rw[PM]);refine⟨λy d=>?_,a.nodup_iff.mpr (DJ.mpr ⟨c,h.nd⟩)⟩;rcases o_.mp (a.mem_iff.mp d) with rfl | h'
 .exact b
 exact h.nm y h'
theorem HJ {ws:List ap} (h:y∈ws.take i++x::ws.drop i):y=x\/y∈ws:=by
 have a:(ws.take i++x::ws.drop i).Perm (x::ws):=List.perm_middle.trans (by rw[PM]);exact o_.mp (a.mem_iff.mp h)
theorem vZ (e:ae m=A++i::B):i=A.length:=by
 have h:=Q_ (λl=>l[A.length]?) e;simp only[M_ (l_ _),pz,KA] at h;have a:A.length<m:=by have:=Q_ aT e;simp only[m_,b_,j_] at this;omega
 rw[CI a] at h;exact (T_ h).symm
theorem rT (e:ae m=A++B):A=ae A.length:=by
 have h:=Q_ (List.take A.length) e;rw[fI,List.take_range] at h
 .have a:A.length<=m:=by have:=Q_ aT e;simp only[m_,b_] at this;omega
  rw[fF a] at h;exact h.symm
 rfl
structure KI (d:ah) (H3 H0 H:gV) (pf pc r a t:ah) (row ws:List ap) (m:Nat) (as:List ah) (cs:List ap) (ks:List (List ap)):Prop where
 w:Wt d H3 H [(pf,.lst (ks.map sT)),(pc,.lst (cs.map yy)),(r,.lst (row.map yy)),(a,.lst (ws.map yy))]
 tq:Tq d H0 H t m as
 nfc:pf≠pc
 nr:r≠pc/\r≠pf
 na:a≠pc/\a≠pf
 nt:t≠pc/\t≠pf
 ns:∀x∈as,x≠pc/\x≠pf
 c0:H3 pc=af
 f0:H3 pf=af
theorem KI.drw (x:KI d H3 c H h e r a t b ws m i g f) (D:Co d H H'):KI d H3 c H' h e r a t b ws m i g f:={ x with w:=x.w.drw D,tq:=x.tq.drw D}
theorem KI.new (x:KI d H3 e H i f r a t b ws m j h g) (c:H q=af):KI d H3 e (eH H q o) i f r a t b ws m j h g:={ x with w:=(x.w.new c).tl,tq:=x.tq.new c}
theorem KI.putf (x:KI d H3 g H e h r a t c ws m j i k) (b:List (List ap)):KI d H3 g (eH H e (.lst (b.map sT))) e h r a t c ws m j i b :=
 { x with
  w:=x.w.set x.f0 (λq f=>by
   simp only[o_,B8,B7] at f
   rcases f with rfl | rfl | rfl
   ·
    exact aS x.nfc
   ·
    exact x.nr.2
   ·
    exact x.na.2) _
  tq:=x.tq.set x.nt.2 λy l=>(x.ns y l).2}
theorem KI.putc (x:KI d H3 j H g c r a t b ws m k h f) (e:List ap):KI d H3 j (eH H c (.lst (e.map yy))) g c r a t b ws m k e f:=by
 refine { x with
  w:=⟨x.w.cl.new (x.w.at' (c,.lst (h.map yy)) ze).2,x.w.kp.at x.c0,λq i=>?_⟩
  tq:=x.tq.set x.nt.1 λy l=>(x.ns y l).1}
 simp only[o_,B8,B7] at i;rcases i with rfl | rfl | rfl | rfl
 .exact⟨by rw[aD x.nfc];exact (x.w.at' (g,.lst (f.map sT)) ze).1,(x.w.at' (g,.lst (f.map sT)) ze).2⟩
 .exact⟨aC,(x.w.at' (c,.lst (h.map yy)) ze).2⟩
 .exact⟨by rw[aD x.nr.1];exact (x.w.at' (r,.lst (b.map yy)) ze).1,(x.w.at' (r,.lst (b.map yy)) ze).2⟩
 exact⟨by rw[aD x.na.1];exact (x.w.at' (a,.lst (ws.map yy)) ze).1,(x.w.at' (a,.lst (ws.map yy)) ze).2⟩
def Yt:Au:=λts H Q=>∃(d r a t:ah) (b ws:List ap) (m:Nat) (f:gV) (g:List ah),ts=[.ref d,.ref r,.ref a,.ref t]/\r≠d/\a≠d/\H r=ab (.lst (b.map yy))/\1<=b.length/\b.length<=8/\(∀x∈b,AN x)/\H a=ab (.lst (ws.map yy))/\BQ ws/\ws.length<=8/\Tq d f H t m g/\m<=8/\Cl H d /\
 ∀(e:List (List ap)) (c:gV) (p:ah),e.length=m->(∀k∈e,BQ k/\k.length<=4)->Co d H c->c p=af->Q (.ref p) (eH c p (.lst (e.map sT)))
def Dx (ws:List ap) (a:List Int) (b:List (List ap)) (k:Nat):ap × Int × List ap:=(ws.getD k "",a.getD k 0,b.getD k [])
def oD (ws:List ap) (a:List Nat) (x:Nat × Nat):ap × ap:=(ws.getD (a.getD x.1 0) "",ws.getD (a.getD x.2 0) "")
theorem getD_mem {a:Type}{l:List a}{d:a} (h:i<l.length):l.getD i d∈l:=by
 rw[y_,g_ h];exact C6 h
theorem pG {a:List Nat} (h:a.Nodup) (c:i<a.length) (b:j<a.length) (e:a.getD i 0=a.getD j 0):i=j:=by
 rw[y_,y_,g_ c,g_ b] at e;have d:a[i]=a[j]:=e;have f:=L0.mp h;rcases iF i j with q | q | q
 .exact As d (f i j c b q)
 .exact q
 exact As d.symm (f j i b c q)
theorem Mp (ws:List ap) (a:List Int) (b:List (List ap)):((ae ws.length).map (Dx ws a b)).map (·.1)=ws:=by
 apply GW;intro i;rw[u_,u_];by_cases h:i<ws.length
 .rw[CI h,g_ h];simp [Dx,y_,g_ h]
 rw[G_ (by simp;omega),G_ yT];rfl
theorem Yu {p:List (Nat × Nat)}{AC:List (ap × ap × ap)} (c:BQ ws) (N:1<=ws.length) (X:ws.length<=8) (J:b.length=ws.length) (B:∀l∈b,1<=l/\l<10^60) (hkk:a.length=ws.length) (u:∀k∈a,BQ k/\k.length<=4) (I:m.length=ws.length) (j:m.Nodup) (z:∀x∈m,x<ws.length) (Y:p.length<=28) (v:p.Nodup) (n:∀x∈p,x.1<x.2/\x.2<ws.length) (E:AC.length<=12) (s:AC.Nodup) (w:∀x∈AC,(x.1="with"\/x.1="apart")/\x.2.1≠x.2.2/\x.2.1∈ws/\x.2.2∈ws) (P:1<=f.length) (W:f.length<=8) (S:∀x∈f,AN x):mz ⟨(ae ws.length).map (Dx ws b a),p.map (oD ws m),AC,f⟩:=by
 have e:=Mp ws b a;have g:∀i,i<ws.length->m.getD i 0<ws.length:=λi hi=>z _ (getD_mem yT);refine⟨by show 1<=((ae ws.length).map (Dx ws b a)).length;rw[d_,m_];exact N,by show ((ae ws.length).map (Dx ws b a)).length<=8;rw[d_,m_];exact X,λt T=>?_,by show (((ae ws.length).map (Dx ws b a)).map (·.1)).Nodup;rw[e];exact c.nd,by show (p.map (oD ws m)).length<=28;rw[d_];exact Y,?_,λo V=>?_,E,s,λq M=>?_,P,W,S⟩
 .obtain⟨k,hk,rfl⟩:=k_.mp T;have F:=K_.mp hk;have H:=B _ (getD_mem (d:=0) (show k<b.length by omega));have r:=u _ (getD_mem (d:=[]) (show k<a.length by omega));exact⟨c.nm _ (getD_mem F),H.1,H.2,r.1,r.2⟩
 .show (p.map (oD ws m)).Nodup;rw[n9,Nd];refine SY (λ{x y} D R A C=>A ?_) v;have G:=n x D;have K:=n y R;obtain⟨Z,U⟩:=x;obtain⟨Q,L⟩:=y;simp only at G K;simp only[oD,ng] at C;have O:=gP c.nd (g Z yT) (g Q yT) C.1;have q2:=gP c.nd (g U yT) (g L yT) C.2;rw[pG j yT yT O,pG j yT yT q2]
 .show _/\o.1∈((ae ws.length).map (Dx ws b a)).map (·.1)/\o.2∈((ae ws.length).map (Dx ws b a)).map (·.1);rw[e];obtain⟨x,D,rfl⟩:=k_.mp V;have G:=n x D;refine⟨λh=>?_,getD_mem (g _ yT),getD_mem (g _ yT)⟩;have:=pG j yT yT (gP c.nd (g _ yT) (g _ yT) h);omega
 show _/\_/\q.2.1∈((ae ws.length).map (Dx ws b a)).map (·.1)/\q.2.2∈((ae ws.length).map (Dx ws b a)).map (·.1);rw[e];exact w q M
theorem Qd {a:List Int} (h:i<a.length):AA (a.map yv) (i:Int)=ab (.int (a.getD i 0)):=bQ (by rw[u_,g_ h,y_,g_ h];rfl)
theorem Yv {a:List (List ap)} (h:i<a.length):AA (a.map sT) (i:Int)=ab (sT (a.getD i [])):=bQ (by rw[u_,g_ h,y_,g_ h];rfl)
theorem Wt.kep (w:Wt c e H f) (i:Cl H' c) (d:A4 c H H'):Wt c e H' f:=⟨i,λb o h g=>d b o (w.kp b o h g) g,λp a=>⟨d _ _ (w.at' p a).1 (w.at' p a).2,(w.at' p a).2⟩⟩
def Yw:Au:=λts H Q=>∃(d:ah) (a st:Int),ts=[.ref d,.int a,.int st]/\1<=a/\a<=8/\1<=st/\st<=8/\Cl H d/\∀(W:Wk) (H':gV),mz W->(W.tasks.length:Int)<=a->(W.row.length:Int)<=st->Co d H H'->Q W.enc H'
def E5 (m:Nat) (A:List Nat):List (Nat × Nat):=A.flatMap λi=>(eP (i+1) (m - (i+1))).map λj=>(i,j)
theorem Vb:∀m:_root_.Fin 9,(E5 m.val (ae m.val)).Nodup:=by decide +kernel
theorem Ak:∀m:_root_.Fin 9,(E5 m.val (ae m.val)).length<=28:=by decide +kernel
theorem HN (m:Nat) (A:List Nat) (i:Nat):E5 m (A++[i])=E5 m A++(eP (i+1) (m - (i+1))).map λj=>(i,j):=by simp [E5]
def oT (a:List Nat) (x:Nat × Nat):T:=.tup [.int ((a.getD x.1 0:Nat):Int),.int ((a.getD x.2 0:Nat):Int)]
theorem Yx (i m:Nat):dM ((i:Int)+1) ((m:Int) - ((i:Int)+1)).toNat=(eP (i+1) (m - (i+1))).map λ(j:Nat)=>yv (j:Int):=by
 rw[show ((m:Int) - ((i:Int)+1)).toNat=m - (i+1) by omega];generalize m - (i+1)=n;unfold dM;rw[List.range'_eq_map_range,L_];exact C7 λk _=>by show yv _=yv _;congr 1
theorem Qe {a:List Nat} (h:i<a.length):AA (a.map λ(k:Nat)=>yv (k:Int)) (i:Int)=ab (.int ((a.getD i 0:Nat):Int)):=bQ (by rw[u_,g_ h,y_,g_ h];rfl)
theorem Qf (a:List Nat) (b:List (Nat × Nat)):(b.map (oT a)).all (pl 20)=ag:=by rw[W_];intro t c;obtain⟨x,_,rfl⟩:=k_.mp c;rfl
theorem Yy (b:List Nat):(b.map λ(k:Nat)=>yv (k:Int)).all (pl 20)=ag:=by rw[W_];intro t a;obtain⟨x,_,rfl⟩:=k_.mp a;rfl
theorem Mq (c:∀i∈A,i<m) (h:x∈E5 m A):x.1<x.2/\x.2<m:=by
 obtain⟨i,d,a⟩:=OE.mp h;obtain⟨j,b,rfl⟩:=k_.mp a;have:=List.mem_range'_1.mp b;exact⟨yT,yT⟩
def dN (ns:List ap) (f:ap->Nat):List (ap × T):=ns.map λn=>(n,yv (f n:Int))
def fu (f:ap->Nat) (n:ap) (v:Nat):ap->Nat:=λx=>if x=n then v else f x
theorem eN:∀{ns:List ap},n∈ns->aP n (dN ns f)=ab (yv (f n:Int))
 |x::r,h=>by
  unfold dN
  rw[z_]
  unfold aP
  by_cases e:x=n
  ·
   rw[zi e,e]
  ·
   rw[y9 e]
   exact eN (ns:=r) ((o_.mp h).resolve_left (aS e))
theorem Vc {v:Nat} (h:n∈ns):AT n (yv (v:Int)) (dN ns f)=dN ns (fu f n v):=by
 unfold AT dN;rw[zi (by rw[F7];exact⟨(n,yv (f n:Int)),k_.mpr ⟨n,h,rfl⟩,ze⟩),L_];refine C7 λx a=>?_;show (if x=n then (x,yv (v:Int)) else (x,yv (f x:Int)))=(x,yv ((fu f n v x:Nat):Int));unfold fu;by_cases e:x=n
 .rw[zi e,zi e]
 rw[y9 e,y9 e]
theorem HQ {v:Nat} (h:n∉ns):AT n (yv (v:Int)) (dN ns f)=dN (ns++[n]) (fu f n v):=by
 unfold AT dN;rw[y9 (by
  intro e
  rw[F7] at e
  obtain⟨x,a,e⟩:=e
  obtain⟨y,b,rfl⟩:=k_.mp a
  exact h (DB e▸b)),v_]
 congr 1
 .refine C7 λx a=>?_;unfold fu;rw[y9 (λ(e:x=n)=>h (e▸a))]
 unfold fu;rw[List.map_singleton,zi rfl]
theorem HR (ns:List ap) (f:ap->Nat):(dN ns f).length=ns.length:=d_ _
def mu (m:Nat) (ns:List ap) (f:ap->Nat):Nat:=(ns.map λn=>m - f n).sum
theorem Yz:fu f n v n=v:=zi rfl
theorem YB (h:∀x,f x<m) (a:v<m) (x:ap):fu f n v x<m:=by
 unfold fu;by_cases e:x=n
 .rw[zi e];exact a
 rw[y9 e];exact h x
theorem HS (h:H a=ab o):eH H a o=H:=by
 funext b;by_cases e:b=a
 .subst e;rw[aC,h]
 rw[aD e]
def IA (ts:List (ap × Int × List ap)) (n:ap):Int:=match ts.find? (λt=>decide (t.1=n)) with
 |some t=>t.2.1
 |none=>0
def MH (tk:List (ap × Int × List ap)) (ns:List ap):Int:=(ns.map (IA tk)).sum
def ld (tk:List (ap × Int × List ap)) (ns:List ap):Int:=((tk.filter (λt=>di am (.str t.1) (ns.map yy))).map (·.2.1)).sum
def YC:Au:=λts H Q=>∃(W:Wk) (ns:List ap),ts=[W.enc,.tup (ns.map yy)]/\W.tasks.length<=8/\Q (.int (ld W.tasks ns)) H
def Vd:Au:=λts H Q=>∃(W:Wk) (D:List (List ap)),ts=[W.enc,.tup (D.map sT)]/\W.tasks.length<=8/\D.length<=8/\Q (.tup ((D.map (ld W.tasks)).map yv)) H
theorem Al:∀{tk:List (ap × Int × List ap)},(tk.map (·.1)).Nodup->t∈tk->IA tk t.1=t.2.1
 |u::r,hn,h=>by
  rw[z_,DJ] at hn
  unfold IA
  rw[IC]
  rcases o_.mp h with rfl | h
  ·
   rw[N_ rfl]
  ·
   rw[I_ (λe=>hn.1 (by rw[e];exact k_.mpr ⟨t,h,rfl⟩))]
   exact Al hn.2 h
theorem j4 {a b:List Int}(h:a.Perm b):a.sum=b.sum:=by
 induction h with
 |nil=>rfl
 |cons x _ c=>rw[FD,FD,c]
 |swap x y l=>rw[FD,FD,FD,FD];omega
 |trans _ _ e d=>exact e.trans d
theorem YD (c:(tk.map (·.1)).Nodup) (f:ns.Nodup) (d:∀n∈ns,n∈tk.map (·.1)):MH tk ns=ld tk ns:=by
 have b:∀t:ap × Int × List ap,di am (.str t.1) (ns.map yy)=ag↔t.1∈ns:=λt=>Yi iy;have e:(tk.filter (λt=>di am (.str t.1) (ns.map yy))).map (·.2.1)=((tk.filter (λt=>di am (.str t.1) (ns.map yy))).map (·.1)).map (IA tk):=by rw[L_];refine C7 λt a=>?_;exact (Al c (D_.mp a).1).symm
 unfold MH ld;rw[e];refine j4 (List.Perm.map _ ?_);refine (List.perm_ext_iff_of_nodup f ((List.filter_sublist.map _).nodup c)).mpr λn=>⟨λh=>?_,λh=>?_⟩
 .obtain⟨t,a,rfl⟩:=k_.mp (d n h);exact k_.mpr ⟨t,D_.mpr ⟨a,(b t).mpr h⟩,rfl⟩
 obtain⟨t,a,rfl⟩:=k_.mp h;exact (b t).mp (D_.mp a).2
theorem rW (ns:List ap) (f:ap->Nat) (m:Nat):(ET ns f m).length=m:=by unfold ET;rw[d_,m_]
theorem Mr:ba "dict"=ab (.type "dict"):=by decide +kernel
def qt (a:List ap) (n:ap):List ap:=if n∈a then a else a++[n]
def EG (a xs:List ap):List ap:=xs.foldl qt a
def mR (k:Nat) (f:ap->Nat) (xs:List ap):ap->Nat:=xs.foldl (λf n=>fu f n k) f
def kD (D:List (List ap)):List ap:=EG [] D.flatten
def fD (D:List (List ap)):ap->Nat:=D.zipIdx.foldl (λf p=>mR p.2 f p.1) (λ_=>0)
theorem HW (a xs:List ap) (n:ap):EG a (xs++[n])=qt (EG a xs) n:=by unfold EG;rw[JA];rfl
theorem HX (k:Nat) (f:ap->Nat) (xs:List ap) (n:ap):mR k f (xs++[n])=fu (mR k f xs) n k:=by unfold mR;rw[JA];rfl
theorem Ms (A:List (List ap)) (s:List ap):kD (A++[s])=EG (kD A) s:=by unfold kD EG;rw[MS,JA,e6]
theorem Am (A:List (List ap)) (s:List ap):fD (A++[s])=mR A.length (fD A) s:=by
 unfold fD;rw[List.zipIdx_append,JA];simp
theorem Mt (a:List ap) (f:ap->Nat) (n:ap) (k:Nat):AT n (yv (k:Int)) (dN a f)=dN (qt a n) (fu f n k):=by
 unfold qt;split
 .rename_i h;exact Vc h
 rename_i h;exact HQ h
theorem An (x:ap):∀(xs b:List ap),x∈EG b xs↔x∈b\/x∈xs
 |[],b=>by simp [EG]
 |n::r,b=>by
  show x∈EG (qt b n) r↔_
  rw[An x r]
  unfold qt
  by_cases h:n∈b
  ·
   rw[zi h,o_]
   constructor
   ·
    rintro (a | a)
    ·
     exact .inl a
    ·
     exact .inr (.inr a)
   ·
    rintro (a | rfl | a)
    ·
     exact .inl a
    ·
     exact .inl h
    ·
     exact .inr a
  ·
   rw[y9 h,F_,i_,o_,or_assoc]
theorem CB:∀(xs a:List ap),(EG a xs).length<=a.length+xs.length
 |[],a=>l_ _
 |n::r,a=>by
  have h:=CB r (qt a n)
  have b:(qt a n).length<=a.length+1:=by unfold qt;split <;> simp
  show (EG (qt a n) r).length<=_
  rw[j_]
  omega
theorem Sz:x∈kD D↔x∈D.flatten:=by
 unfold kD;rw[An];simp
theorem Ve (D:List (List ap)):(kD D).length<=D.flatten.length:=by
 have:=CB D.flatten [];simpa [kD] using this
def kN (ts:List (ap × Int × List ap)):List (ap × T):=ts.map λt=>(t.1,sT t.2.2)
def C2 (ts:List (ap × Int × List ap)) (n:ap):List ap:=match ts.find? (λt=>decide (t.1=n)) with
 |some t=>t.2.2
 |none=>[]
theorem Ao:∀{ts:List (ap × Int × List ap)},n∈ts.map (·.1)->aP n (kN ts)=ab (sT (C2 ts n))
 |t::r,h=>by
  unfold kN C2
  rw[z_,IC]
  unfold aP
  by_cases e:t.1=n
  ·
   rw[zi e,N_ e]
  ·
   rw[y9 e,I_ e]
   exact Ao (ts:=r) ((o_.mp (show n∈t.1::r.map (·.1) from h)).resolve_left (aS e))
def WZ (a:List ap) (D:List (List ap)):Option T:=if D.length>a.length then ab (.tup [.str "stands",.int (D.length:Int)]) else af
def WJ (ns xs:List ap):Option T:=(xs.find? λx=>!decide (x∈ns)).map λx=>.tup [.str "strange",.str x]
def Uf:List ap->List ap->Option ap
 |_,[]=>af
 |sn,x::r=>if x∈sn then ab x else Uf (sn++[x]) r
def XB (xs:List ap):Option T:=(Uf [] xs).map λx=>.tup [.str "twice",.str x]
def YE (ns xs:List ap):Option T:=(ns.find? λn=>!decide (n∈xs)).map λn=>.tup [.str "lost",.str n]
def VS (f:ap->Nat) (a:List (ap × ap)):Option T:=(a.find? λo=>decide (f o.2<f o.1)).map λo=>.tup [.str "order",.str o.1,.str o.2]
def XW (f:ap->Nat) (a:List (ap × ap × ap)):Option T:=(a.find? λp=>decide (f p.2.1=f p.2.2) != decide (p.1=("with":ap))).map λp=>.tup [.str p.1,.str p.2.1,.str p.2.2]
def XI (a:List ap) (k:ap):Bool:=decide (a=[])||decide (k∈a)
def YF (b:ap->List ap) (a:List ap):Nat->List (List ap)->Option T
 |_,[]=>af
 |k,s::r=>match s.find? λn=>!XI (b n) (a.getD k "") with
  |some n=>ab (.tup [.str "kind",.str n,.int (k:Int)])
  |none=>YF b a (k+1) r
def YG (g:List ap->Int) (eG:Int):Nat->List (List ap)->Option T
 |_,[]=>af
 |k,s::r=>if g s>eG then ab (.tup [.str "beat",.int (k:Int)]) else YG g eG (k+1) r
def WS (W:Wk) (D:List (List ap)):Option T:=(WZ W.row D).or ((WJ (W.tasks.map (·.1)) D.flatten).or ((XB D.flatten).or (YE (W.tasks.map (·.1)) D.flatten)))
def XE (W:Wk) (eG:Int) (D:List (List ap)):Option T:=(VS (fD D) W.orders).or ((XW (fD D) W.pairs).or ((YF (C2 W.tasks) W.row 0 D).or (YG (ld W.tasks) eG 0 D)))
def flt (W:Wk) (eG:Int) (D:List (List ap)):Option T:=(WS W D).or (XE W eG D)
structure Bn (W:Wk) (D:List (List ap)):Prop where
 rw:D.length<=W.row.length
 st:∀x∈D.flatten,x∈W.tasks.map (·.1)
 nd:D.flatten.Nodup
 al:∀n∈W.tasks.map (·.1),n∈D.flatten
theorem Bn.in (h:Bn W D) (a:s∈D):s.Nodup/\∀n∈s,n∈W.tasks.map (·.1) :=
 ⟨(List.sublist_flatten_of_mem a).nodup h.nd,λn b=>h.st n (E6.mpr ⟨s,a,b⟩)⟩
theorem wg {B:List (List ap)}:(A++s::B).flatten=A.flatten++(s++B.flatten):=by rw[MS,IU]
theorem YH {xs:List ap}:di ag (yy x) (xs.map yy)=!decide (x∈xs):=by
 rw[CA,Uo iy];simp
theorem Qg {xs:List ap}:di am (yy x) (xs.map yy)=decide (x∈xs):=by
 rw[CA,Yi iy];simp
theorem ji {b:Type} (a:b->T) (xs:List b) (I:List b->AJ->gV->Prop) (k:I [] Z H) (i:∀Z H,I xs Z H->still H/\D.nx Z H) (j:∀A x B Z H (N:AJ->gV->Prop),xs=A++x::B->I A Z H->(∀c H',I (A++[x]) c H'->N c H')->still H/\g (.tup [.int (A.length:Int),a x]) Z H λZ2 H2=>d { D with nx:=N,ct:=N,bk:=D.nx} Z2 H2):DU g d D still (fU 0 (xs.map a)) Z H:=by
 have:∀(B A:List b) (Z:AJ) (H:gV),xs=A++B->I A Z H->DU g d D still (fU (A.length:Int) (B.map a)) Z H:=by
  intro B;induction B with
  |nil=>intro A Z H e h;rw[X_] at e;subst e;exact i Z H h
  |cons x B f =>
  intro A Z H e h;refine j A x B Z H _ e h λc H' h'=>?_;have q:=f (A++[x]) c H' (by rw[e,EF];rfl) h';rw[b_,E_,Int.natCast_add] at q;exact q
 exact this xs [] Z H rfl k
def dB (a:List ap):List (ap × T):=a.map λn=>(n,T.bl ag)
theorem Qh (n:ap):∀a:List ap,(aP n (dB a)).isSome=decide (n∈a)
 |[]=>by simp [dB,aP]
 |x::r=>by
  unfold dB
  rw[z_]
  unfold aP
  by_cases e:x=n
  ·
   rw[zi e];simp [e]
  ·
   rw[y9 e]
   have:=Qh n r
   unfold dB at this
   rw[this]
   simp [aS e]
theorem Vf (h:n∉a):AT n (T.bl ag) (dB a)=dB (a++[n]):=by
 unfold AT dB;rw[y9 (by
  intro e
  rw[F7] at e
  obtain⟨x,b,e⟩:=e
  obtain⟨y,c,rfl⟩:=k_.mp b
  exact h (DB e▸c)),v_]
 rfl
theorem Vg (a:List ap):(dB a).length=a.length:=d_ _
theorem Vh (ts:List T) (i:Int) (H:gV) (Q:Z1):SF (ab (.rol ts)) i H Q=oq (AA ts i) λt=>Q t H:=rfl
def Vi:Au:=λts H Q=>∃D:List (List ap),ts=[.tup (D.map sT)]/\D.flatten.length<=1000/\∀p,H p=af->Q (.ref p) (eH H p (.lst (D.flatten.map yy)))
def Mu:Au:=λts H Q=>∃D:List (List ap),ts=[.tup (D.map sT)]/\D.flatten.length<=1000/\∀p,H p=af->Q (.ref p) (eH H p (.dct (dN (kD D) (fD D))))
def Mv:Au:=λts H Q=>∃tk:List (ap × Int × List ap),ts=[.tup (tk.map AE)]/\tk.length<=8/\∀p,H p=af->Q (.ref p) (eH H p (.lst ((tk.map (·.1)).map yy)))
structure EL (W:Wk) (eG:Int) (kind:ap) (D S:List ap):Prop where
 one:∀t∈W.tasks,t.1∈S->t.1∉D/\iJ t.2.2 kind=ag/\(∀x∈gM W t.1,x∈S)/\(∀x∈jG W t.1,x∈S\/x∈D)/\∀x∈j0 W t.1,x∉S
 ld:cB W.tasks S<=eG
theorem TR:yz W eG c D S=ag↔EL W eG c D S:=by
 unfold yz;rw[CL,q_,W_];have key:∀t:ap × Int × List ap,(!decide (t.1∈S)||LS W c D S t)=ag↔(t.1∈S->t.1∉D/\iJ t.2.2 c=ag/\(∀x∈gM W t.1,x∈S)/\(∀x∈jG W t.1,x∈S\/x∈D)/\∀x∈j0 W t.1,x∉S):=λt=>by
  unfold LS;rw[kX,iS,OB,CL,CL,CL,CL,iS,OB,@q_ _ (ay _),@q_ _ (ay _),@q_ _ (ay _)];constructor
  .intro h d;obtain⟨⟨⟨⟨k,i⟩,l⟩,g⟩,j⟩:=h.resolve_left (λz=>z d);exact⟨k,i,l,λx e=>F_.mp (g x e),j⟩
  intro h;by_cases d:t.1∈S
  .obtain⟨k,i,l,g,j⟩:=h d;exact .inr ⟨⟨⟨⟨k,i⟩,l⟩,λx e=>F_.mpr (g x e)⟩,j⟩
  exact .inl d
 exact⟨λ⟨a,b⟩=>⟨λt f=>(key t).mp (a t f),b⟩,λh=>⟨λt f=>(key t).mpr (h.one t f),h.ld⟩⟩
theorem eQ (h:∀x,x∈S↔x∈a):cB ts S=cB ts a:=by
 have e:(ts.filter λt=>decide (t.1∈S))=ts.filter λt=>decide (t.1∈a):=IF λt _=>by rw[MI];exact h t.1
 unfold cB;rw[e]
theorem EL.congr (f:EL W eG a D S) (e:∀x,x∈D↔x∈d) (c:∀x,x∈S↔x∈g):EL W eG a d g :=
 ⟨λt h i=>by
  obtain⟨m,k,n,j,l⟩:=f.one t h ((c _).mpr i)
  exact⟨λz=>m ((e _).mpr z),k,λx b=>(c x).mp (n x b),λx b=>(j x b).imp (c x).mp (e x).mp,λx b z=>l x b ((c x).mpr z)⟩,by rw[<- eQ c];exact f.ld⟩
def D6 (W:Wk) (eG:Int) (D:List (List ap)):Prop:=∀k s,D[k]?=ab s->EL W eG (W.row.getD k "") (D.take k).flatten s
theorem D6.snoc (h:D6 W eG D) (f:EL W eG (W.row.getD D.length "") D.flatten s):D6 W eG (D++[s]):=λk s' e=>by
 by_cases c:k<D.length
 .rw[FV c] at e;rw[RA yT];exact h k s' e
 rw[M_ yT] at e;have b:k - D.length=0:=by
  cases hz:k - D.length with
  |zero=>rfl
  |succ n=>rw[hz] at e;simp at e
 have a:k=D.length:=yT
 subst a;rw[b] at e;simp only[KA,Na] at e;subst e;rw[fI]
 .exact f
 rfl
theorem D6.nil:D6 W eG []:=λk s e=>by simp at e
theorem yG:∀{xs:List ap}{f:ap->Nat},n∉xs->mR k f xs n=f n
 |[],_,_=>rfl
 |x::r,f,h=>by
  rw[o_,not_or] at h
  show mR k (fu f x k) r n=f n
  rw[yG h.2]
  unfold fu
  rw[y9 h.1]
theorem HY:∀{xs:List ap}{f:ap->Nat},n∈xs->mR k f xs n=k
 |x::r,f,h=>by
  show mR k (fu f x k) r n=k
  by_cases a:n∈r
  ·
   exact HY a
  ·
   rw[yG a]
   unfold fu
   rw[zi ((o_.mp h).resolve_right a)]
theorem dH (b:D.flatten.Nodup):∀{k:Nat}{s:List ap}{n:ap},D[k]?=ab s->n∈s->fD D n=k:=by
 induction hl:D.length generalizing D with
 |zero=>intro k s n e;rw[Mc.mp hl] at e;simp at e
 |succ m c =>
 intro k s n e a;obtain⟨A,l,rfl⟩:∃A l,D=A++[l]:=by refine⟨D.dropLast,D.getLast (by intro z;rw[z] at hl;cases hl),(RF _).symm⟩
 have f:A.length=m:=by simp at hl;exact hl
 rw[Am];rw[MS,e6,L8] at b;by_cases h:k<A.length
 .rw[FV h] at e;have d:n∈A.flatten:=E6.mpr ⟨s,EW e,a⟩;rw[yG λz=>b.2.2 n d n z rfl];exact c b.1 f e a
 rw[M_ yT] at e;have g:k - A.length=0:=by
  cases hz:k - A.length with
  |zero=>rfl
  |succ n=>rw[hz] at e;simp at e
 rw[g] at e;simp only[KA,Na] at e;subst e;rw[HY a];omega
theorem fB {D:List (List ap)} (h:n∈D.flatten):∃(k:Nat) (s:List ap),D[k]?=ab s/\n∈s:=by
 obtain⟨s,c,a⟩:=E6.mp h;obtain⟨k,b⟩:=On c;exact⟨k,s,b,a⟩
theorem Tl {D:List (List ap)}:n∈(D.take k).flatten↔∃(j:Nat) (s:List ap),j<k/\D[j]?=ab s/\n∈s:=by
 constructor
 .intro h;obtain⟨j,s,e,a⟩:=fB h;rw[nX] at e;split at e
  .exact⟨j,s,by assumption,e,a⟩
  cases e
 rintro⟨j,s,b,e,a⟩;refine E6.mpr ⟨s,?_,a⟩;refine EW (i:=j) ?_;rw[nX,zi b];exact e
theorem Aq:∀{tk:List (ap × Int × List ap)},(tk.map (·.1)).Nodup->t∈tk->C2 tk t.1=t.2.2
 |u::r,hn,h=>by
  rw[z_,DJ] at hn
  unfold C2
  rw[IC]
  rcases o_.mp h with rfl | h
  ·
   rw[N_ rfl]
  ·
   rw[I_ (λe=>hn.1 (by rw[e];exact k_.mpr ⟨t,h,rfl⟩))]
   exact Aq hn.2 h
theorem nA (tk:List (ap × Int × List ap)) (s:List ap):ld tk s=cB tk s:=by
 have e:(tk.filter λt=>di am (.str t.1) (s.map yy))=tk.filter λt=>decide (t.1∈s):=IF λt _=>Qg;unfold ld cB;rw[e]
theorem Ia (h:EC ["with"] W a b):(a,b)∈W.orders\/∃p∈W.pairs,p.1="with"/\(p.2=(a,b)\/p.2=(b,a)):=by
 unfold EC HP at h;rcases F_.mp h with h | h
 .exact .inl h
 obtain⟨p,e,c⟩:=OE.mp h;unfold C1 at c;split at c
 .rename_i d;refine .inr ⟨p,e,by simpa using d,?_⟩;simp only[o_,ng,B8,B7] at c;rcases c with ⟨rfl,rfl⟩ | ⟨rfl,rfl⟩
  .exact .inl rfl
  exact .inr rfl
 cases c
theorem Vj (h:(a,b)∈W.orders):EC ["with"] W a b:=Fa _ h
theorem Mw (h:(("with":ap),a,b)∈W.pairs):EC ["with"] W a b/\EC ["with"] W b a:=by
 have:∀q,q∈C1 ["with"] ("with",a,b)->q∈HP ["with"] W:=λq c=>Da _ (OE.mpr ⟨_,h,c⟩);constructor
 .exact this _ (by unfold C1;simp)
 exact this _ (by unfold C1;simp)
structure JE (W:Wk) (eG:Int) (D:List (List ap)) (f:ap->Nat):Prop where
 ord:∀o∈W.orders,f o.1<=f o.2
 pai:∀p∈W.pairs,f p.2.1=f p.2.2↔p.1="with"
 kin:∀k s,D[k]?=ab s->∀t∈W.tasks,t.1∈s->iJ t.2.2 (W.row.getD k "")=ag
 bea:∀s∈D,cB W.tasks s<=eG
theorem pH (O:mz W) (h:Bn W D):JE W eG D (fD D)↔D6 W eG D:=by
 have u:∀{n:ap},n∈W.tasks.map (·.1)->∃s,D[fD D n]?=ab s/\n∈s:=λg=>by obtain⟨k,s,e,c⟩:=fB (h.al _ g);rw[dH h.nd e c];exact⟨s,e,c⟩
 constructor
 .intro r k s e;have w:∀{a b:ap},RT (EC ["with"] W) a b->fD D a<=fD D b:=λz=>by
   induction z with
   |refl=>exact l_ _
   |step _ l Z =>
   refine U_ Z ?_;rcases Ia l with o | ⟨p,m,v,e | e⟩
   .exact r.ord _ o
   .have:=(r.pai p m).mpr v;rw[e] at this;exact EQ this
   have:=(r.pai p m).mpr v;rw[e] at this;exact EQ this.symm
  refine⟨λt i c=>?_,r.bea s (EW e)⟩;have V:=dH h.nd e c;refine⟨λz=>?_,r.kin k s e t i c,λx G=>?_,λx G=>?_,λx G L=>?_⟩
  .obtain⟨j,s',S,d,g⟩:=Tl.mp z;have:=dH h.nd d g;omega
  .obtain⟨A,C⟩:=D_.mp G;rw[@q_ _ (ay _)] at C;have B:=w C.1;have e2:=w C.2;obtain⟨s',d,g⟩:=u A;rw[show fD D x=k by omega,e] at d;cases d;exact g
  .obtain⟨A,C⟩:=D_.mp G;rw[@q_ _ (ay _)] at C;have B:=w C.1;obtain⟨s',d,g⟩:=u A;by_cases z:fD D x=k
   .rw[z,e] at d;cases d;exact .inl g
   exact .inr (Tl.mpr ⟨_,s',yT,d,g⟩)
  obtain⟨p,m,rfl⟩:=k_.mp G;obtain⟨m,v⟩:=D_.mp m;rw[CL,q_,q_] at v;have B:=(r.pai p m).mp (by rw[v.2,V,dH h.nd e L]);rw[v.1] at B;exact As B y6
 intro F;have JU:∀{t:ap × Int × List ap},t∈W.tasks->∃s,D[fD D t.1]?=ab s/\t.1∈s/\EL W eG (W.row.getD (fD D t.1) "") (D.take (fD D t.1)).flatten s:=λi=>by obtain⟨s,e,c⟩:=u (k_.mpr ⟨_,i,rfl⟩);exact⟨s,e,c,F _ _ e⟩
 have w:∀{a b:ap},a∈W.tasks.map (·.1)->b∈W.tasks.map (·.1)->RT (EC ["with"] W) a b->fD D a<=fD D b:=λ{a b} I R z=>by
  obtain⟨t,i,rfl⟩:=k_.mp R;obtain⟨s,e,c,f⟩:=JU i;obtain⟨_,_,X,P,_⟩:=f.one t i c;by_cases y:RT (EC ["with"] W) t.1 a
  .have:=X a (D_.mpr ⟨I,@N_ _ (ay _) ⟨y,z⟩⟩);exact EQ (dH h.nd e this)
  rcases P a (D_.mpr ⟨I,@N_ _ (ay _) ⟨z,y⟩⟩) with q | q
  .exact EQ (dH h.nd e q)
  obtain⟨j,s',S,d,g⟩:=Tl.mp q;rw[dH h.nd d g];omega
 refine⟨λo M=>?_,λp m=>?_,λk s e t i c=>((F k s e).one t i c).2.1,λs c=>?_⟩
 .obtain⟨_,H,E⟩:=O.oo o M;exact w H E (.step .refl (Vj M))
 .obtain⟨v,_,H,E⟩:=O.pp p m;constructor
  .intro e;refine v.resolve_right λI=>?_;obtain⟨t,i,N⟩:=k_.mp H;obtain⟨s,B,c,f⟩:=JU i;obtain⟨_,_,_,_,Q⟩:=f.one t i c;refine Q p.2.2 (k_.mpr ⟨p,D_.mpr ⟨m,by rw[CL,q_,q_];exact⟨I,N.symm⟩⟩,rfl⟩) ?_;obtain⟨s',d,g⟩:=u E;have T:fD D p.2.2=fD D t.1:=by rw[N];exact e.symm
   rw[T,B] at d;cases d;exact g
  intro K;have J:(("with":ap),p.2.1,p.2.2)∈W.pairs:=by rw[<- K];exact m
  obtain⟨Y,U⟩:=Mw J;exact Nat.le_antisymm (w H E (.step .refl Y)) (w E H (.step .refl U))
 obtain⟨k,hk⟩:=On c;exact (F k s hk).ld
theorem Mx:∀{D:List (List ap)},D6 W eG D->(∀s∈D,s.Nodup/\∀n∈s,n∈W.tasks.map (·.1))->D.flatten.Nodup:=by
 intro D;induction hl:D.length generalizing D with
 |zero=>intro _ _;rw[Mc.mp hl];exact KS
 |succ m i =>
 intro F g;obtain⟨A,l,rfl⟩:∃A l,D=A++[l]:=by refine⟨D.dropLast,D.getLast (by intro z;rw[z] at hl;cases hl),(RF _).symm⟩
 have j:A.length=m:=by simp at hl;exact hl
 have q:D6 W eG A:=λk s e=>by
  have r:k<A.length:=by
   rcases gg k A.length with z | z
   .exact z
   rw[G_ z] at e;cases e
  have:=F k s (by rw[FV r];exact e)
  rwa [RA yT] at this
 rw[MS,e6,L8];have c:=g l ze;refine⟨i j q λs h=>g s (Fa _ h),c.1,λa p b d e=>?_⟩;subst e;obtain⟨t,o,rfl⟩:=k_.mp (c.2 a d);have f:=F A.length l (by rw[M_ (l_ _)];simp);rw[fI rfl] at f;exact (f.one t o d).1 p
def YJ:Au:=λts H Q=>∃(d:ah) (W:Wk),ts=[.ref d,W.enc]/\mz W/\Cl H d/\∀(n:Int) (H':gV),0<=n->Co d H H'->Q (.int n) H'
theorem yH:∀{l:List Int},(∀x∈l,0<=x)->0<=l.sum
 |[],_=>IY _
 |x::r,h=>by
  have c:=h x n_
  have b:=yH λy a=>h y (A_ _ a)
  rw[FD]
  omega
theorem Mz {l:List Int}(h:∀x∈l,0<=x) (i:Nat):0<=l.getD i 0:=by
 rw[y_];cases e:l[i]? with
 |none=>exact IY _
 |some x=>exact h x (EW e)
theorem yI {a:List ap} (h:k<a.length):AA (a.map yy) (k:Int)=ab (.str (a.getD k "")):=bQ (by rw[u_,g_ h,y_,g_ h];rfl)
theorem rY:∀ns:List ap,AB ns 0=[]
 |[]=>rfl
 |n::r=>by
  have:=rY r
  unfold AB
  simpa using this
theorem Ar:∀(ns:List ap) (b:Int),(AB ns b).Sublist ns
 |[],_=>Pi _
 |n::r,b=>by
  have:=Ar r (b / 2)
  unfold AB
  split
  ·
   exact this.cons₂ n
  ·
   exact this.cons n
theorem lG (u:mz W) (h:ns.Perm (W.tasks.map (·.1))) (t:m<=W.row.length) (q:∀n,f n<m):Bn W (ET ns f m):=by
 have d:∀x,x∈(ET ns f m).flatten↔x∈ns:=λx=>by
  rw[E6];constructor
  .rintro⟨s,o,c⟩;obtain⟨k,_,rfl⟩:=k_.mp o;exact (D_.mp c).1
  intro c;exact⟨_,k_.mpr ⟨f x,K_.mpr (q x),rfl⟩,D_.mpr ⟨c,N_ rfl⟩⟩
 refine⟨by rw[rW];exact t,λx c=>h.mem_iff.mp ((d x).mp c),?_,λx c=>(d x).mpr (h.mem_iff.mpr c)⟩;have w:=h.nodup_iff.mpr u.nd;unfold ET;have:∀l:List Nat,l.Nodup->((l.map λk=>ns.filter λn=>decide (f n=k)).flatten).Nodup:=by
  intro l;induction l with
  |nil=>intro _;exact KS
  |cons k r p =>
  intro i;rw[DJ] at i;rw[z_,IU,L8];refine⟨List.filter_sublist.nodup w,p i.2,λa A b g e=>?_⟩;subst e;obtain⟨s,o,g⟩:=E6.mp g;obtain⟨j,v,rfl⟩:=k_.mp o;have y:=DB (D_.mp A).2;have z:=DB (D_.mp g).2;exact i.1 (by rw[<- y,z];exact v)
 exact this _ ke
theorem MF (D:Cl H' d) (k:A4 d H H') (c:H' p=ab o) (g:H p=af) (f:p≠d) (q:∀H1,Co d H H1->H1 p=af->Q v (eH H1 p o)):My Q v H':=by
 refine⟨eH (λb=>if b=d then H' b else H b) p o,λb u a=>?_,q _ ⟨?_,λb i=>?_⟩ ?_⟩
 .by_cases e:b=p
  .subst e;rw[aC] at a;rw[c];exact a
  rw[aD e] at a;by_cases h:b=d
  .simp only[h,if_true] at a |-;exact a
  simp only[h,Y_] at a;exact k b u a h
 .obtain⟨ns,e,r⟩:=D.ex;exact⟨ns,by simp only[if_true];exact e,r⟩
 .simp only[i,Y_]
 simp only[f,Y_];exact g
def CS {b:Type}(a:b->b->Bool):List b->List b
 |[]=>[]
 |n::B=>if (CS a B).any (λg=>a g n) then CS a B else CS a B++[n]
theorem uf:∀(xs:List a),∀g∈CS b xs,g∈xs
 |[],g,h=>h
 |n::B,g,h=>by
  unfold CS at h
  split at h
  ·
   exact A_ _ (uf B g h)
  ·
   rcases F_.mp h with h | h
   ·
    exact A_ _ (uf B g h)
   ·
    rw[i_.mp h];exact n_
theorem Av {c:f->f->Bool} (i:∀a,c a a=ag):∀(xs:List f),∀b∈xs,∃g∈CS c xs,c g b=ag
 |n::B,b,h=>by
  unfold CS
  rcases o_.mp h with rfl | h
  ·
   split
   ·
    rename_i j
    obtain⟨g,d,e⟩:=F7.mp j
    exact⟨g,d,e⟩
   ·
    exact⟨b,ze,i b⟩
  ·
   obtain⟨g,d,e⟩:=Av i B b h
   split
   ·
    exact⟨g,d,e⟩
   ·
    exact⟨g,Fa _ d,e⟩
theorem Dg (m:Nat):ae (m+m)=ae m++(ae m).map (·+m):=by
 rw[wq];congr 1;exact C7 λa _=>Nat.add_comm _ _
theorem Aw:∀(ws:List ap) (b:Int),(AB ws b).length<=ws.length
 |[],_=>l_ _
 |x::r,b=>by
  unfold AB
  have:=Aw r (b / 2)
  split
  ·
   rw[j_,j_];omega
  ·
   rw[j_];omega
def bW (b a:Nat):Bool:=decide (a5 (b:Int) (a:Int)=(a:Int))
theorem gQ (b a:Nat):bW b a=ag↔b &&& a=a:=by
 unfold bW;rw[q_,tZ];exact Int.ofNat_inj
theorem Dh (a:Nat):bW a a=ag:=(gQ a a).mpr (Nat.and_self a)
def nm (W:Wk):List ap:=W.tasks.map (·.1)
def pk (W:Wk) (i:Nat):List ap:=AB (nm W) (i:Int)
def zd (W:Wk):Nat:=2^W.tasks.length
theorem lH (W:Wk):(nm W).length=W.tasks.length:=d_ _
theorem f9 (a:mz W) (h:i<zd W):bU (nm W) (pk W i)=i:=by
 have b:((i:Int))<2^(nm W).length:=by
  have e:((2^W.tasks.length:Nat):Int)=(2:Int)^W.tasks.length:=by push_cast;rfl
  rw[lH,<- e];exact Int.ofNat_lt.mpr h
 have:=Hv (ns:=nm W) a.nd (Lc i) b;rw[cI] at this;exact Int.ofNat.inj this
theorem nF (A:List ap):bU (nm W) A<zd W:=by
 have:=vW (nm W) A;rw[cI,lH] at this;have e:((2^W.tasks.length:Nat):Int)=(2:Int)^W.tasks.length:=by push_cast;rfl
 rw[<- e] at this;exact Int.ofNat_lt.mp this
theorem Qi (a:mz W) (A:List ap):pk W (bU (nm W) A)=(nm W).filter λx=>decide (x∈A):=by
 unfold pk;rw[<- cI];exact vX _ _ a.nd
theorem iQ (a:mz W):x∈pk W (bU (nm W) A)↔x∈nm W/\x∈A:=by
 rw[Qi a,D_,q_]
theorem iz (h:x∈pk W i):x∈nm W:=jY _ _ x h
theorem YK (a:mz W) (i:Nat):(pk W i).Nodup:=(Ar _ _).nodup a.nd
theorem iB:∀(ns A B:List ap),(∀x∈ns,x∈B↔x∉A)->bU ns A+bU ns B+1=2^ns.length
 |[],_,_,_=>rfl
 |x::r,A,B,h=>by
  have d:=iB r A B λy c=>h y (A_ _ c)
  have b:=h x n_
  simp only[bU,j_,Iy]
  by_cases a:x∈A
  ·
   rw[zi a,y9 (λz=>b.mp z a)];omega
  ·
   rw[y9 a,zi (b.mpr a)];omega
theorem iR:∀(ns A B:List ap),(∀x∈ns,¬(x∈A/\x∈B))->bU ns A+bU ns B=bU ns (A++B)
 |[],_,_,_=>rfl
 |x::r,A,B,h=>by
  have e:=iR r A B λy d=>h y (A_ _ d)
  have c:=h x n_
  simp only[bU,F_]
  by_cases a:x∈A
  ·
   have b:x∉B:=λz=>c ⟨a,z⟩
   simp only[a,b,if_true,Y_,B7];omega
  ·
   by_cases b:x∈B
   ·
    simp only[a,b,if_true,Y_,or_true];omega
   ·
    simp only[a,b,Y_,or_self];omega
theorem wj:bW (bU (nm W) A) (bU (nm W) B)=ag↔∀x∈nm W,x∈B->x∈A:=by
 unfold bW;rw[q_,<- cI,<- cI];exact gG _ _ _
def wu (N:Nat):List Nat:=(ae (N+1)).filter (bW N)
theorem MJ (h:bW N i=ag):i<=N:=by
 have:=(gQ N i).mp h;have:=Nat.and_le_left (n:=N) (m:=i);omega
theorem Ax (h:N<M):(ae M).filter (bW N)=wu N:=by
 obtain⟨k,rfl⟩:∃k,M=(N+1)+k:=⟨M - (N+1),yT⟩;unfold wu;rw[wq,Ki];have:((ae k).map λx=>N+1+x).filter (bW N)=[]:=by rw[List.filter_eq_nil_iff];intro a b;obtain⟨x,_,rfl⟩:=k_.mp b;intro z;have:=MJ z;omega
 rw[this,X_]
theorem ww (e:i<2^k):bW N (i+2^k)=(bW N (2^k)&&bW N i):=by
 have a:i+2^k=2^k ||| i:=by have:=Nat.two_pow_add_eq_or_of_lt e 1;rw[Nat.mul_one] at this;omega
 rw[CA,CL,gQ,gQ,gQ,a];constructor
 .intro h;have c:∀j,(N &&& (2^k ||| i)).testBit j=(2^k ||| i).testBit j:=λj=>by rw[h]
  refine⟨l6 λj=>?_,l6 λj=>?_⟩
  .have:=c j;rw[fE,wn] at this;rw[fE];cases b:(2^k).testBit j <;> simp_all
  have:=c j;rw[fE,wn] at this;rw[fE];cases b:i.testBit j <;> simp_all
 rintro⟨b,d⟩;rw[Nat.and_or_distrib_left,b,d]
theorem Ib:(ae (2^(k+1))).filter (bW N)=(ae (2^k)).filter (bW N)++if bW N (2^k)=ag then ((ae (2^k)).filter (bW N)).map (·+2^k) else []:=by
 rw[show 2^(k+1)=2^k+2^k by rw[Iy];omega,Dg,Ki];congr 1;rw[fR];by_cases h:bW N (2^k)=ag
 .rw[zi h];congr 1;refine IF λi a=>?_;show bW N (i+2^k)=bW N i;rw[ww (K_.mp a),h,ND]
 rw[y9 h,List.filter_eq_nil_iff.mpr,DH];intro i a;show ¬bW N (i+2^k)=ag;rw[ww (K_.mp a),CL];exact λz=>h z.1
def JU (W:Wk) (eG:Int) (k d i:Nat):Bool:=yz W eG (W.row.getD k "") (pk W d) (pk W i)
def AZ (W:Wk) (eG:Int) (k d:Nat):List Nat:=(ae (zd W)).filter (JU W eG k d)
theorem GU:i∈AZ W eG k d↔i<zd W/\EL W eG (W.row.getD k "") (pk W d) (pk W i):=by
 unfold AZ;rw[D_,K_];unfold JU;rw[TR]
theorem EL.apart (f:EL W eG a D S) (b:x∈nm W) (c:x∈S):x∉D:=by
 obtain⟨t,d,rfl⟩:=k_.mp b;exact (f.one t d c).1
theorem Di (c:mz W) (j:d<zd W):(wu (zd W - 1 - d)).filter (JU W eG k d)=AZ W eG k d:=by
 have e:zd W - 1 - d<zd W:=yT
 rw[<- Ax e];unfold AZ;rw[List.filter_filter];refine IF λi m=>?_;have b:=K_.mp m;cases h:JU W eG k d i with
 |false=>rfl
 |true =>
 rw[ND];have f:EL W eG (W.row.getD k "") (pk W d) (pk W i):=TR.mp h;have g:zd W - 1 - d=bU (nm W) ((nm W).filter λx=>decide (x∉pk W d)):=by
  have:=iB (nm W) (pk W d) ((nm W).filter λx=>decide (x∉pk W d)) λx a=>by rw[D_,q_];exact⟨λz=>z.2,λz=>⟨a,z⟩⟩
  rw[f9 c j,lH] at this;unfold zd;omega
 rw[g,show i=bU (nm W) (pk W i) from (f9 c b).symm];rw[wj];intro x a l;rw[D_,q_];exact⟨a,f.apart a l⟩
inductive A7 (W:Wk) (eG:Int):List Nat->Nat->Prop
 |nil:A7 W eG [] 0
 |snoc {fs:List Nat} {d f:Nat}:A7 W eG fs d->fs.length<W.row.length->f∈AZ W eG fs.length d->A7 W eG (fs++[f]) (d+f)
theorem MK (W:Wk):pk W 0=[]:=rY _
theorem A7.ok (i:mz W) (r:A7 W eG a d):d<zd W/\a.length<=W.row.length/\(∀x,x∈pk W d↔x∈(a.map (pk W)).flatten)/\D6 W eG (a.map (pk W))/\∀f∈a,f<zd W:=by
 induction r with
 |nil=>exact⟨sq y6,B6 _,λx=>by rw[MK];rfl,D6.nil,λ_ h=>(nomatch h)⟩
 |@snoc a d f r q n l =>
 obtain⟨o,_,j,p,m⟩:=l;obtain⟨c,F⟩:=GU.mp n;have e:d+f=bU (nm W) (pk W d++pk W f):=by rw[<- iR _ _ _ λx k z=>F.apart k z.2 z.1,f9 i o,f9 i c]
 refine⟨by rw[e];exact nF _,by rw[b_];exact q,λx=>?_,?_,λg b=>?_⟩
 .rw[e,iQ i,v_,MS,F_,F_,<- j x];simp only[z_,DH,IU,r9,X_];exact⟨λz=>z.2,λz=>⟨z.elim iz iz,z⟩⟩
 .rw[v_];refine p.snoc ?_;rw[d_];exact F.congr j λx=>Iff.rfl
 rcases F_.mp b with b | b
 .exact m g b
 rw[i_.mp b];exact c
theorem A7.of (g:mz W):∀{D:List (List ap)},D.length<=W.row.length->(∀s∈D,∀n∈s,n∈nm W)->D6 W eG D->A7 W eG (D.map (bU (nm W))) (bU (nm W) D.flatten):=by
 intro D;induction hl:D.length generalizing D with
 |zero=>intro _ _ _;rw[Mc.mp hl,DH,r9,iM];exact .nil
 |succ m j =>
 intro t b F;obtain⟨A,l,rfl⟩:∃A l,D=A++[l]:=⟨D.dropLast,D.getLast (by intro z;rw[z] at hl;cases hl),(RF _).symm⟩;have o:A.length=m:=by simp at hl;exact hl
 have p:D6 W eG A:=λk s e=>by
  have q:k<A.length:=by
   rcases gg k A.length with z | z
   .exact z
   rw[G_ z] at e;cases e
  have:=F k s (by rw[FV q];exact e)
  rwa [RA yT] at this
 have r:=j o yT (λs h=>b s (Fa _ h)) p;have f:=F A.length l (by rw[M_ (l_ _)];simp);rw[fI rfl] at f;have d:=b l ze;have c:∀n∈A.flatten,n∈nm W:=λn a=>by obtain⟨s,h,a⟩:=E6.mp a;exact b s (Fa _ h) n a
 have:=A7.snoc r (by rw[d_];omega) (f:=bU (nm W) l) (GU.mpr ⟨nF _,by
  rw[d_]
  exact f.congr (λx=>by rw[iQ g];exact⟨λz=>⟨c x z,z⟩,λz=>z.2⟩) λx=>by rw[iQ g];exact⟨λz=>⟨d x z,z⟩,λz=>z.2⟩⟩)
 rw[iR _ _ _ λx i z=>f.apart i z.2 z.1] at this;rw[v_,MS];simpa using this
theorem Dj (b:mz W):∀x∈nm W,x∈pk W (zd W - 1):=λx a=>by
 have c:bU (nm W) (nm W)=zd W - 1:=by
  have:=iB (nm W) (nm W) [] λy d=>by simp [d]
  rw[iM,lH] at this;unfold zd;omega
 rw[<- c,iQ b];exact⟨a,a⟩
theorem lJ (h:∀x∈nm W,x∈A):bU (nm W) A=zd W - 1:=by
 have:=iB (nm W) A [] λy a=>by simp [h y a]
 rw[iM,lH] at this;unfold zd;omega
theorem A7.dok (c:mz W) (r:A7 W eG b (zd W - 1)):Bn W (b.map (pk W))/\D6 W eG (b.map (pk W)):=by
 obtain⟨_,g,j,d,_⟩:=r.ok c;have e:∀s∈b.map (pk W),s.Nodup/\∀n∈s,n∈W.tasks.map (·.1):=λs h=>by obtain⟨i,_,rfl⟩:=k_.mp h;exact⟨YK c i,λn a=>iz a⟩
 refine⟨⟨by rw[d_];exact g,λx f=>?_,Mx d e,λn a=>(j n).mp (Dj c n a)⟩,d⟩;obtain⟨s,h,a⟩:=E6.mp f;exact (e s h).2 x a
theorem A7.ofD (a:mz W) (h:Bn W D) (F:D6 W eG D):A7 W eG (D.map (bU (nm W))) (zd W - 1):=by
 have:=A7.of a h.rw (λs b=>(h.in b).2) F
 rwa [lJ h.al] at this
def bF (i:Nat):T:=.int (i:Int)
def EM (W:Wk) (eG:Int) (p:ah):List (ap × T):=[("works",W.enc),("beat",.int eG),("rules",.ref p),("whole",.int ((zd W:Int) - 1))]
structure CF (C:ah) (W:Wk) (eG:Int) (H:gV) (a:ah):Prop where
 ex:∃p,H a=ab (.ins C (EM W eG p))/\H p=ab (.lst (W.tasks.map (B5 W (W.tasks.map (·.1)))))
theorem CF.sub (h:CF C W eG H a) (s:gb H H'):CF C W eG H' a:=by
 obtain⟨p,c,b⟩:=h.ex;exact⟨p,s _ _ c,s _ _ b⟩
theorem wy:aP "works" (EM W eG p)=ab W.enc:=rfl
theorem MN:aP "beat" (EM W eG p)=ab (.int eG):=by unfold EM aP;rw[y9 Ap];unfold aP;rw[zi rfl]
theorem wz:aP "rules" (EM W eG p)=ab (.ref p):=by unfold EM aP;rw[y9 Ap];unfold aP;rw[y9 Ap];unfold aP;rw[zi rfl]
theorem pI:aP "whole" (EM W eG p)=ab (.int ((zd W:Int) - 1)):=by unfold EM aP;rw[y9 Ap];unfold aP;rw[y9 Ap];unfold aP;rw[y9 Ap];unfold aP;rw[zi rfl]
theorem rZ (h:m∉(["works","beat","rules","whole"]:List ap)):aP m (EM W eG p)=af:=by
 simp only[o_,B8,B7,not_or] at h;unfold EM;simp only[aP];rw[y9 (aS h.1),y9 (aS h.2.1),y9 (aS h.2.2.1),y9 (aS h.2.2.2)]
theorem Vk (a:mz W) (h:i<zd W):y3 (W.tasks.map (·.1)) (pk W i)=(i:Int):=by
 rw[cI];exact Q_ Int.ofNat (f9 a h)
theorem nG (a:mz W):zd W<=256:=KW (n:=2) y6 a.t8
theorem j5 (W:Wk):0<zd W:=sq y6
def Qj:Au:=λts H Q=>∃N:Nat,ts=[.int (N:Int)]/\N<256/\∀p,H p=af->Q (.ref p) (eH H p (.lst ((wu N).map bF)))
def MP (C:ah):Au:=λts H Q=>∃(a:ah) (W:Wk) (eG:Int),ts=[.ref a,W.enc,.int eG]/\mz W/\H a=ab (.ins C [])/\∀H',(∀b o,b≠a->H b=ab o->H' b=ab o)->CF C W eG H' a->Q .non H'
def Vl (C:ah):Au:=λts H Q=>∃(a:ah) (W:Wk) (eG:Int) (k d:Nat),ts=[.ref a,.int (k:Int),.int (d:Int)]/\mz W/\CF C W eG H a/\k<W.row.length/\d<zd W/\∀p,H p=af->Q (.ref p) (eH H p (.lst ((AZ W eG k d).map bF)))
def Qk (C:ah):Au:=λts H Q=>∃(a:ah) (W:Wk) (eG:Int) (i:Nat),ts=[.ref a,.int (i:Int)]/\mz W/\CF C W eG H a/\i<zd W/\Q (.int (cB W.tasks (pk W i))) H
def Vm (C:ah):Au:=λts H Q=>∃(a:ah) (W:Wk) (eG:Int) (b:List Nat),ts=[.ref a,.tup (b.map bF)]/\mz W/\CF C W eG H a/\b.length<=8/\(∀f∈b,f<zd W)/\Q (.tup ((b.map (pk W)).map sT)) H
section
variable {α:Type}
def bK (k:Nat):List (Nat × α)->Option α
 |[]=>af
 | (k',v)::r=>if k'=k then ab v else bK k r
def AX (k:Nat) (v:α) (E:List (Nat × α)):List (Nat × α) :=
 if (E.any λe=>decide (e.1=k))=ag then E.map (λe=>if e.1=k then (e.1,v) else e) else E++[(k,v)]
def dI (a:α->T) (E:List (Nat × α)):List (Int × T):=E.map λe=>((e.1:Int),a e.2)
theorem yJ (a:α->T) (E:List (Nat × α)):(dI a E).length=E.length:=d_ _
theorem jk (a:α->T) (k:Nat):∀E:List (Nat × α),cX (k:Int) (dI a E)=(bK k E).map a
 |[]=>rfl
 | (k',v)::r=>by
  have b:=jk a k r
  unfold dI at b |-
  rw[z_]
  unfold cX bK
  by_cases h:k'=k
  ·
   rw[zi h,zi (show ((k':Nat):Int)=(k:Int) by rw[h])];rfl
  ·
   rw[y9 h,y9 (show ¬((k':Nat):Int)=(k:Int) by omega),b]
theorem Ie (a:α->T) (k:Nat) (v:α) (E:List (Nat × α)):qp (k:Int) (a v) (dI a E)=dI a (AX k v E):=by
 have c:((dI a E).any λb=>decide (b.1=(k:Int)))=E.any λe=>decide (e.1=k):=by unfold dI;rw[pV];congr 1;funext e;show decide ((e.1:Int)=(k:Int))=decide (e.1=k);rw[MI];omega
 unfold qp AX;rw[c];split
 .unfold dI;rw[L_,L_];refine C7 λe _=>?_;show (if (e.1:Int)=(k:Int) then ((e.1:Int),a v) else ((e.1:Int),a e.2))=_;show _=((((if e.1=k then (e.1,v) else e).1:Nat):Int),a (if e.1=k then (e.1,v) else e).2);by_cases h:e.1=k
  .rw[zi h,zi (by rw[h])]
  rw[y9 h,y9 yT]
 unfold dI;rw[v_];rfl
theorem dJ:∀{E:List (Nat × α)},bK k E=ab v->(k,v)∈E
 | (k',v')::r,h=>by
  unfold bK at h
  by_cases e:k'=k
  ·
   rw[zi e] at h;cases h;subst e;exact n_
  ·
   rw[y9 e] at h;exact A_ _ (dJ h)
theorem jH:∀{E:List (Nat × α)},bK k E=af->∀e∈E,e.1≠k
 | (k',v')::r,h,e,a=>by
  unfold bK at h
  by_cases z:k'=k
  ·
   rw[zi z] at h;cases h
  ·
   rw[y9 z] at h
   rcases o_.mp a with rfl | a
   ·
    exact z
   ·
    exact jH h e a
theorem Dk (k:Nat) (v:α) (E:List (Nat × α)):(AX k v E).map (·.1)=if k∈E.map (·.1) then E.map (·.1) else E.map (·.1)++[k]:=by
 have a:(E.any λe=>decide (e.1=k))=decide (k∈E.map (·.1)):=by rw[CA,F7,q_,k_];exact⟨λ⟨e,h,z⟩=>⟨e,h,DB z⟩,λ⟨e,h,z⟩=>⟨e,h,N_ z⟩⟩
 unfold AX;rw[a];by_cases h:k∈E.map (·.1)
 .rw[zi h,zi (N_ h),L_];refine C7 λe _=>?_;show (if e.1=k then (e.1,v) else e).1=e.1;split <;> rfl
 rw[y9 h,y9 (Kv h),v_];rfl
theorem iT {e:Nat × α} (h:e∈AX k v E):e=(k,v)\/(e∈E/\e.1≠k)\/(e∈E/\k∉E.map (·.1)):=by
 unfold AX at h;split at h
 .obtain⟨x,a,rfl⟩:=k_.mp h;by_cases z:x.1=k
  .rw[zi z,z];exact .inl rfl
  rw[y9 z];exact .inr (.inl ⟨a,z⟩)
 rename_i b;rcases F_.mp h with h | h
 .refine .inr (.inr ⟨h,λz=>b ?_⟩);obtain⟨x,a,e⟩:=k_.mp z;exact F7.mpr ⟨x,a,N_ e⟩
 exact .inl (i_.mp h)
theorem j6 (k:Nat) (v:α) (E:List (Nat × α)):(k,v)∈AX k v E:=by
 unfold AX;split
 .rename_i h;obtain⟨x,a,e⟩:=F7.mp h;refine k_.mpr ⟨x,a,?_⟩;have:=DB e;rw[zi this,this]
 exact Da _ (i_.mpr rfl)
theorem pJ {e:Nat × α} (h:e∈E) (a:e.1≠k):e∈AX k v E:=by
 unfold AX;split
 .exact k_.mpr ⟨e,h,y9 a⟩
 exact Fa _ h
theorem j7 {E:List (Nat × α)} (h:(E.map (·.1)).Nodup):((AX k v E).map (·.1)).Nodup:=by
 rw[Dk];split
 .exact h
 rename_i z;exact m5 h z
theorem nH:∀{E:List (Nat × α)},(E.map (·.1)).Nodup->(k,v)∈E->bK k E=ab v
 | (k',v')::r,nd,h=>by
  rw[z_,DJ] at nd
  unfold bK
  rcases o_.mp h with e | h
  ·
   cases e;rw[zi rfl]
  ·
   rw[y9 (λz=>nd.1 (by rw[z];exact k_.mpr ⟨_,h,rfl⟩))]
   exact nH nd.2 h
end
def AH (v:Int × List Nat):T:=.tup [.int v.1,.tup (v.2.map bF)]
abbrev Ev:=List (Nat × Int × List Nat)
def A5 (W:Wk) (i:Nat):Int:=cB W.tasks (pk W i)
def DO (W:Wk) (a:List Nat):Int:=(a.map λf=>A5 W f^2).sum
def stp (W:Wk) (d:Nat) (v:Int × List Nat) (B:Ev) (f:Nat):Ev:=match bK (d+f) B with
 |none=>AX (d+f) (v.1+A5 W f^2,v.2++[f]) B
 |some u=>if v.1+A5 W f^2<u.1 then AX (d+f) (v.1+A5 W f^2,v.2++[f]) B else B
def QP (W:Wk) (eG:Int) (k:Nat) (E:Ev):Ev:=E.foldl (λB e=>(AZ W eG k e.1).foldl (stp W e.1 e.2) B) []
def AM (W:Wk) (eG:Int):Nat->Ev
 |0=>[(0,0,[])]
 |k+1=>QP W eG k (AM W eG k)
structure OL (W:Wk) (eG:Int) (k:Nat) (E:Ev):Prop where
 nd:(E.map (·.1)).Nodup
 ok:∀e∈E,A7 W eG e.2.2 e.1/\e.2.2.length=k/\e.2.1=DO W e.2.2
 al:∀fs d,A7 W eG fs d->fs.length=k->∃e∈E,e.1=d/\e.2.1<=DO W fs
theorem wA (W:Wk) (a:List Nat) (f:Nat):DO W (a++[f])=DO W a+A5 W f^2:=by
 unfold DO;rw[v_,kS];simp
structure Fk (W:Wk) (eG:Int) (k:Nat) (sub:Nat->Int × List Nat->Nat->Prop) (B:Ev):Prop where
 nd:(B.map (·.1)).Nodup
 ok:∀e∈B,A7 W eG e.2.2 e.1/\e.2.2.length=k+1/\e.2.1=DO W e.2.2
 al:∀d v f,sub d v f->∃e∈B,e.1=d+f/\e.2.1<=v.1+A5 W f^2
theorem Fk.step (h:Fk W eG k sub B) (r:A7 W eG v.2 d) (o:v.2.length=k) (t:v.1=DO W v.2) (w:k<W.row.length) (p:f∈AZ W eG k d):
  Fk W eG k (λd' i g=>sub d' i g\/(d'=d/\i=v/\g=f)) (stp W d v B f):=by
 have j:A7 W eG (v.2++[f]) (d+f)/\(v.2++[f]).length=k+1/\v.1+A5 W f^2=DO W (v.2++[f]) :=
  ⟨.snoc r yT (by rw[o];exact p),by rw[b_,o];rfl,by rw[wA,t]⟩
 unfold stp;cases e:bK (d+f) B with
 |none =>
  refine⟨j7 h.nd,λx a=>?_,λd' i g b=>?_⟩
  .rcases iT a with rfl | ⟨a,_⟩ | ⟨a,_⟩
   .exact j
   .exact h.ok x a
   exact h.ok x a
  rcases b with b | ⟨rfl,rfl,rfl⟩
  .obtain⟨x,a,l,m⟩:=h.al d' i g b;exact⟨x,pJ a (jH e x a),l,m⟩
  exact⟨_,j6 _ _ _,rfl,IY _⟩
 |some u =>
  have s:=dJ e
  show Fk W eG k _ (if v.1+A5 W f^2<u.1 then AX (d+f) (v.1+A5 W f^2,v.2++[f]) B else B)
  by_cases c:v.1+A5 W f^2<u.1
  ·
   rw[zi c]
   refine⟨j7 h.nd,λx a=>?_,λd' i g b=>?_⟩
   ·
    rcases iT a with rfl | ⟨a,_⟩ | ⟨a,_⟩
    ·
     exact j
    ·
     exact h.ok x a
    ·
     exact h.ok x a
   ·
    rcases b with b | ⟨rfl,rfl,rfl⟩
    ·
     obtain⟨x,a,l,m⟩:=h.al d' i g b
     by_cases z:x.1=d+f
     ·
      have n:x.2=u:=by
       have q:=nH h.nd (show (x.1,x.2)∈B from a)
       rw[z,e] at q
       exact (T_ q).symm
      exact⟨_,j6 _ _ _,by rw[<- l,z],by rw[n] at m;show v.1+A5 W f^2<=_;omega⟩
     ·
      exact⟨x,pJ a z,l,m⟩
    ·
     exact⟨_,j6 _ _ _,rfl,IY _⟩
  ·
   rw[y9 c]
   refine⟨h.nd,h.ok,λd' i g b=>?_⟩
   rcases b with b | ⟨rfl,rfl,rfl⟩
   ·
    exact h.al d' i g b
   ·
    exact⟨_,s,rfl,by show u.1<=_;omega⟩
theorem Fk.inner (o:A7 W eG v.2 d) (p:v.2.length=k) (q:v.1=DO W v.2) (t:k<W.row.length):
  ∀{xs:List Nat},(∀f∈xs,f∈AZ W eG k d)->Fk W eG k sub B->Fk W eG k (λd' b a=>sub d' b a\/(d'=d/\b=v/\a∈xs)) (xs.foldl (stp W d v) B):=by
 intro xs;induction xs generalizing sub B with
 |nil=>intro _ h;exact⟨h.nd,h.ok,λd' b a e=>h.al d' b a (e.resolve_right λz=>nomatch z.2.2)⟩
 |cons f r n =>
 intro j h;have i:=n (λg s=>j g (A_ _ s)) (h.step o p q t (j f n_));refine⟨i.nd,i.ok,λd' b a e=>i.al d' b a ?_⟩;rcases e with e | ⟨l,m,c⟩
 .exact .inl (.inl e)
 rcases o_.mp c with c | c
 .exact .inl (.inr ⟨l,m,c⟩)
 exact .inr ⟨l,m,c⟩
theorem Fk.outer (g:k<W.row.length):∀{xs:Ev}{sub:Nat->Int × List Nat->Nat->Prop}{B:Ev},(∀e∈xs,A7 W eG e.2.2 e.1/\e.2.2.length=k/\e.2.1=DO W e.2.2)->Fk W eG k sub B ->
  Fk W eG k (λd v f=>sub d v f\/((d,v)∈xs/\f∈AZ W eG k d)) (xs.foldl (λB e=>(AZ W eG k e.1).foldl (stp W e.1 e.2) B) B)
 |[],_,_,_,h=>⟨h.nd,h.ok,λd v f a=>h.al d v f (a.resolve_right λz=>nomatch z.1)⟩
 |e::r,sub,B,hx,h=>by
  obtain⟨m,l,n⟩:=hx e n_
  have q:=Fk.outer g (xs:=r) (λx b=>hx x (A_ _ b)) (Fk.inner (xs:=AZ W eG k e.1) m l n g (λf j=>j) h)
  refine⟨q.nd,q.ok,λd v f a=>q.al d v f ?_⟩
  rcases a with a | ⟨i,c⟩
  ·
   exact .inl (.inl a)
  ·
   rcases o_.mp i with z | z
   ·
    rw[<- z] at *
    exact .inl (.inr ⟨rfl,rfl,c⟩)
   ·
    exact .inr ⟨z,c⟩
theorem A7.inv (r:A7 W eG c d) (b:c.length=k+1):∃a d' f,c=a++[f]/\d=d'+f/\A7 W eG a d'/\a.length=k/\f∈AZ W eG k d':=by
 cases r with
 |nil=>cases b
 |@snoc a d' f r g e =>
  have:a.length=k:=by rw[b_] at b;simp at b;exact b
  exact⟨a,d',f,rfl,rfl,r,this,by rw[<- this];exact e⟩
theorem Ig (h:OL W eG k E) (o:k<W.row.length):OL W eG (k+1) (QP W eG k E):=by
 have q:=Fk.outer (W:=W) (eG:=eG) o (xs:=E) (sub:=λ_ _ _=>False) (B:=[]) h.ok ⟨KS,λ_ z=>(nomatch z),λ_ _ _ z=>z.elim⟩;refine⟨q.nd,q.ok,λt d r i=>?_⟩;obtain⟨j,d',f,rfl,rfl,l,a,c⟩:=r.inv i;obtain⟨e,n,g,p⟩:=h.al j d' l a;obtain⟨x,b,m,s⟩:=q.al d' e.2 f (.inr ⟨by rw[<- g];exact n,c⟩);exact⟨x,b,m,by rw[wA];omega⟩
theorem A7.nil0 (r:A7 W eG a d) (h:a=[]):d=0:=by
 cases r with
 |nil=>rfl
 |@snoc c d' f r e b=>exact As h ze
theorem iU:∀{k:Nat},k<=W.row.length->OL W eG k (AM W eG k)
 |0,_=>⟨by simp [AM],λe c=>by rw[i_.mp (show e∈[(0,0,[])] from c)];exact⟨.nil,rfl,rfl⟩,λf d r b=>by
  have a:=Mc.mp b
  exact⟨_,i_.mpr rfl,(r.nil0 a).symm,by rw[a];exact IY _⟩⟩
 |k+1,h=>Ig (iU (k:=k) yT) h
structure GY (W:Wk) (n:Nat) (E:Ev):Prop where
 nd:(E.map (·.1)).Nodup
 lt:∀e∈E,e.1<zd W/\e.2.2.length<=n/\∀f∈e.2.2,f<zd W
theorem GY.len (h:GY W n E):E.length<=zd W:=by
 have:=lF (l:=E.map (·.1)) (m:=ae (zd W)) h.nd λx a=>by obtain⟨e,b,rfl⟩:=k_.mp a;exact K_.mpr (h.lt e b).1
 rwa [d_,m_] at this
theorem ug (b:mz W) (h:d<zd W) (g:f∈AZ W eG k d):d+f<zd W:=by
 obtain⟨a,F⟩:=GU.mp g;have e:d+f=bU (nm W) (pk W d++pk W f):=by rw[<- iR _ _ _ λx c z=>F.apart c z.2 z.1,f9 b h,f9 b a]
 rw[e];exact nF _
theorem GY.stp (l:mz W) (h:GY W (n+1) B) (j:d<zd W) (m:v.2.length<=n) (e:∀f∈v.2,f<zd W) (i:f∈AZ W eG k d):GY W (n+1) (stp W d v B f):=by
 have b:GY W (n+1) (AX (d+f) (v.1+A5 W f^2,v.2++[f]) B):=⟨j7 h.nd,λx a=>by
  rcases iT a with rfl | ⟨a,_⟩ | ⟨a,_⟩
  ·
   refine⟨ug l j i,by rw[b_];simp;exact m,λg c=>?_⟩
   rcases F_.mp c with c | c
   ·
    exact e g c
   ·
    rw[i_.mp c];exact (GU.mp i).1
  ·
   exact h.lt x a
  ·
   exact h.lt x a⟩
 unfold M.stp;split
 .exact b
 split
 .exact b
 exact h
theorem OL.eok (a:mz W) (h:OL W eG k E):GY W k E:=⟨h.nd,λe b=>by
 obtain⟨r,f,_⟩:=h.ok e b;obtain⟨d,_,_,_,c⟩:=r.ok a;exact⟨d,yT,c⟩⟩
theorem uh (b:mz W) (S:List ap):0<=cB W.tasks S/\cB W.tasks S<10^61:=by
 have h:∀l:List (ap × Int × List ap),(∀t∈l,SW t)->0<=(l.map (·.2.1)).sum/\(l.map (·.2.1)).sum<=l.length*10^60:=by
  intro l;induction l with
  |nil=>intro _;exact⟨IY _,IY _⟩
  |cons t r e =>
  intro a;obtain⟨c,f⟩:=e λx d=>a x (A_ _ d);have q:=a t n_;have g:=q.lo;have i:=q.hi;rw[z_,FD,j_];constructor
  .omega
  push_cast
  omega
 obtain⟨c,f⟩:=h (W.tasks.filter λt=>decide (t.1∈S)) λt a=>b.tk t (D_.mp a).1;have j:(W.tasks.filter λt=>decide (t.1∈S)).length<=8:=U_ (DA _ _) b.t8;unfold cB;exact⟨c,yT⟩
theorem iV {x:Int}(c:0<=x) (b:x<10^61):x.natAbs<2^1000:=by
 have a:x.natAbs<10^61:=yT
 exact FE a Ap
def SZ (e:Nat × Int × List Nat):T:=.tup [.int (e.1:Int),AH e.2]
theorem YL (E:Ev):(dI AH E).map Os=E.map SZ:=by unfold dI;rw[L_];rfl
def MV (W:Wk) (eG:Int) (k:Nat) (B:Ev) (e:Nat × Int × List Nat):Ev:=(AZ W eG k e.1).foldl (stp W e.1 e.2) B
def YM (C:ah):Au:=λts H Q=>∃(a q:ah) (W:Wk) (eG:Int) (k n:Nat) (E:Ev),ts=[.ref a,.int (k:Int),.ref q]/\mz W/\CF C W eG H a/\k<W.row.length/\n<=8/\GY W n E/\H q=ab (.dci (dI AH E))/\∀o p,H p=af->Q (.ref p) (eH (eH H q (.dif o (dI AH E))) p (.dci (dI AH (QP W eG k E))))
def Vn (W:Wk) (eG:Int) (H:gV) (b:List ah):Prop:=∀(j:Nat) (a:ah),b[j]?=ab a->∃o,H a=ab (.dif o (dI AH (AM W eG j)))
def Vo (C:ah):Au:=λts H Q=>∃(a:ah) (W:Wk) (eG:Int) (m:Nat),ts=[.ref a,.int (m:Int)]/\mz W/\CF C W eG H a/\m<=W.row.length/\∀(H':gV) (p:ah) (b:List ah) (q:ah),gb H H'->b.length=m->H' p=ab (.lst (b.map yB++[.ref q]))->Vn W eG H' b->H' q=ab (.dci (dI AH (AM W eG m)))->Q (.ref p) H'
def EH (W:Wk) (eG:Int) (m:Nat):T:=match bK (zd W - 1) (AM W eG m) with
 |none=>.non
 |some v=>.tup [.int v.1,.tup ((v.2.map (pk W)).map sT)]
def YQ:Au:=λts H Q=>∃(W:Wk) (eG:Int) (m:Nat),ts=[W.enc,.int eG,.int (m:Int)]/\mz W/\m<=W.row.length/\Q (EH W eG m) H
theorem CF.frz (h:CF C W eG H a) (d:H q=ab (.dci E)):CF C W eG (eH H q o) a:=by
 obtain⟨p,c,b⟩:=h.ex;exact⟨p,by rw[aD (Nl c d ze)];exact c,by rw[aD (Nl b d ze)];exact b⟩
def CO (a:ah) (H H':gV):Prop:=∀b u,b≠a->H b=ab u->H' b=ab u
theorem CO.new (k:CO c H H') (d:H' p=af):CO c H (eH H' p o):=λb u a h=>by rw[aD (aR (k b u a h) d)];exact k b u a h
theorem CO.put (k:CO a H H'):CO a H (eH H' a o):=λb u c h=>by rw[aD c];exact k b u c h
theorem CO.wlk (k:CO e H H') (c:H e=af) (h:CF C W eG H a):CF C W eG H' a:=by
 obtain⟨p,d,b⟩:=h.ex;exact⟨p,k _ _ (aR d c) d,k _ _ (aR b c) b⟩
structure EI (W:Wk) (f:ap->Nat):Prop where
 ord:∀o∈W.orders,f o.1<=f o.2
 pai:∀p∈W.pairs,f p.2.1=f p.2.2↔p.1="with"
 kin:∀t∈W.tasks,iJ t.2.2 (W.row.getD (f t.1) "")=ag
theorem EI.congr (a:mz W) (h:EI W f) (e:∀n∈nm W,f n=g n):EI W g :=
 ⟨λo b=>by
  have q:=a.oo o b
  rw[<- e _ q.2.1,<- e _ q.2.2];exact h.ord o b,λp c=>by
  have q:=a.pp p c
  rw[<- e _ q.2.2.1,<- e _ q.2.2.2];exact h.pai p c,λt d=>by
  rw[<- e _ (k_.mpr ⟨t,d,rfl⟩)];exact h.kin t d⟩
def j' (ts:List (ap × Int × List ap)) (f:ap->Nat) (k:Nat):Int:=((ts.filter λt=>decide (f t.1=k)).map (·.2.1)).sum
def y' (W:Wk) (f:ap->Nat) (m:Nat):List Int:=(ae m).map (j' W.tasks f)
theorem Dl (e:∀t∈ts,f t.1=g t.1) (k:Nat):j' ts f k=j' ts g k:=by
 have:(ts.filter λt=>decide (f t.1=k))=ts.filter λt=>decide (g t.1=k):=IF λt a=>by rw[e t a]
 unfold j';rw[this]
theorem fC (e:∀n∈nm W,f n=g n) (m:Nat):y' W f m=y' W g m :=
 C7 λk _=>Dl (λt a=>e _ (k_.mpr ⟨t,a,rfl⟩)) k
theorem wB (A:List (ap × Int × List ap)) (t:ap × Int × List ap) (f:ap->Nat) (k:Nat):j' (A++[t]) f k=j' A f k+if f t.1=k then t.2.1 else 0:=by
 unfold j';rw[Ki,v_,kS];by_cases h:f t.1=k <;> simp [h]
theorem MT (h:f t.1<m):((ae m).map (j' A f)).set (f t.1) (j' A f (f t.1)+t.2.1)=(ae m).map (j' (A++[t]) f):=by
 apply GW;intro i;by_cases a:i<m
 .rw[u_,CI a];by_cases e:i=f t.1
  .subst e;rw[OO (by rw[d_,m_];exact a),FF,wB,zi rfl]
  rw[NU (aS e),u_,CI a,FF,FF,wB,y9 (aS e),qf]
 rw[G_ (by rw[kU,d_,m_];omega),G_ (by rw[d_,m_];omega)]
def Cd (ts:List (ap × Int × List ap)) (m c:Nat) (f:ap->Nat):Prop:=∀(i:Nat) (t:ap × Int × List ap),ts[i]?=ab t->f t.1=c / m^i%m
theorem Ql (d:1<=m) (h:ap->Nat) (a:∀n,h n<m):∀ts:List (ap × Int × List ap),∃c,c<m^ts.length/\Cd ts m c h
 |[]=>⟨0,ze,λi t e=>by simp at e⟩
 |t::r=>by
  obtain⟨c,g,b⟩:=Ql d h a r
  refine⟨h t.1+m*c,?_,λi u e=>?_⟩
  ·
   have j:=a t.1
   rw[j_,Iy]
   have f:m*(c+1)<=m*m^r.length:=Nat.mul_le_mul_left m g
   rw[Nat.mul_add,Nat.mul_one] at f
   rw[pE (m^r.length) m]
   omega
  ·
   cases i with
   |zero =>
    simp only[KA,Na] at e
    subst e
    rw[Nat.pow_zero,Nat.div_one,Nat.add_mul_mod_self_left,Nat.mod_eq_of_lt (a _)]
   |succ i =>
    have:=b i u (by simpa using e)
    rw[this,Iy,pE (m^i) m,<- kH,Nat.add_mul_div_left _ _ yT,Nat.div_eq_of_lt (a _),kG]
theorem Cd.eq (h:Cd W.tasks m c f) (e:Cd W.tasks m c g):∀n∈nm W,f n=g n:=λn b=>by
 obtain⟨t,d,rfl⟩:=k_.mp b;obtain⟨i,a⟩:=On d;rw[h i t a,e i t a]
theorem Ih (a:k<m):(ET ns f m)[k]?=ab (ns.filter λn=>decide (f n=k)):=by
 unfold ET;rw[u_,CI a];rfl
theorem Ii (b:mz W) (d:m<=W.row.length) (a:∀n,f n<m):∀n∈nm W,fD (ET (nm W) f m) n=f n:=λn c =>
 dH (lG b (ME _) d a).nd (Ih (a n)) (D_.mpr ⟨c,N_ rfl⟩)
theorem gh:cB W.tasks ((nm W).filter λn=>decide (f n=k))=j' W.tasks f k:=by
 have e:(W.tasks.filter λt=>decide (t.1∈(nm W).filter λn=>decide (f n=k)))=W.tasks.filter λt=>decide (f t.1=k):=IF λt a=>by rw[MI,D_,q_];exact⟨λz=>z.2,λz=>⟨k_.mpr ⟨t,a,rfl⟩,z⟩⟩
 unfold cB j';rw[e]
theorem Ij (a:mz W) (o:m<=W.row.length) (j:∀n,f n<m) (h:EI W f) (p:∀l∈y' W f m,l<=eG):D6 W eG (ET (nm W) f m):=by
 have c:Bn W (ET (nm W) f m):=lG (W:=W) a (ME _) o j;have e:=Ii a o j;have d:=h.congr a (g:=fD (ET (nm W) f m)) λn q=>(e n q).symm;refine (pH a c).mp ⟨d.ord,d.pai,λk s i t r b=>?_,λs b=>?_⟩
 .have:=dH c.nd i b;have:=d.kin t r
  rwa [dH c.nd i b] at this
 obtain⟨k,u,rfl⟩:=k_.mp b;show cB W.tasks ((nm W).filter λn=>decide (f n=k))<=eG
 rw[gh];exact p _ (k_.mpr ⟨k,u,rfl⟩)
def Cc (l:List Int):Int:=(l.map λx=>x*x).sum
theorem Dm (a:mz W):DO W ((ET (nm W) f m).map (bU (nm W)))=Cc (y' W f m):=by
 unfold DO Cc y' ET;rw[L_,L_,L_];refine Q_ List.sum (C7 λk _=>?_);show A5 W (bU (nm W) ((nm W).filter λn=>decide (f n=k)))^2=j' W.tasks f k*j' W.tasks f k;have:A5 W (bU (nm W) ((nm W).filter λn=>decide (f n=k)))=j' W.tasks f k:=by unfold A5;rw[<- gh];exact eQ λx=>by rw[iQ a];exact⟨λz=>z.2,λz=>⟨(D_.mp z).1,z⟩⟩
 rw[this,FU,FU,qc,ma]
theorem Ay (b:mz W) (a:m<=W.row.length) (c:∀n,f n<m) (h:EI W f) (g:∀l∈y' W f m,l<=eG):∃v,bK (zd W - 1) (AM W eG m)=ab v/\v.1<=Cc (y' W f m):=by
 have j:Bn W (ET (nm W) f m):=lG (W:=W) b (ME _) a c;have r:=A7.ofD b j (Ij b a c h g);obtain⟨e,k,i,d⟩:=(iU (W:=W) (eG:=eG) a).al _ _ r (by rw[d_,rW]);rw[Dm b] at d;exact⟨e.2,nH (iU a).nd (by rw[<- i];exact k),d⟩
theorem M3 (u:mz W) (C:m<=W.row.length) (h:bK (zd W - 1) (AM W eG m)=ab v):∃f:ap->Nat,(∀n,f n<m)/\EI W f/\(∀l∈y' W f m,l<=eG)/\Cc (y' W f m)=v.1:=by
 obtain⟨r,L,E⟩:=(iU (W:=W) (eG:=eG) C).ok _ (dJ h);have d:v.2.length=m:=L;have y:v.1=DO W v.2:=E;obtain⟨a,F⟩:=r.dok u;have R:=(pH u a).mpr F;have K:0<m:=by
  rcases nS m with z | z
  .subst z;have A:v.2=[]:=Mc.mp d;obtain⟨t,p⟩:∃t,t∈W.tasks:=List.exists_mem_of_length_pos (by have:=u.t1;omega);have:=a.al t.1 (k_.mpr ⟨t,p,rfl⟩);have G:((zd W - 1,v):Nat × Int × List Nat).2.2=[]:=A;rw[G] at this;cases this
  exact z
 have J:((zd W - 1,v):Nat × Int × List Nat).2.2=v.2:=rfl;rw[J] at a F R;have I:∀n∈nm W,fD (v.2.map (pk W)) n<m:=λn b=>by
  obtain⟨k,s,e,c⟩:=fB (a.al n b);rw[dH a.nd e c];have:k<(v.2.map (pk W)).length:=by
   rcases gg k (v.2.map (pk W)).length with z | z
   .exact z
   rw[G_ z] at e;cases e
  rwa [d_,d] at this
 have D:EI W (fD (v.2.map (pk W))):=⟨R.ord,R.pai,λt p=>by
  obtain⟨k,s,e,c⟩:=fB (a.al t.1 (k_.mpr ⟨t,p,rfl⟩))
  rw[dH a.nd e c]
  exact R.kin k s e t p c⟩
 have o:y' W (fD (v.2.map (pk W))) m=(v.2.map (A5 W)):=by
  apply GW;intro k;by_cases M:k<m
  .unfold y';rw[u_,CI M,u_,g_ (show k<v.2.length by omega)];show ab (j' W.tasks (fD (v.2.map (pk W))) k)=ab (A5 W v.2[k]);congr 1;have e:(v.2.map (pk W))[k]?=ab (pk W v.2[k]):=by rw[u_,g_ (show k<v.2.length by omega)];rfl
   unfold A5;rw[<- gh];refine eQ λx=>?_;rw[D_,q_];constructor
   .rintro⟨q,B⟩;obtain⟨N,s,w,c⟩:=fB (a.al x q);have:=dH a.nd w c;rw[B] at this;subst this;rw[e] at w;cases w;exact c
   intro q;exact⟨iz q,dH a.nd e q⟩
  unfold y';rw[G_ (by rw[d_,m_];omega),G_ (by rw[d_];omega)]
 refine⟨λn=>if n∈nm W then fD (v.2.map (pk W)) n else 0,λn=>?_,D.congr u λn b=>by rw[zi b],?_,?_⟩
 .show (if n∈nm W then fD (v.2.map (pk W)) n else 0)<m;split
  .exact I n (by assumption)
  exact K
 .rw[fC (g:=fD (v.2.map (pk W))) (λn b=>by rw[zi b]) m];intro l j;rw[o] at j;obtain⟨i,H,rfl⟩:=k_.mp j;exact R.bea _ (k_.mpr ⟨i,H,rfl⟩)
 rw[fC (g:=fD (v.2.map (pk W))) (λn b=>by rw[zi b]) m,o,y];unfold Cc DO;rw[L_];refine Q_ List.sum (C7 λi _=>?_);show A5 W i*A5 W i=A5 W i^2;rw[FU,FU,qc,ma]
def CU (W:Wk) (eG:Int) (k d:Nat):List Nat:=(CS bW (AZ W eG k d)).reverse
theorem ul (h:f∈CU W eG k d):f∈AZ W eG k d:=uf _ _ (Of.mp h)
theorem M4 (h:f∈AZ W eG k d):∃g∈CU W eG k d,bW g f=ag:=by
 obtain⟨g,a,e⟩:=Av Dh _ f h;exact⟨g,Of.mpr a,e⟩
theorem Ik (h:x∈gM W t) (a:t∈nm W):t∈gM W x:=by
 unfold gM at h |-;rw[D_,@q_ _ (ay _)] at h |-;exact⟨a,h.2.2,h.2.1⟩
theorem A7.grp (k:mz W) (r:A7 W eG n d) (c:t∈pk W d) (h:x∈gM W t):x∈pk W d:=by
 obtain⟨_,_,e,i,_⟩:=r.ok k;obtain⟨s,g,a⟩:=E6.mp ((e t).mp c);obtain⟨j,l⟩:=On g;obtain⟨u,m,b⟩:=k_.mp (iz c);have f:=(i j s l).one u m (by rw[b];exact a);exact (e x).mpr (E6.mpr ⟨s,g,f.2.2.1 x (by rw[b];exact h)⟩)
theorem yK (c:∀t∈ts,0<=t.2.1) (h:∀x∈a,x∈S):cB ts a<=cB ts S:=by
 unfold cB;induction ts with
 |nil=>exact IY _
 |cons t r e =>
  have i:=e λu f=>c u (A_ _ f)
  have g:=c t n_
  rw[LG,LG]
  by_cases b:t.1∈a
  ·
   rw[zi (N_ b),zi (N_ (h _ b)),z_,z_,FD,FD]
   omega
  ·
   rw[y9 (Kv b)]
   by_cases d:t.1∈S
   ·
    rw[zi (N_ d),z_,FD];omega
   ·
    rw[y9 (Kv d)];exact i
theorem EL.more (g:mz W) (f:EL W eG b D S) (j:∀x∈D,x∈c) (k:∀t x,t∈c->x∈gM W t->x∈c):EL W eG b c (S.filter λx=>decide (x∉c)) :=
 ⟨λt d e=>by
  rw[D_,q_] at e
  obtain⟨n,i,m,h,l⟩:=f.one t d e.1
  refine⟨e.2,i,λx a=>?_,λx a=>?_,λx a z=>l x a (D_.mp z).1⟩
  ·
   rw[D_,q_]
   exact⟨m x a,λz=>e.2 (k x t.1 z (Ik a (k_.mpr ⟨t,d,rfl⟩)))⟩
  ·
   by_cases z:x∈c
   ·
    exact .inr z
   ·
    exact .inl (D_.mpr ⟨(h x a).resolve_right λq=>z (j x q),N_ z⟩),
  Int.le_trans (yK (λt d=>by have:=(g.tk t d).lo;omega) λx a=>(D_.mp a).1) f.ld⟩
abbrev Wy:=List (Nat × List Nat)
def jo (d:Nat) (v:List Nat) (B:Wy) (f:Nat):Wy:=match bK (d+f) B with
 |none=>AX (d+f) (v++[f]) B
 |some _=>B
def RS (W:Wk) (eG:Int) (k:Nat) (E:Wy):Wy:=E.foldl (λB e=>(CU W eG k e.1).foldl (jo e.1 e.2) B) []
def DD (W:Wk) (eG:Int):Nat->Wy
 |0=>[(0,[])]
 |k+1=>RS W eG k (DD W eG k)
structure OS (W:Wk) (eG:Int) (k:Nat) (E:Wy):Prop where
 nd:(E.map (·.1)).Nodup
 ok:∀e∈E,A7 W eG e.2 e.1/\e.2.length=k
 al:∀fs d,A7 W eG fs d->fs.length=k->∃e∈E,∀x∈pk W d,x∈pk W e.1
structure FI (W:Wk) (eG:Int) (k:Nat) (sub:Nat->Nat->Prop) (B:Wy):Prop where
 nd:(B.map (·.1)).Nodup
 ok:∀e∈B,A7 W eG e.2 e.1/\e.2.length=k+1
 al:∀d f,sub d f->∃e∈B,e.1=d+f
theorem FI.step (h:FI W eG k sub B) (m:A7 W eG v d) (i:v.length=k) (n:k<W.row.length) (j:f∈AZ W eG k d):
  FI W eG k (λd' c=>sub d' c\/(d'=d/\c=f)) (jo d v B f):=by
 have g:A7 W eG (v++[f]) (d+f)/\(v++[f]).length=k+1 :=
  ⟨.snoc m yT (by rw[i];exact j),by rw[b_,i];rfl⟩
 unfold jo;cases e:bK (d+f) B with
 |none =>
  refine⟨j7 h.nd,λx a=>?_,λd' c b=>?_⟩
  .rcases iT a with rfl | ⟨a,_⟩ | ⟨a,_⟩
   .exact g
   .exact h.ok x a
   exact h.ok x a
  rcases b with b | ⟨rfl,rfl⟩
  .obtain⟨x,a,l⟩:=h.al d' c b;exact⟨x,pJ a (jH e x a),l⟩
  exact⟨_,j6 _ _ _,rfl⟩
 |some u =>
 refine⟨h.nd,h.ok,λd' c b=>?_⟩;rcases b with b | ⟨rfl,rfl⟩
 .exact h.al d' c b
 exact⟨_,dJ e,rfl⟩
theorem FI.inner (m:A7 W eG v d) (n:v.length=k) (p:k<W.row.length):
  ∀{xs:List Nat},(∀f∈xs,f∈AZ W eG k d)->FI W eG k sub B->FI W eG k (λd' a=>sub d' a\/(d'=d/\a∈xs)) (xs.foldl (jo d v) B):=by
 intro xs;induction xs generalizing sub B with
 |nil=>intro _ h;exact⟨h.nd,h.ok,λd' a c=>h.al d' a (c.resolve_right λz=>nomatch z.2)⟩
 |cons f r l =>
 intro i h;have e:=l (λg o=>i g (A_ _ o)) (h.step m n p (i f n_));refine⟨e.nd,e.ok,λd' a c=>e.al d' a ?_⟩;rcases c with c | ⟨j,b⟩
 .exact .inl (.inl c)
 rcases o_.mp b with b | b
 .exact .inl (.inr ⟨j,b⟩)
 exact .inr ⟨j,b⟩
theorem FI.outer (g:k<W.row.length):∀{xs:Wy}{sub:Nat->Nat->Prop}{B:Wy},(∀e∈xs,A7 W eG e.2 e.1/\e.2.length=k)->FI W eG k sub B ->
  FI W eG k (λd f=>sub d f\/((∃v,(d,v)∈xs)/\f∈CU W eG k d)) (xs.foldl (λB e=>(CU W eG k e.1).foldl (jo e.1 e.2) B) B)
 |[],_,_,_,h=>⟨h.nd,h.ok,λd f a=>h.al d f (a.resolve_right λz=>z.1.elim λ_ q=>nomatch q)⟩
 |e::r,sub,B,hx,h=>by
  obtain⟨m,l⟩:=hx e n_
  have q:=FI.outer g (xs:=r) (λx b=>hx x (A_ _ b)) (FI.inner (xs:=CU W eG k e.1) m l g (λf i=>ul i) h)
  refine⟨q.nd,q.ok,λd f a=>q.al d f ?_⟩
  rcases a with a | ⟨⟨v,j⟩,c⟩
  ·
   exact .inl (.inl a)
  ·
   rcases o_.mp j with z | z
   ·
    rw[<- z] at *
    exact .inl (.inr ⟨rfl,c⟩)
   ·
    exact .inr ⟨⟨v,z⟩,c⟩
theorem Il (a:mz W) (h:d<zd W) (g:f∈AZ W eG k d):x∈pk W (d+f)↔x∈pk W d\/x∈pk W f:=by
 obtain⟨b,F⟩:=GU.mp g;have e:d+f=bU (nm W) (pk W d++pk W f):=by rw[<- iR _ _ _ λx c z=>F.apart c z.2 z.1,f9 a h,f9 a b]
 rw[e,iQ a,F_];exact⟨λz=>z.2,λz=>⟨z.elim iz iz,z⟩⟩
theorem Im (a:mz W) (h:OS W eG k E) (L:k<W.row.length):OS W eG (k+1) (RS W eG k E):=by
 have q:=FI.outer (W:=W) (eG:=eG) L (xs:=E) (sub:=λ_ _=>False) (B:=[]) h.ok ⟨KS,λ_ z=>(nomatch z),λ_ _ z=>z.elim⟩;refine⟨q.nd,q.ok,λM d r I=>?_⟩;obtain⟨J,d',f,rfl,rfl,A,j,s⟩:=r.inv I;obtain⟨e,w,p⟩:=h.al J d' A j;have v:=(h.ok e w).1;have i:=(v.ok a).1;obtain⟨C,F⟩:=GU.mp s;have K:=F.more a p λt x G m=>v.grp a G m;have l:bU (nm W) ((pk W f).filter λx=>decide (x∉pk W e.1))∈AZ W eG k e.1:=GU.mpr ⟨nF _,K.congr (λx=>Iff.rfl) λx=>by rw[iQ a];exact⟨λz=>⟨iz (D_.mp z).1,z⟩,λz=>z.2⟩⟩;obtain⟨g,u,o⟩:=M4 l;have b:=ul u;obtain⟨x,m,H⟩:=q.al e.1 g (.inr ⟨⟨e.2,w⟩,u⟩);have n:=(GU.mp b).1;refine⟨x,m,λy D=>?_⟩;rw[H,Il a i b];rcases (Il a (A.ok a).1 s).mp D with z | z
 .exact .inl (p y z)
 by_cases c:y∈pk W e.1
 .exact .inl c
 refine .inr ?_;rw[<- f9 a n,wj] at o;exact o y (iz z) (D_.mpr ⟨z,N_ c⟩)
theorem Sc (b:mz W):∀{k:Nat},k<=W.row.length->OS W eG k (DD W eG k)
 |0,_=>⟨by simp [DD],λe f=>by rw[i_.mp f];exact⟨.nil,rfl⟩,λg d r c=>by
   refine⟨(0,[]),i_.mpr rfl,λx a=>?_⟩
   rw[r.nil0 (Mc.mp c)] at a
   exact a⟩
 |k+1,h=>Im b (Sc b yT) yT
structure IJ (W:Wk) (n:Nat) (E:Wy):Prop where
 nd:(E.map (·.1)).Nodup
 lt:∀e∈E,e.1<zd W/\e.2.length<=n/\∀f∈e.2,f<zd W
theorem IJ.len (h:IJ W n E):E.length<=zd W:=by
 have:=lF (l:=E.map (·.1)) (m:=ae (zd W)) h.nd λx a=>by obtain⟨e,b,rfl⟩:=k_.mp a;exact K_.mpr (h.lt e b).1
 rwa [d_,m_] at this
theorem IJ.stp (j:mz W) (h:IJ W (n+1) B) (i:d<zd W) (l:v.length<=n) (c:∀f∈v,f<zd W) (e:f∈AZ W eG k d):IJ W (n+1) (jo d v B f):=by
 unfold jo;split
 .refine⟨j7 h.nd,λx a=>?_⟩;rcases iT a with rfl | ⟨a,_⟩ | ⟨a,_⟩
  .refine⟨ug j i e,by rw[b_];simp;exact l,λg b=>?_⟩;rcases F_.mp b with b | b
   .exact c g b
   rw[i_.mp b];exact (GU.mp e).1
  .exact h.lt x a
  exact h.lt x a
 exact h
theorem OS.wok (a:mz W) (h:OS W eG k E):IJ W k E:=⟨h.nd,λe b=>by
 obtain⟨r,f⟩:=h.ok e b;obtain⟨d,_,_,_,c⟩:=r.ok a;exact⟨d,yT,c⟩⟩
abbrev Wk.nms (W:Wk):List ap:=W.tasks.map (·.1)
variable {f:ap->ap}
theorem iW {d j:Type}{g:d->j}:∀{l:List d},(∀a∈l,∀b∈l,g a=g b->a=b)->l.Nodup->(l.map g).Nodup
 |[],_,_=>KS
 |a::l,hf,h=>by
  rw[DJ] at h
  rw[z_,DJ]
  refine⟨λi=>?_,iW (λx f y k=>hf x (A_ _ f) y (A_ _ k)) h.2⟩
  obtain⟨b,c,e⟩:=k_.mp i
  exact h.1 (hf _ (A_ _ c) _ n_ e▸c)
def Wk.turn (W:Wk):Wk:=⟨W.tasks,W.orders.map λo=>(o.2,o.1),W.pairs,W.row.reverse⟩
theorem Bn.ldF (h:Bn W D) (e:D[k]?=ab s):cB W.tasks s=j' W.tasks (fD D) k:=by
 rw[<- gh];refine eQ λx=>?_;rw[D_,q_];constructor
 .intro a;exact⟨h.st x (E6.mpr ⟨s,EW e,a⟩),dH h.nd e a⟩
 rintro⟨a,d⟩;obtain⟨g,f,b,c⟩:=fB (h.al x a);have:=dH h.nd b c;rw[d] at this;subst this;rw[e] at b;cases b;exact c
def Sm (W:Wk) (eG:Int) (m:Nat) (s:Int):Prop:=∃f:ap->Nat,(∀n,f n<m)/\EI W f/\(∀l∈y' W f m,l<=eG)/\s=Cc (y' W f m)
theorem um (b:mz W) (a:m<=W.row.length) (h:bK (zd W - 1) (AM W eG m)=af) (s:Int):¬Sm W eG m s:=by
 rintro⟨f,d,c,g,_⟩;obtain⟨v,e,_⟩:=Ay b a d c g;rw[h] at e;cases e
theorem nM (b:mz W) (a:m<=W.row.length) (h:bK (zd W - 1) (AM W eG m)=ab v):Sm W eG m v.1/\∀s,Sm W eG m s->v.1<=s:=by
 obtain⟨f,k,i,l,j⟩:=M3 b a h;refine⟨⟨f,k,i,l,j.symm⟩,?_⟩;rintro s ⟨g,d,n,c,rfl⟩;obtain⟨p,e,o⟩:=Ay b a d n c;rw[h] at e;cases e;exact o
theorem Vp (a:mz W) {f:ap->Nat}:∀l∈y' W f m,0<=l/\l<10^61:=λl b=>by
 obtain⟨k,_,rfl⟩:=k_.mp b;rw[<- gh];exact uh a _
theorem Wt.sub (w:Wt c a H d) (s:gb H H'):Wt c a H' d:=w.kep (by obtain⟨ns,e,r⟩:=w.cl.ex;exact⟨ns,s _ _ e,r⟩) λb o h _=>s b o h
theorem M5 {ns:List Int} (d:M∈ns) (c:∀a∈ns,a<=M):decide (M<=eG)=ns.all λx=>decide (x<=eG):=by
 rw[CA,q_,W_];exact⟨λh x b=>N_ (Int.le_trans (c x b) h),λh=>DB (h M d)⟩
structure EV (f:ap->ap) (W W2:Wk):Prop where
 inj:∀a∈nm W,∀b∈nm W,f a=f b->a=b
 nmf:∀a∈nm W,AN (f a)
 tk:W2.tasks.Perm (W.tasks.map λt=>(f t.1,t.2))
 os:W2.orders.Perm (W.orders.map λo=>(f o.1,f o.2))
 ps:W2.pairs.Perm (W.pairs.map λp=>(p.1,f p.2.1,f p.2.2))
 rw:W2.row=W.row
theorem EV.nms (t:EV f W W2):(nm W2).Perm ((nm W).map f):=by
 have:=t.tk.map (·.1);unfold nm;rw[L_] at this |-;exact this
theorem EV.mem' (t:EV f W W2) (h:a∈nm W):f a∈nm W2:=t.nms.mem_iff.mpr (k_.mpr ⟨a,h,rfl⟩)
theorem EV.ok (t:EV f W W2) (d:mz W):mz W2:=by
 have k:∀{a b:ap},a∈nm W->b∈nm W->a≠b->f a≠f b:=λm j n e=>n (t.inj _ m _ j e);refine⟨?_,?_,λx i=>?_,t.nms.nodup_iff.mpr (iW t.inj d.nd),?_,?_,λx i=>?_,?_,?_,λx i=>?_,by rw[t.rw];exact d.r1,by rw[t.rw];exact d.r8,by rw[t.rw];exact d.rn⟩
 .rw[t.tk.length_eq,d_];exact d.t1
 .rw[t.tk.length_eq,d_];exact d.t8
 .obtain⟨u,g,rfl⟩:=k_.mp (t.tk.mem_iff.mp i);have h:=d.tk u g;exact⟨t.nmf _ (k_.mpr ⟨u,g,rfl⟩),h.lo,h.hi,h.ks,h.kl⟩
 .rw[t.os.length_eq,d_];exact d.os
 .refine t.os.nodup_iff.mpr (iW (λa m b j e=>?_) d.od);have c:=d.oo a m;have l:=d.oo b j;injection e with e1 e2;exact eJ (t.inj _ c.2.1 _ l.2.1 e1) (t.inj _ c.2.2 _ l.2.2 e2)
 .obtain⟨u,g,rfl⟩:=k_.mp (t.os.mem_iff.mp i);have c:=d.oo u g;exact⟨k c.2.1 c.2.2 c.1,t.mem' c.2.1,t.mem' c.2.2⟩
 .rw[t.ps.length_eq,d_];exact d.ps
 .refine t.ps.nodup_iff.mpr (iW (λa m b j e=>?_) d.pd);have c:=d.pp a m;have l:=d.pp b j;injection e with e1 e2;injection e2 with e2 e3;exact eJ e1 (eJ (t.inj _ c.2.2.1 _ l.2.2.1 e2) (t.inj _ c.2.2.2 _ l.2.2.2 e3))
 obtain⟨u,g,rfl⟩:=k_.mp (t.ps.mem_iff.mp i);have c:=d.pp u g;exact⟨c.1,k c.2.2.1 c.2.2.2 c.2.1,t.mem' c.2.2.1,t.mem' c.2.2.2⟩
theorem EV.hol (t:EV f W W2):EI W2 g↔EI W λn=>g (f n):=by
 constructor
 .intro H;exact⟨λo b=>H.ord _ (t.os.mem_iff.mpr (k_.mpr ⟨o,b,rfl⟩)),λp d=>H.pai _ (t.ps.mem_iff.mpr (k_.mpr ⟨p,d,rfl⟩)),
   λx a=>by have:=H.kin _ (t.tk.mem_iff.mpr (k_.mpr ⟨x,a,rfl⟩));rwa [t.rw] at this⟩
 intro H;refine⟨λo b=>?_,λp d=>?_,λx a=>?_⟩
 .obtain⟨o,e,rfl⟩:=k_.mp (t.os.mem_iff.mp b);exact H.ord o e
 .obtain⟨p,c,rfl⟩:=k_.mp (t.ps.mem_iff.mp d);exact H.pai p c
 obtain⟨x,h,rfl⟩:=k_.mp (t.tk.mem_iff.mp a);rw[t.rw];exact H.kin x h
theorem EV.lds (t:EV f W W2) (m:Nat):y' W2 g m=y' W (λn=>g (f n)) m:=by
 unfold M.y';refine C7 λk _=>?_;unfold j';have p:=(t.tk.filter λt=>decide (g t.1=k)).map (·.2.1);rw[j4 p,fR,L_];rfl
theorem nO (c:mz W):mz W.turn:=by
 refine⟨c.t1,c.t8,c.tk,c.nd,?_,?_,λx d=>?_,c.ps,c.pd,c.pp,?_,?_,λx d=>c.rn x (Of.mp d)⟩
 .show (W.orders.map _).length<=28;rw[d_];exact c.os
 .refine iW (λa _ b _ e=>?_) c.od;injection e with e1 e2;exact eJ e2 e1
 .obtain⟨o,f,rfl⟩:=k_.mp d;have:=c.oo o f;exact⟨aS this.1,this.2.2,this.2.1⟩
 .show 1<=W.row.reverse.length;rw[CH];exact c.r1
 show W.row.reverse.length<=8;rw[CH];exact c.r8
theorem Do (W:Wk):W.turn.turn=W:=by
 obtain⟨a,b,c,d⟩:=W;unfold Wk.turn;simp only[L_,l7];congr 1;exact List.map_id b
theorem M6 (r:mz W) (h:Bn W.turn D) (g:D.length=W.row.length) (R:JE W.turn eG D (fD D)):Bn W D.reverse/\JE W eG D.reverse (fD D.reverse):=by
 have b:D.reverse.flatten.Perm D.flatten:=(iL D).flatten;have u:Bn W D.reverse:=⟨by rw[CH,g];exact l_ _,λx y=>h.st x (b.mem_iff.mp y),b.nodup_iff.mpr h.nd,λn d=>b.mem_iff.mpr (h.al n d)⟩;have q:∀{k s},D[k]?=ab s->k<W.row.length:=λe=>by rw[<- g];exact (HV.mp e).1
 have a:∀n∈nm W,fD D n<W.row.length/\fD D.reverse n=W.row.length - 1 - fD D n:=λn d=>by obtain⟨k,s,e,c⟩:=fB (h.al n d);have:=q e;rw[dH h.nd e c];refine⟨this,dH u.nd (s:=s) ?_ c⟩;rw[LZ yT,g,show W.row.length - 1 - (W.row.length - 1 - k)=k by omega];exact e
 refine⟨u,λo m=>?_,λp b=>?_,λk s e t z c=>?_,λs c=>R.bea s (Of.mp c)⟩
 .have v:fD D o.2<=fD D o.1:=R.ord _ (k_.mpr ⟨o,m,rfl⟩);have ⟨_,j,l⟩:=r.oo o m;have i:=a _ j;have f:=a _ l;rw[i.2,f.2];omega
 .have v:fD D p.2.1=fD D p.2.2↔p.1="with":=R.pai p b;have ⟨_,j,l⟩:=(r.pp p b).2;have i:=a _ j;have f:=a _ l;rw[i.2,f.2,<- v];omega
 have A:k<D.length:=by have:=(HV.mp e).1;rwa [CH] at this
 rw[LZ A] at e;have w:=q e;have:=R.kin _ s e t z c;rw[<- this];show _=iJ t.2.2 (W.row.reverse.getD (D.length - 1 - k) "");congr 1;rw[y_,y_,LZ w];congr 2;omega
def HA (W:Wk) (D:List (List ap)):Int:=(D.map λs=>MH W.tasks s*MH W.tasks s).sum
theorem Bn.n8 (b:Bn W D) (a:mz W):∀ns∈D,ns.length<=8/\∀n∈ns,n∈W.tasks.map (·.1):=λs c=>by
 have q:=b.in c;have h:=lF q.1 q.2;rw[d_] at h;exact⟨U_ h a.t8,q.2⟩
theorem Bn.sm (b:Bn W D) (a:mz W) (c:s∈D):MH W.tasks s=cB W.tasks s:=by
 have q:=b.in c;rw[YD a.nd q.1 q.2,nA]
theorem YS (a:mz W) (h:Bn W D):DO W (D.map (bU (nm W)))=HA W D:=by
 unfold DO HA;rw[L_];congr 1;refine C7 λs b=>?_;have e:A5 W (bU (nm W) s)=MH W.tasks s:=by rw[h.sm a b];refine eQ λx=>?_;rw[iQ a];exact⟨λz=>z.2,λz=>⟨(h.in b).2 x z,z⟩⟩
 show A5 W (bU (nm W) s)^2=_;rw[e,FU,FU,qc,ma]
structure OM (W:Wk) (eG:Int) (m:Nat) (v:Int × List Nat):Prop where
 ok:Bn W (v.2.map (pk W))
 l:(v.2.map (pk W)).length=m
 r:JE W eG (v.2.map (pk W)) (fD (v.2.map (pk W)))
 e:v.1=HA W (v.2.map (pk W))
theorem uo (a:mz W) (f:m<=W.row.length) (h:bK (zd W - 1) (AM W eG m)=ab v):OM W eG m v:=by
 obtain⟨r,e,g⟩:=(iU (eG:=eG) f).ok _ (dJ h);obtain⟨b,F⟩:=r.dok a;have c:=(r.ok a).2.2.2.2;have d:(v.2.map (pk W)).map (bU (nm W))=v.2:=by
  rw[L_]
  conv=>rhs;rw[<- List.map_id v.2]
  exact C7 λi j=>f9 a (c i j)
 exact⟨b,by rw[d_];exact e,(pH a b).mpr F,by rw[<- YS a b,d];exact g⟩
theorem EV.sm (t:EV f W l) (o:mz W):Sm l b m s↔Sm W b m s:=by
 constructor
 .rintro⟨g,c,d,j,i⟩;exact⟨λn=>g (f n),λn=>c _,t.hol.mp d,by rw[<- t.lds];exact j,by rw[<- t.lds];exact i⟩
 rintro⟨h,c,d,j,i⟩
 classical
 let g:ap->Nat:=λx=>if z:∃n,n∈nm W/\f n=x then h (kn z) else h ""
 have e:∀n∈nm W,h n=g (f n):=λn k=>by
  have z:∃a,a∈nm W/\f a=f n:=⟨n,k,rfl⟩;show h n=if z:∃a,a∈nm W/\f a=f n then h (kn z) else h ""
  rw[dif_pos z];have:=Classical.choose_spec z;rw[t.inj _ this.1 _ k this.2]
 refine⟨g,λn=>?_,t.hol.mpr (d.congr o e),by rw[t.lds,<- fC e];exact j,by rw[t.lds,<- fC e];exact i⟩;show (if z:∃a,a∈nm W/\f a=n then h (kn z) else h "")<m;split
 .exact c _
 exact c _
theorem Io (h:a.Perm b):Cc a=Cc b:=j4 (h.map _)
theorem Ip (b:∀n,g n<W.row.length):(y' W.turn (λn=>W.row.length - 1 - g n) W.row.length)=(y' W g W.row.length).reverse:=by
 apply GW;intro i;unfold y';rw[<- Mb,u_,u_];by_cases a:i<W.row.length
 .rw[CI a,LZ (by rw[m_];exact a),m_,CI yT];show ab _=ab _;unfold j';congr 3;refine IF λx _=>?_;rw[MI];have:=b x.1;show W.row.length - 1 - g x.1=i↔g x.1=W.row.length - 1 - i;omega
 rw[G_ (by rw[m_];omega),G_ (by rw[CH,m_];omega)];rfl
theorem Az (h:Sm W b W.row.length s):Sm W.turn b W.row.length s:=by
 obtain⟨g,a,c,q,e⟩:=h;have d:=Ip a;refine⟨λn=>W.row.length - 1 - g n,λn=>by have:=a n;show W.row.length - 1 - g n<W.row.length;omega,⟨λo f=>?_,λp i=>?_,λt j=>?_⟩,by rw[d];exact λl k=>q l (Of.mp k),by rw[d,e];exact Io (iL _).symm⟩
 .obtain⟨u,m,rfl⟩:=k_.mp f;have:=c.ord u m;have:=a u.1;have:=a u.2;show W.row.length - 1 - g u.2<=W.row.length - 1 - g u.1;omega
 .rw[<- c.pai p i];have:=a p.2.1;have:=a p.2.2;show W.row.length - 1 - g p.2.1=W.row.length - 1 - g p.2.2↔_;omega
 have:=c.kin t j;have e:=a t.1;rw[<- this];show iJ t.2.2 (W.row.reverse.getD (W.row.length - 1 - g t.1) "")=_;congr 1;rw[y_,y_,LZ yT];congr 2;omega
theorem wC:Sm W.turn b W.row.length s↔Sm W b W.row.length s:=by
 refine⟨λh=>?_,Az⟩;have e:W.turn.row.length=W.row.length:=CH;rw[<- e] at h;have:=Az h
 rwa [Do,e] at this
theorem Ba (l:mz W) (c:mz a) (k:m<=W.row.length) (d:m<=a.row.length) (h:∀s,Sm a b m s↔Sm W b m s) (e:bK (zd W - 1) (AM W b m)=ab v):∃f,bK (zd a - 1) (AM a b m)=ab f/\f.1=v.1:=by
 obtain⟨i,o⟩:=nM l k e;cases g:bK (zd a - 1) (AM a b m) with
 |none=>exact As ((h _).mpr i) (um c d g _)
 |some f =>
 obtain⟨n,j⟩:=nM c d g;exact⟨f,rfl,sL (j _ ((h _).mpr i)) (o _ ((h _).mp n))⟩
theorem Bb (g:mz W) (c:mz a) (f:m<=W.row.length) (d:m<=a.row.length) (h:∀s,Sm a b m s↔Sm W b m s) (e:bK (zd W - 1) (AM W b m)=af):bK (zd a - 1) (AM a b m)=af:=by
 cases i:bK (zd a - 1) (AM a b m) with
 |none=>rfl
 |some j=>exact As ((h _).mp (nM c d i).1) (um g f e _)
theorem Bn.lds (h:Bn W D):D.map (cB W.tasks)=y' W (fD D) D.length:=by
 apply GW;intro i;unfold M.y';rw[u_,u_];by_cases a:i<D.length
 .have e:=g_ a;rw[CI a,e];exact Q_ ab (h.ldF e)
 rw[G_ yT,G_ (by rw[m_];omega)];rfl
theorem Bc (a:mz W) (h:Bn W D):HA W D=Cc (y' W (fD D) D.length):=by
 rw[<- h.lds];unfold HA Cc;rw[L_];congr 1;refine C7 λs b=>?_;show _=cB W.tasks s*cB W.tasks s;rw[h.sm a b]
theorem M7:HA W.turn D=HA W D.reverse:=j4 ((iL D).symm.map _)
def Cb (f:ap->ap) (W:Wk) (D:List (List ap)):List (List ap):=D.map λs=>(nm W).filter λn=>decide (f n∈s)
structure QU (W:Wk) (eG:Int) (D:List (List ap)) (due:Int):Prop where
 ok:Bn W D
 r:JE W eG D (fD D)
 e:due=HA W D
theorem YT (t:EV f W i) (r:mz W) (h:Bn i D) (R:JE i eG D (fD D)):QU W eG (Cb f W D) (HA i D):=by
 have C:=t.ok r;have u:∀{k:Nat} {l:List ap},(Cb f W D)[k]?=ab l->∃s,D[k]?=ab s/\l=(nm W).filter λn=>decide (f n∈s):=λe=>by unfold Cb at e;rw[u_,Option.map_eq_some_iff] at e;obtain⟨s,e,z⟩:=e;exact⟨s,e,z.symm⟩
 have c:∀{n:ap} {s:List ap},n∈(nm W).filter (λn=>decide (f n∈s))↔n∈nm W/\f n∈s:=by intro n s;rw[D_,q_]
 have A:Bn W (Cb f W D):=by
  refine⟨by unfold Cb;rw[d_,<- t.rw];exact h.rw,λx g=>?_,?_,λn j=>?_⟩
  .obtain⟨l,m,g⟩:=E6.mp g;obtain⟨k,e⟩:=On m;obtain⟨s,_,rfl⟩:=u e;exact (c.mp g).1
  .unfold Cb n9;rw[List.pairwise_flatten,Nd];refine⟨λl m=>?_,?_⟩
   .obtain⟨s,_,rfl⟩:=k_.mp m;exact r.nd.filter _
   have w:=(List.pairwise_flatten.mp h.nd).2;refine w.imp λ{a b} B x g y I z=>?_;subst z;exact B _ (c.mp g).2 _ (c.mp I).2 rfl
  obtain⟨k,s,e,d⟩:=fB (h.al (f n) (t.mem' j));exact E6.mpr ⟨_,k_.mpr ⟨s,EW e,rfl⟩,c.mpr ⟨j,d⟩⟩
 have v:∀n∈nm W,fD (Cb f W D) n=fD D (f n):=λn j=>by obtain⟨k,s,e,d⟩:=fB (h.al (f n) (t.mem' j));rw[dH h.nd e d];refine dH A.nd (k:=k) (s:=(nm W).filter λn=>decide (f n∈s)) ?_ (c.mpr ⟨j,d⟩);unfold Cb;rw[u_,e];rfl
 have G:(Cb f W D).length=D.length:=by unfold Cb;rw[d_]
 have F:y' W (fD (Cb f W D)) (Cb f W D).length=y' i (fD D) D.length:=by rw[t.lds,G];exact fC v _
 refine⟨A,⟨λo E=>?_,λp w=>?_,λk l e x g d=>?_,λl m=>?_⟩,by rw[Bc C h,Bc r A,F]⟩
 .have q:=r.oo o E;rw[v _ q.2.1,v _ q.2.2];exact R.ord _ (t.os.mem_iff.mpr (k_.mpr ⟨o,E,rfl⟩))
 .have q:=r.pp p w;rw[v _ q.2.2.1,v _ q.2.2.2];exact R.pai _ (t.ps.mem_iff.mpr (k_.mpr ⟨p,w,rfl⟩))
 .obtain⟨s,H,rfl⟩:=u e;have:=R.kin k s H _ (t.tk.mem_iff.mpr (k_.mpr ⟨x,g,rfl⟩)) (c.mp d).2
  rwa [t.rw] at this
 have:cB W.tasks l∈y' i (fD D) D.length:=by rw[<- F,<- A.lds];exact k_.mpr ⟨l,m,rfl⟩
 rw[<- h.lds] at this;obtain⟨s,d,e⟩:=k_.mp this;rw[<- e];exact R.bea s d
theorem OM.bk (E:OM W eG m v):QU W eG (v.2.map (pk W)) v.1:=⟨E.ok,E.r,E.e⟩
theorem OM.rev (c:mz W) (E:OM W.turn eG W.row.length v):QU W eG (v.2.map (pk W.turn)).reverse v.1:=by
 obtain⟨a,b⟩:=M6 c E.ok E.l E.r;exact⟨a,b,by rw[E.e];exact M7⟩
def YW:Au:=λts H Q=>∃(W:Wk) (D:List (List ap)),ts=[W.enc,.tup (D.map sT)]/\D.length<=W.row.length/\Q .non H
def Qm:Au:=λts H Q=>∃(W:Wk) (D:List (List ap)),ts=[.tup (D.map sT)]/\mz W/\Bn W D/\Q .non H
def Dp:Au:=λts H Q=>∃(W:Wk) (D:List (List ap)),ts=[W.enc,.tup (D.map sT)]/\mz W/\Bn W D/\Q .non H
def Dq:Au:=λts H Q=>∃(W:Wk) (eG:Int) (D:List (List ap)),ts=[W.enc,.tup (D.map sT)]/\mz W/\Bn W D/\JE W eG D (fD D)/\Q .non H
def M8:Au:=λts H Q=>∃(W:Wk) (eG:Int) (D:List (List ap)),ts=[W.enc,.int eG,.tup (D.map sT)]/\mz W/\Bn W D/\JE W eG D (fD D)/\Q .non H
theorem Bn.f8 (h:Bn W D) (a:mz W):D.flatten.length<=8:=by
 have:=lF h.nd h.st;rw[d_] at this;exact U_ this a.t8
theorem Vq (g:oh) (W:Wk) (Z:AJ) (H:gV) (Q:AJ->gV->Prop):uX 4 g W.enc Z H Q=(True/\g [.tup (W.tasks.map AE),.tup (W.orders.map AG),.tup (W.pairs.map AW),.tup (W.row.map yy)] Z H Q):=propext ⟨λh=>⟨zC,h.2⟩,λh=>⟨rfl,h.2⟩⟩
def oF (ns ws:List ap) (n:ap):ap:=ws.getD (ns.idxOf n) ""
def dS (ns:List ap) (f:ap->ap):List (ap × T):=ns.map λn=>(n,yy (f n))
theorem uq:∀{ns:List ap},n∈ns->aP n (dS ns f)=ab (yy (f n))
 |x::r,h=>by
  unfold dS
  rw[z_]
  unfold aP
  by_cases e:x=n
  ·
   rw[zi e,e]
  ·
   rw[y9 e]
   exact uq (ns:=r) ((o_.mp h).resolve_left (aS e))
theorem Vr (h:n∉ns):AT n (yy (f n)) (dS ns f)=dS (ns++[n]) f:=by
 unfold AT dS;rw[y9 (by
  intro e
  rw[F7] at e
  obtain⟨x,a,e⟩:=e
  obtain⟨y,b,rfl⟩:=k_.mp a
  exact h (DB e▸b)),v_]
 rfl
theorem Bd (a:ns.Nodup) (c:ws.length=ns.length) (b:k<ns.length):ws[k]?=ab (oF ns ws ns[k]):=by
 unfold oF;rw[a.idxOf_getElem k b,y_,g_ yT];rfl
theorem Vs (d:ns.Nodup) (c:ws.length=ns.length) (n:ws.Nodup):∀a∈ns,∀b∈ns,oF ns ws a=oF ns ws b->a=b:=λa l b g e=>by
 obtain⟨i,m,rfl⟩:=L9 l;obtain⟨j,h,rfl⟩:=L9 g;have f:=Bd d c m;have k:=Bd d c h;rw[e,<- k] at f;have:=(List.getElem?_inj yT n).mp f;subst this;rfl
theorem M9 (xs:List (ap × Int × List ap)):(xs.map AE).all (pl 20)=ag:=by
 rw[W_];intro t a;obtain⟨x,_,rfl⟩:=k_.mp a;show ([yy x.1,yv x.2.1,.tup (x.2.2.map yy)]:List T).all (pl 19)=ag;rw[nh,nh,nh];show (ag&&(ag&&((x.2.2.map yy).all (pl 18)&&ag)))=ag;rw[show (x.2.2.map yy).all (pl 18)=ag from by rw[W_];intro t a;obtain⟨y,_,rfl⟩:=k_.mp a;rfl];rfl
def Vt:Au:=λts H Q=>∃(d:ah) (x:T) (xs:List T),ts=[.ref d,x]/\((∃a,x=.ref a/\H a=ab (.lst xs))\/x=.tup xs)/\xs.all (pl 20)=ag/\xs.length<=60/\Cl H d/\∀(c:List T) (b:gV) (p:ah),c.Perm xs->Co d H b->b p=af->Q (.ref p) (eH b p (.lst c))
def YX:Au:=λts H Q=>∃W:Wk,ts=[W.enc]/\mz W/\Q W.turn.enc H
def Qn:Au:=λts H Q=>∃(d:ah) (W:Wk),ts=[.ref d,W.enc]/\mz W/\Cl H d/\∀(f:ap->ap) (W2:Wk) (q:ah) (H':gV),EV f W W2->Co d H H'->H' q=af->Q (.tup [W2.enc,.ref q]) (eH H' q (.dct (dS (nm W) f)))
def YZ:Au:=λts H Q=>∃(W:Wk) (f:ap->ap) (q:ah) (D:List (List ap)),ts=[.tup (D.map sT),.ref q]/\mz W/\1<=D.length/\D.length<=8/\(∀s∈D,s.length<=8)/\H q=ab (.dct (dS (nm W) f))/\∀(o:dP) (H':gV),(∀b u,b≠q->H b=ab u->H' b=ab u)->H' q=ab (.dsf o (dS (nm W) f))->Q (.tup ((Cb f W D).map sT)) H'
def Y0:Au:=λts H Q=>∃(W:Wk) (eG:Int) (D:List (List ap)) (a:Int),ts=[W.enc,.int eG,.tup (D.map sT),.int a]/\mz W/\QU W eG D a/\Q (.bl ag) H
theorem Be (ns:List ap) (f:ap->ap):(dS ns f).map IZ=ns.map yy:=by unfold dS;rw[L_];rfl
theorem Nf (h:H q=ab (.dct kvs)\/∃o,H q=ab (.dsf o kvs)) (k:∀(o:dP) (H2:gV),H2 q=ab (.dsf o kvs)->(∀b,b≠q->H2 b=H b)->R (kvs.map IZ) (lE q o kvs) H2):Q2 (.ref q) H R:=by
 rw[Pz];rcases h with h | ⟨o,h⟩
 .rw[h,PB];exact λo=>k o _ aC λb a=>aD a
 rw[h,PJ];exact k o H h λ_ _=>rfl
theorem Ng {K:a3}{st:eB} (D:R8 P w K c base k x st b sp) (h:∀ts H Q,a ts H Q->sp ts H Q):R8 P w K c base k x st b a:=by
 obtain⟨f,d,g,F⟩:=D.ex;refine⟨f,d,g,EE.imp F λvs H Q E q=>?_⟩;obtain⟨ts,H3,e,r,i,q,k⟩:=q;exact⟨ts,H3,e,r,i,h _ _ _ q,k⟩
theorem Ir {K:a3}{st:eB} (D:R8 P w K c base k x st b Vt):R8 P w K c base k x st b Mg:=Ng D λts H Q ⟨d,a,xs,e,j,f,h,g,i,q⟩=>⟨d,_,xs,e,.inl ⟨a,rfl,f⟩,h,g,i,q⟩
def AV (v:List Nat):T:=.tup (v.map bF)
def Sn (e:Nat × List Nat):T:=.tup [.int (e.1:Int),AV e.2]
theorem Y4 (E:Wy):(dI AV E).map Os=E.map Sn:=by unfold dI;rw[L_];rfl
def MO (W:Wk) (eG:Int) (k:Nat) (B:Wy) (e:Nat × List Nat):Wy:=(CU W eG k e.1).foldl (jo e.1 e.2) B
def Y5:Au:=λts H Q=>∃(a:ah) (b:List Nat),ts=[.ref a]/\H a=ab (.lst (b.map bF))/\b.length<=256/\∀p,H p=af->Q (.ref p) (eH H p (.lst ((CS bW b).reverse.map bF)))
theorem ut (a:b->b->Bool):∀xs:List b,(CS a xs).length<=xs.length
 |[]=>l_ _
 |n::B=>by
  have:=ut a B
  unfold CS
  split
  ·
   rw[j_];omega
  ·
   rw[b_,j_];simp only[j_,FR];omega
def Y6 (C:ah):Au:=λts H Q=>∃(a:ah) (W:Wk) (eG:Int) (k d:Nat),ts=[.ref a,.int (k:Int),.int (d:Int)]/\mz W/\CF C W eG H a/\k<W.row.length/\d<zd W/\∀p,H p=af->Q (.ref p) (eH H p (.lst ((CU W eG k d).map bF)))
def Y7 (C:ah):Au:=λts H Q=>∃(a q:ah) (W:Wk) (eG:Int) (k n:Nat) (E:Wy),ts=[.ref a,.int (k:Int),.ref q]/\mz W/\CF C W eG H a/\k<W.row.length/\n<=8/\IJ W n E/\H q=ab (.dci (dI AV E))/\∀o p,H p=af->Q (.ref p) (eH (eH H q (.dif o (dI AV E))) p (.dci (dI AV (RS W eG k E))))
def OV (W:Wk) (eG:Int) (m:Nat):T:=match bK (zd W - 1) (DD W eG m) with
 |none=>.non
 |some v=>.tup ((v.map (pk W)).map sT)
def Y8:Au:=λts H Q=>∃(W:Wk) (eG:Int) (m:Nat),ts=[W.enc,.int eG,.int (m:Int)]/\mz W/\m<=W.row.length/\Q (OV W eG m) H
def Qo:Au:=λts H Q=>∃(W:Wk),ts=[W.enc]/\mz W/\W.tasks.length<=5/\∀(H':gV) (p:ah) (us:List Int),gb H H'->0<us.length->us.length<=64->H' p=ab (.lst (us.map yv))->Q (.ref p) H'
def Qp:Au:=λts H Q=>∃(W:Wk) (m:Nat),ts=[W.enc,.int (m:Int)]/\mz W/\W.tasks.length<=5/\m<=W.row.length/\∀(H':gV) (t:T),gb H H'->(t=.non\/∃c:Int,t=.int c)->Q t H'
theorem Qq (W:Wk) (b:Int) (m:Nat):OV W b m=.non\/∃ts,OV W b m=.tup ts:=by
 unfold OV;split
 .exact .inl rfl
 exact .inr ⟨_,rfl⟩
def Y9:Au:=λts H Q=>∃(W:Wk) (q:ah) (f:ap->Nat),ts=[W.enc,.ref q]/\mz W/\H q=ab (.dct (dN (nm W) f))/\(∀n,f n<W.row.length)/\∀b:Bool,(b=ag↔EI W f)->Q (.bl b) H
def OI (H:gV) (a:List (ah × List Int)):Prop:=∀x∈a,H x.1=ab (.lst (x.2.map yv))
def Za:Au:=λts H Q=>∃(W:Wk) (m:Nat),ts=[W.enc,.int (m:Int)]/\mz W/\1<=m/\m<=W.row.length/\m^W.tasks.length<=1000000/\∀(H':gV) (p:ah) (a:List (ah × List Int)),gb H H'->a.length<=1000000->H' p=ab (.lst (a.map λx=>yB x.1))->OI H' a->(∀l,l∈a.map (·.2)↔∃f:ap->Nat,(∀n,f n<m)/\EI W f/\l=y' W f m)->Q (.ref p) H'
theorem Iu:∀{us vs:List Int},us.Pairwise (·<·)->vs.Pairwise (·<·)->(∀x,x∈us↔x∈vs)->us=vs
 |[],[],_,_,_=>rfl
 |[],v::_,_,_,h=>As ((h v).mpr n_) (λz=>nomatch z)
 |u::_,[],_,_,h=>As ((h u).mp n_) (λz=>nomatch z)
 |u::us,v::vs,hu,hv,h=>by
  rw[List.pairwise_cons] at hu hv
  have e:u=v:=by
   have f:=(h u).mp n_
   have d:=(h v).mpr n_
   rcases o_.mp f with e | f
   ·
    exact e
   ·
    rcases o_.mp d with e | d
    ·
     exact e.symm
    ·
     have a:=hv.1 u f
     have b:=hu.1 v d
     omega
  subst e
  rw[Iu hu.2 hv.2 λx=>?_]
  have c:=h x
  rw[o_,o_] at c
  constructor
  ·
   intro z
   rcases c.mp (.inr z) with e | e
   ·
    have:=hu.1 x z;omega
   ·
    exact e
  ·
   intro z
   rcases c.mpr (.inr z) with e | e
   ·
    have:=hv.1 x z;omega
   ·
    exact e
def GH (W:Wk) (a:List Nat):List Nat:=(ae (zd W)).filter λd=>decide (d∈a)
theorem Vu {c:i->T}{E:List (Nat × i)} (k:(E.map (·.1)).Nodup) (j:∀e∈E,e.1<zd W) (h:us.Perm ((dI c E).map (·.1))) (m:us.Pairwise λx y=>GO.kle x y):us=(GH W (E.map (·.1))).map λ(d:Nat)=>(d:Int):=by
 have l:(dI c E).map (·.1)=(E.map (·.1)).map λ(d:Nat)=>(d:Int):=by unfold dI;rw[L_,L_];rfl
 rw[l] at h;have g:us.Nodup:=h.nodup_iff.mpr (p9 _ (λa b (q:a≠b)=>by omega) k);have key:∀x y:Int,decide (y<x)=am->x≠y->x<y:=λx y a b=>by have:=of_decide_eq_false a;omega
 refine Iu ?_ ?_ λx=>?_
 .refine (m.and g).imp λ{x y} q=>?_;exact key _ _ q.1 q.2
 .refine p9 _ (λa b (q:a<b)=>by omega) ?_;exact List.Pairwise.filter _ (e5)
 rw[h.mem_iff,k_,k_];unfold GH;constructor
 .rintro⟨d,f,rfl⟩;obtain⟨e,n,rfl⟩:=k_.mp f;exact⟨e.1,D_.mpr ⟨K_.mpr (j e n),N_ f⟩,rfl⟩
 rintro⟨d,f,rfl⟩;exact⟨d,DB (D_.mp f).2,rfl⟩
theorem Iv (W:Wk) (a:List Nat):(GH W a).length<=zd W:=U_ (DA _ _) (by rw[m_];exact l_ _)
def Md (W:Wk) (k d:Nat) (v:Int):T:=.tup [.int (k:Int),sT (pk W d),.int v]
theorem Bf (f:Nat->Nat) (c:Nat) (h:∀k,f k<=c):∀xs:List Nat,(xs.map f).sum<=c*xs.length
 |[]=>B6 _
 |x::r=>by
  have b:=Bf f c h r
  have a:=h x
  rw[z_,FD,j_,Nat.mul_succ]
  omega
def N0 (W:Wk) (k:Nat) (E:Ev):List T:=(GH W (E.map (·.1))).map λd=>Md W k d ((bK d E).getD (0,[])).1
def j8 (W:Wk) (eG:Int) (m:Nat):List T:=(ae m).flatMap λk=>N0 W k (AM W eG k)
def Zb:Au:=λts H Q=>∃(W:Wk) (eG:Int) (m:Nat),ts=[W.enc,.int eG,.int (m:Int)]/\mz W/\W.tasks.length<=5/\m<=W.row.length/\∀p,H p=af->Q (.ref p) (eH H p (.lst (j8 W eG (m+1))))
theorem Zp (e:Vn W eG H c) (f:H q=ab (.dci (dI AH (AM W eG c.length)))) (h:(c++[q])[j]?=ab a):∃u,H a=ab u/\(∀H Q,L5 (ab u) H Q=((dI AH (AM W eG j)).length<64/\∀us:List Int,us.Perm ((dI AH (AM W eG j)).map (·.1))->us.Pairwise (λx y=>GO.kle x y)->∀p,H p=af->Q (.ref p) (eH H p (.lst (us.map yv)))))/\(∀k H Q,MC (ab u) k H Q=oq (cX k (dI AH (AM W eG j))) λt=>Q t H)/\∀ts,u≠.lst ts:=by
 by_cases d:j<c.length
 .rw[FV d] at h;obtain⟨o,g⟩:=e j a h;exact⟨_,g,λ_ _=>rfl,λ_ _ _=>rfl,λ_=>by simp⟩
 have b:j=c.length:=by have:=(HV.mp h).1;rw[b_,E_] at this;omega
 rw[M_ yT,b,pz] at h;rw[b,<- T_ (show ab q=ab a from h)];exact⟨_,f,λ_ _=>rfl,λ_ _ _=>rfl,λ_=>by simp⟩
theorem Zc (c:mz W) (e:bK (zd W - 1) (AM W b m)=ab v):yA [.int (m:Int),.tup ((nm W).map yy),.int v.1]∈j8 W b (m+1):=by
 have f:1<=zd W:=Nat.one_le_two_pow;unfold j8;rw[OE];refine⟨m,K_.mpr (IL _),?_⟩;unfold N0 GH;refine k_.mpr ⟨zd W - 1,D_.mpr ⟨K_.mpr yT,N_ (k_.mpr ⟨_,dJ e,rfl⟩)⟩,?_⟩;have d:pk W (zd W - 1)=nm W:=by rw[<- lJ (W:=W) (A:=nm W) λx h=>h,Qi c];exact List.filter_eq_self.mpr λx a=>N_ a
 rw[e];unfold Md sT;rw[d];rfl
theorem Zd (W:Wk) (b:Int) (m:Nat):(j8 W b m).all (pl 20)=ag:=by
 rw[W_];intro t a;unfold j8 at a;obtain⟨k,_,a⟩:=OE.mp a;obtain⟨d,_,rfl⟩:=k_.mp a;show (pl 19 (.int (k:Int))&&(pl 19 (sT (pk W d))&&(pl 19 (.int _)&&ag)))=ag;rw[show pl 19 (sT (pk W d))=ag from W_.mpr λt a=>by obtain⟨y,_,rfl⟩:=k_.mp a;rfl];rfl
section
variable {K:a3}
def Bg:Au:=λts H Q=>∃(a:ah) (ns:List Int),ts=[.ref a]/\H a=ab (.rol (ns.map yv))/\ns.length<=63/\∀H',Q (.bl ag) H'
abbrev Iw:List ap:=[DT,At,BE,Bi,"_law_least",LO,"_law_sums",Iq,AF,IQ,"_law_about","_law_named","_law_due"]
theorem E3:fY Iw [DT] (aA (yY 72)):=aZ
theorem Vv {f:ah} (g:G3 K mg "law" (yY 72) [DT] f fd) (B:Bl mg) (R:R8 P w K mg base 1 "_law_numbers" (yY 54) [DT] P0) (F_works:R8 P w K mg base 5 "_law_works" (yY 65) [At,BI,"_law_stands"] Yw) (F:R8 P w K mg base 8 "least_beat" (yY 52) ["works","many"] Qp) (F_beat:R8 P w K mg base 3 "_law_beat" (yY 66) [At,BE] YJ) (U:R8 P w K mg base 1 EA (yY 55) [At,BI] pC) (F_every:R8 P w K mg base 2 "_law_every" (yY 68) [BE,Bi] Za) (I:R8 P w K mg base 3 "_law_otherwise" (yY 69) [At,BE] Qn) (m:R8 P w K mg base 7 "most_even" (yY 31) ["works","beat","many"] YQ) (u:R8 P w K mg base 1 "turned_about" (yY 21) ["works"] YX) (y:R8 P w K mg base 5 "_law_right" (yY 71) [BE,LO,IM,"_law_due"] Y0) (C:R8 P w K mg base 1 "_law_named_back" (yY 70) [IM,AF] YZ) (D:R8 P w K mg base 7 "even_table" (yY 30) ["works","beat","many"] Zb):lW P w K mg base 9 f fd [DT] Bg:=by
 refine LN g.fn E3 (λts H Q h=>?_) (λcdv A f' s H E ts H3 Q G h=>?_)
 .obtain⟨a,ns,rfl,_⟩:=h;rfl
 have hu30:=Pr.u30 G;have hu31:=Pr.u31 G;obtain⟨a,ns,rfl,ha,h63,k⟩:=h;refine⟨_,(ak (aG 1 E3.nd (aH R G rfl (aa y8 aj)))
   (ak (aG 2 E3.nd (aH F_works G rfl (aa zo (aa au (aa au aj)))))
   (ak (aG 3 E3.nd (aQ b8 rfl B.len_ cg (aa (aK zD zt au) aj)))
   (ak (aG 4 E3.nd (aH F G rfl (aa zt (aa z4 aj))))
   (ak (aG 5 E3.nd (aH F_beat G rfl (aa zo (aa zt aj))))
   (ak (bD (BG.pt (dw (aU Ug AD cG) (dm (aU (cL hu30) (aH U G rfl (aa zo (aa au aj))) au)))) (ao (aG 5 E3.nd (aL bf AD (aH U G rfl (aa zo (aa au aj)))))) aW)
   (ak (ie (i:=6) rfl E3.nd (b6 72 Iw ["_law_loads",LO] 1 [5]) (bJ (aH F_every G rfl (aa zt (aa z4 aj)))) (λcl ZO s H C0 fp=>⟨(aB 0 (n7 ["_law_loads",LO])),(dR (aU Ew (aQ (zV rfl) rfl B.max_ yc (aa y8 aj)) zo)),(aQ (lu rfl) rfl B.sum_ lw (aa (bx rfl (zK (n00:=(aA (yY 72)).names) (N:=["_law_loads",LO]) (N':=["_law_load"]) (nt:=1) (cap:=[]) rfl rfl rfl Ap) (bJ y8) (λcl ZO s H C0 fp=>⟨(aB 0 (n7 ["_law_load"])),bG,(aL z8 y8 y8)⟩)) aj))⟩))
   (ak (ou (aH I G rfl (aa zo (aa zt aj))) (bH (n:=2) rfl (aF (aB 7 E3.nd) (aF (aB 8 E3.nd) bh))))
   (ak (aG 9 E3.nd (aH m G rfl (aa zt (aa AI (aa z4 aj)))))
   (ak (aG 10 E3.nd (aH m G rfl (aa (aH u G rfl (aa zt aj)) (aa AI (aa z4 aj)))))
   (ak (aG 11 E3.nd (aH m G rfl (aa BO (aa AI (aa z4 aj)))))
   (ak (bD (aU (cL hu30) BU (bI aj)) (ao (aJ (xQ (du mq E8 cG) (xQ (du mq (v3 10) cG) (lr (du mq (v3 11) cG)))))) aW)
   (ak (aG 12 E3.nd (aQ (Lb rfl) rfl B.min_ Tn (aa BU aj)))
   (ak (bD (BG.pt (lV (aU mq E8 cG) (lV (aU mq (v3 10) cG) (lV (aU mq (v3 11) cG) (lq (aU (jO hu30) (bI (aa (aK zD E8 au) (aa (aK zD (v3 10) au) (aa (aK zD (v3 11) au) aj)))) (bI (aa (v3 12) (aa (v3 12) (aa (v3 12) aj)))))))))) (ao (aJ eO)) aW)
   (ak (bD (BG.pt (lV (gZ (cJ (aH y G rfl (aa zt (aa AI (aa (aK zD E8 au) (aa (v3 12) aj))))))) (lq (gZ (cJ (aH y G rfl (aa zt (aa AI (aa (KQ (aK zD (v3 10) au) (fP (oW au))) (aa (v3 12) aj)))))))))) (ao (aJ eO)) aW)
   (ak (bD (gZ (cJ (aH y G rfl (aa zt (aa AI (aa (aH C G rfl (aa (aK zD (v3 11) au) (aa BN aj))) (aa (v3 12) aj))))))) (ao (aJ eO)) aW)
   (ao (aJ (du (q9 hu31) (bc (aa z4 (aa (bu (Lf G) rfl B.tuple_ bT (aa BN aj)) (aa (v3 12) aj)))) (aH D G rfl (aa zt (aa AI (aa z4 aj)))) rfl))))))))))))))))))),?_⟩
 walk_at "q";walk_at "h";have k':=g8.mk k;clear k;walk_at "s";refine⟨a,ns,rfl,ha,h63,λd H4 hsub hd hC=>?_⟩;have w0:Wt d H4 H4 []:=⟨hC,A4.refl,(λ_ h=>nomatch h)⟩;clear hC hsub hd ha;walk_at "n";walk_at "s";refine⟨d,5,3,rfl,y6,y6,y6,y6,w0.cl,λW H5 hW t5 r3 Y=>?_⟩;have w1:=w0.drw Y;clear w0 Y;have j:=g8.mk hW;have t5':W.tasks.length<=5:=yT
 have r3':W.row.length<=3:=yT
 have r1:1<=W.row.length:=hW.r1;clear hW t5 r3;walk_at "n";walk_at "s";walk_at "n";walk_at "s";refine⟨W,W.row.length,rfl,j.out,t5',l_ _,λH7 t sb hb=>?_⟩;have w3:=w1.sub sb;clear w1 sb;walk_at "n";walk_at "s";refine⟨d,W,rfl,j.out,w3.cl,λeG H8 _ Y=>?_⟩;have w4:=w3.drw Y;clear w3 Y;walk_at "n";refine aq λR5 hR5=>?_;have key:∀(b:Int) (H:gV),Wt d H4 H []->R5 { nx:=λ_ H'=>My Q .non H',rt:=My Q} [ab (.ref a),ab (.ref d),ab W.enc,ab (.int (W.row.length:Int)),ab t,ab (.int b),af,af,af,af,af,af,af] H:=by
  intro b H w;walk_at "n";clear w4 hb;try dsimp only
  refine aq λR6 hR6=>?_;walk_at "";have hmn:W.row.length^W.tasks.length<=1000000:=by have h1:W.row.length^W.tasks.length<=3^W.tasks.length:=Nat.pow_le_pow_left yT _;have h2:3^W.tasks.length<=3^5:=KW y6 t5';omega
  refine⟨W,W.row.length,rfl,j.out,r1,l_ _,hmn,λH8 p AL sb hl gp ga hAL=>?_⟩;have w5:Wt d H4 H8 []:=w.sub sb;have hbd:g8 (∀x∈AL,(∀l∈x.2,0<=l/\l<10^61)/\x.2≠[]/\x.2.length<=8):=⟨λx hx=>by
   obtain⟨f,_,_,e⟩:=(hAL x.2).mp (k_.mpr ⟨x,hx,rfl⟩)
   have hlen:x.2.length=W.row.length:=by rw[e];unfold y';rw[d_,m_]
   refine⟨by rw[e];exact Vp j.out,λz=>?_,yT⟩
   rw[z,FR] at hlen
   omega⟩
  have V:=g8.mk hAL;have ga':=g8.mk ga;clear w sb hAL ga hmn;show Nn (yB p) H8 _;rw[rA,gp,lX];walk_at "c";refine cP (λx:ah × List Int=>yB x.1) AL (λA ys Z H=>∃v:Option T,Z=[v,ab (.int b)]/\ys=((A.filter λx=>x.2.all λl=>decide (l<=b)).map λx=>yv (Cc x.2))/\gb H8 H) ⟨_,rfl,rfl,gb.refl⟩ ?_ ?_;rotate_left
  .rintro A x B ys Z H' N2 e ⟨v,rfl,rfl,L⟩ F';refine⟨.inl (L _ _ gp),?_⟩;have hx:x∈AL:=by rw[e];simp
   have gx:=L _ _ (ga'.out x hx);obtain⟨b1,b2,b3⟩:=hbd.out x hx;have ei:=cN x.2;have hlA:((A.filter λx=>x.2.all λl=>decide (l<=b)).map λx=>yv (Cc x.2)).length<=1000000:=by rw[d_];have h1:=DA (λx:ah × List Int=>x.2.all λl=>decide (l<=b)) A;have h2:=Q_ aT e;simp only[b_,j_] at h2;omega
   have yes:g8 ((x.2.all λl=>decide (l<=b))=ag->∀H2,gb H8 H2->N2 (((A.filter λx=>x.2.all λl=>decide (l<=b)).map λx=>yv (Cc x.2))++[yv (Cc x.2)]) [ab (.ref x.1),ab (.int b)] H2):=⟨λz H2 s2=>F' _ _ _ ⟨_,rfl,by rw[Ki,LG,z];simp,s2⟩⟩;have no:g8 ((x.2.all λl=>decide (l<=b))=am->N2 ((A.filter λx=>x.2.all λl=>decide (l<=b)).map λx=>yv (Cc x.2)) [ab (.ref x.1),ab (.int b)] H'):=⟨λz=>F' _ _ _ ⟨_,rfl,by rw[Ki,LG,z];simp,L⟩⟩;generalize ((A.filter λx=>x.2.all λl=>decide (l<=b)).map λx=>yv (Cc x.2))=cur at *;have b1':=g8.mk b1;have b2':=g8.mk b2;clear F' e V ga' hbd w5 hx b1 b2 k' hR6;walk_at "";refine⟨b2'.out,λM m1 m2=>?_⟩;have hM:=M5 (eG:=b) m1 m2;try dsimp only
   rw[hM];clear m1 m2 hM;cases hc:x.2.all λl=>decide (l<=b) with
   |false =>
    try rw[y9 B_]
    exact no.out hc
   |true =>
    try rw[zi rfl]
    try walk_at ""
    walk_at "c"
    refine bO (still:=bZ x.1 (x.2.map yv)) (H:=H') yv (λl=>yv (l*l)) x.2 [] (.inl gx) yT ?c1 ?c2
    case c1 =>
     intro l hl Q' hq
     obtain⟨l1,l2⟩:=b1'.out l hl
     have cm:OR l l:=⟨iV l1 l2,iV l1 l2⟩
     have hq':=g8.mk hq
     clear hq yes no b1' b2'
     walk_at ""
     exact⟨zC,hq'.out⟩
    case c2 =>
     intro pq hpq
     have e3:zv (x.2.map λl=>yv (l*l))=ab (x.2.map λl=>l*l):=by rw[<- cN,L_];rfl
     rw[e3,iu]
     exact⟨yT,yes.out hc _ (L.trans (gb.new hpq))⟩
  rintro ys Z H' ⟨v,rfl,rfl,L⟩;have hfl:=DA (λx:ah × List Int=>x.2.all λl=>decide (l<=b)) AL;refine⟨.inl (L _ _ gp),by rw[d_];omega,λps hps=>?_⟩;have e1:((AL.filter λx=>x.2.all λl=>decide (l<=b)).map λx=>yv (Cc x.2))=((AL.filter λx=>x.2.all λl=>decide (l<=b)).map λx=>Cc x.2).map yv:=by rw[L_];rfl
  rw[e1];have w6:=(w5.sub L).new (o:=.lst (((AL.filter λx=>x.2.all λl=>decide (l<=b)).map λx=>Cc x.2).map yv)) hps;have hS:g8 (∀s,s∈((AL.filter λx=>x.2.all λl=>decide (l<=b)).map λx=>Cc x.2)↔Sm W b W.row.length s):=⟨λs=>⟨λh=>?_,?_⟩⟩;rotate_left
  .obtain⟨x,hx,rfl⟩:=k_.mp h;obtain⟨hx,hb⟩:=D_.mp hx;obtain⟨f,h1,h2,h3⟩:=(V.out x.2).mp (k_.mpr ⟨x,hx,rfl⟩);rw[W_] at hb;exact⟨f,h1,h2,λl hl=>DB (hb l (by rw[h3];exact hl)),by rw[h3]⟩
  .rintro⟨f,h1,h2,h3,rfl⟩;obtain⟨x,hx,e2⟩:=k_.mp ((V.out (y' W f W.row.length)).mpr ⟨f,h1,h2,rfl⟩);refine k_.mpr ⟨x,D_.mpr ⟨hx,?_⟩,by rw[e2]⟩;rw[W_,e2];exact λl hl=>N_ (h3 l hl)
  generalize ((AL.filter λx=>x.2.all λl=>decide (l<=b)).map λx=>Cc x.2)=S at *;generalize eH H' ps (.lst (S.map yv))=H9 at w6 |-;clear hbd V ga' w5 L hps e1 gp hfl hl;try dsimp only
  walk_at "n";walk_at "s";refine⟨d,W,rfl,j.out,w6.cl,λf W2 q H10 ot Y hq=>?_⟩;have w7:=(w6.drw Y).new (o:=.dct (dS (nm W) f)) hq;have nsq:ps≠q:=aR (w6.drw Y).hd hq;generalize eH H10 q (.dct (dS (nm W) f))=H11 at w7 |-;have O:=g8.mk (ot.ok j.out);have rl2:W2.row.length=W.row.length:=by rw[ot.rw]
  have ot':=g8.mk ot;clear w6 Y hq ot;try dsimp only
  walk_at "";try walk_at "t"
  walk_at "n";walk_at "s";refine⟨W,b,W.row.length,rfl,j.out,l_ _,?_⟩;walk_at "n";walk_at "s";refine⟨W,rfl,j.out,W.turn,b,W.row.length,rfl,nO j.out,EQ CH.symm,?_⟩;walk_at "n";walk_at "s";refine⟨W2,b,W.row.length,rfl,O.out,EQ rl2.symm,?_⟩;walk_at "n";refine aq λR11 hR11=>?_;have gs:=w7.tl.hd;have gd:=w7.hd;have ei:=cN S;cases el:bK (zd W - 1) (AM W b W.row.length) with
  |none =>
   have e1:EH W b W.row.length=.non:=by unfold EH;rw[el]
   have e2:EH W.turn b W.row.length=.non:=by unfold EH;rw[Bb j.out (nO j.out) (l_ _) (EQ CH.symm) (λs=>wC) el]
   have e3:EH W2 b W.row.length=.non:=by unfold EH;rw[Bb j.out O.out (l_ _) (EQ rl2.symm) (λs=>ot'.out.sm j.out) el]
   have hS0:S=[]:=List.eq_nil_iff_forall_not_mem.mpr λs hs=>um j.out (l_ _) el s ((hS.out s).mp hs)
   subst hS0
   rw[e1,e2,e3]
   clear hS el e1 e2 e3 ei O ot'
   rw[DH] at gs
   walk_at ""
   refine⟨y6,λq1 X=>?_⟩
   have n1:=aR gs X
   rw[aD n1,gs,zL]
   refine⟨n1,rfl,rfl,?_⟩
   try rw[m9]
   walk_at ""
   try simp only[if_true,Y_,H_]
   exact My.of (gb.new X) (k'.out _)
  |some v =>
  obtain⟨v1,l1,x1⟩:=Ba j.out (nO j.out) (l_ _) (EQ CH.symm) (λs=>wC) el;obtain⟨v2,l2,x2⟩:=Ba j.out O.out (l_ _) (EQ rl2.symm) (λs=>ot'.out.sm j.out) el;have E0:=uo j.out (l_ _) el;have E1:=uo (nO j.out) (EQ CH.symm) l1;have E2:=uo O.out (EQ rl2.symm) l2;have K0:=g8.mk E0.bk;have K1:=g8.mk (E1.rev j.out);have K2:=g8.mk (YT ot'.out j.out E2.ok E2.r);rw[x1] at K1;rw[<- E2.e,x2] at K2;have d2l:((v2.2.map (pk W2))).length=W.row.length:=E2.l;have d28:=g8.mk λs hs=>(E2.ok.n8 O.out s hs).1;have tin:=g8.mk (Zc j.out el);obtain⟨s1,s2⟩:=nM j.out (l_ _) el;have hv:=(hS.out v.1).mpr s1;have hne:S≠[]:=λz=>by rw[z] at hv;cases hv
  have hmin:g8 (∀M,M∈S->(∀a∈S,M<=a)->M=v.1):=⟨λM m1 m2=>sL (m2 _ hv) (s2 _ ((hS.out M).mp m1))⟩;have hne':=g8.mk hne;have e1:EH W b W.row.length=.tup [.int v.1,.tup ((v.2.map (pk W)).map sT)]:=by unfold EH;rw[el]
  have e2:EH W.turn b W.row.length=.tup [.int v.1,.tup ((v1.2.map (pk W.turn)).map sT)]:=by unfold EH;rw[l1,<- x1]
  have e3:EH W2 b W.row.length=.tup [.int v.1,.tup ((v2.2.map (pk W2)).map sT)]:=by unfold EH;rw[l2,<- x2]
  rw[e1,e2,e3];clear hS e1 e2 e3 el l1 l2 x1 x2 E0 E1 E2 s1 s2 hv hne O ot';generalize v.1=J at *;generalize v.2.map (pk W)=D0 at *;generalize v1.2.map (pk W.turn)=D1 at *;generalize v2.2.map (pk W2)=D2 at *;have pls:=Mi S;walk_at "";refine⟨y6,λq1 X=>?_⟩;have n1:=aR gs X;have w8:=(w7.new (o:=.lst []) X).tl;rw[aD n1,gs,zL];refine⟨n1,pls,rfl,?_⟩;generalize eH H11 q1 (.lst [])=H12 at w8 |-;clear w7 gs gd n1 X;rw[I_ (by simpa using hne'.out),gJ,y9 y6];have gs:=w8.tl.hd;have gd:=w8.hd;walk_at "n";walk_at "s";refine⟨hne'.out,λM m1 m2=>?_⟩;rw[hmin.out M m1 m2];clear m1 m2 hmin hne' ei pls;walk_at "n";walk_at "s";refine⟨y6,λq2 hq2=>⟨y6,λq3 hq3=>?_⟩⟩;have n23:q2≠q3:=λz=>by rw[z,aC] at hq3;cases hq3
  have w9:=((w8.new (o:=.lst [yv J,yv J,yv J]) hq2).new (o:=.lst [yv J,yv J,yv J]) hq3).tl.tl;rw[aD n23,aC,zL];generalize eH (eH H12 q2 _) q3 _=H13 at w9 |-;refine⟨n23,rfl,rfl,?_⟩;clear w8 gs gd hq2 hq3 n23;have gd:=w9.hd;rw[m9,gJ,y9 y6];walk_at "n";walk_at "s";refine⟨W,b,D0,J,rfl,j.out,K0.out,?_⟩;clear K0;walk_at "";rw[<- Mb];refine⟨zC,W,b,D1.reverse,J,rfl,j.out,K1.out,?_⟩;clear K1;try dsimp only
  rw[gJ,y9 y6];walk_at "n";walk_at "s";refine⟨W,f,q,D2,rfl,j.out,yT,yT,d28.out,gd,λo H14 kb gq=>?_⟩;refine⟨W,b,Cb f W D2,J,rfl,j.out,K2.out,?_⟩;clear K2 d28;walk_at "n";walk_at "";rw[Be];refine⟨y6,?_⟩;refine⟨W,b,W.row.length,rfl,j.out,t5',l_ _,λpt hpt=>?_⟩;have tp:=Zd W b (W.row.length+1);have tin':=tin.out;generalize j8 W b (W.row.length+1)=TB at *;try dsimp only
  rw[Fl,aC,Fo];refine⟨W_.mp tp _ tin',tp,?_⟩;rw[show ∀x,di am x TB=decide (x∈TB) from λ_=>rfl,N_ tin'];exact My.of gb.refl (k'.out _)
 have key':=g8.mk key;clear key hR5;rcases id hb with rfl | ⟨c,rfl⟩
 .clear hb;walk_at "";exact key'.out eG H8 w4
 clear hb;walk_at "";refine⟨d,2,rfl,y6,w4.cl,λn H9 _ _ Y=>?_⟩;have w5:=w4.drw Y;clear w4 Y;try dsimp only
 rw[Oc,gJ];by_cases c1:n=1
 .rw[zi (by simp [c1])];refine⟨d,3,rfl,y6,w5.cl,λn2 H10 _ _ hD2=>?_⟩;have w6:=w5.drw hD2;try dsimp only
  walk_at "";exact key'.out (c+n2) H10 w6
 rw[y9 (by simp [c1])];exact key'.out eG H9 w5
abbrev sr:List ap:=[DT,"_law_cells",IQ,"_law_cell",Cs,LF]
theorem HU:fY sr [DT] (aA (yY 54)):=aZ
theorem yL {f:ah} (g:G3 K mg "_law_numbers" (yY 54) [DT] f fd) (B:Bl mg):R8 P w K mg base 1 "_law_numbers" (yY 54) [DT] P0:=by
 refine c6 g HU ?_;rintro _ A _ s H _ _ H3 _ hr ⟨a,ns,rfl,ha,hl,k⟩;have R:=Pr.u30 hr;refine⟨_,(ak (aG 1 HU.nd (aL bf (jQ y8 jP (fP au)) (aL Tr (bI (aa au aj)) (bu J9 rfl B.int_ RJ (aa (du (U3 R) y8 (bI aj)) aj)))))
   (ak (aG 2 HU.nd (bI aj))
   (ak (bD (aU (cL R) (aL dX (aK zD zo au) au) au) (ak (aV x_ rfl (bJ (aL bf (bI (aa (aL eZ (aK zD zo au) au) aj)) (jQ zo (fP au) jP))) (aB 3 HU.nd) (ao (aV x_ rfl (aX rfl B.range_ (aa au aj)) (aB 4 HU.nd) (ak (bM (cW J_ R_ S_ bB zt (aa (aL dX z4 (aL ig au au)) aj)))
      (ao (aG 3 HU.nd (aL eZ z4 (aL ig au au))))))))
    (ao (aJ (zX zt (fP (oW au)))))) aW)
   (ak (aG 5 HU.nd (aL dX (aL eZ (aK zD zo au) au) au))
   (ak (aV x_ rfl (aX rfl B.range_ (aa au aj)) (aB 4 HU.nd) (ak (aG 3 HU.nd (aL dX (aK zD zo (aL dX AD (aQ b8 rfl B.len_ cg (aa zo aj)))) au))
    (ak (aG 5 HU.nd (aL dX (aL bf (aL bf (aL ik AI AI) (aL ik au z4)) AD) au))
    (ao (bM (cW J_ R_ S_ bB zt (aa (aL eZ (aL dX (aL ik AI (aL bf AI au)) au) au) aj)))))))
   (ao (aJ (zX zt (fP (oW au)))))))))),?_⟩
 walk_at "q";walk_at "h";have k':=g8.mk k;clear k;walk_at "s";refine λp1 hp1=>⟨y6,λp2 Y=>⟨yT,λp3 hp3=>?_⟩⟩;have h2:=(cA Y);have h3:=(cA hp3);have W:=(cA h3.2);have na1:a≠p1:=aR ha hp1;have na2:a≠p2:=aR ha h2.2;have na3:a≠p3:=aR ha W.2;have hpl:(ns.map yv).all (pl 20)=ag:=by rw[W_];intro t ht;obtain⟨x,_,rfl⟩:=k_.mp ht;rfl
 have n32:p2≠p3:=aS h3.1;have n31:p1≠p3:=aS W.1;have n21:p1≠p2:=aS h2.1;walk_at "";obtain⟨M,c1,c63,ecs⟩:=HF ns hl;refine⟨zC,zC,rfl,⟨by split <;> decide,by split <;> decide,by split <;> decide⟩,λp4 hp4=>?_⟩;have h4:=cA hp4;have h4':=cA h4.2;have O:=cA h4'.2;rw[aD (aS O.1),aD n31,aD n21,aC,lz,ecs];have G':(gC (ns.map yv) af (ab 63)).length+(a4 (if decide (ns.map yv=[])=ag then (1:Int) else 0).toNat [yv 0]).flatten.length<=16777216:=by have:=Q_ aT ecs;rw[b_,d_] at this;omega
 refine⟨G',λC hpc=>?_⟩;have hS:gb H3 (eH (eH (eH (eH H3 p1 (.lst (gC (ns.map yv) af (ab 63)))) p2 (.lst [yv 0])) p3 (.lst [])) p4 (.lst (a4 (if decide (ns.map yv=[])=ag then (1:Int) else 0).toNat [yv 0]).flatten)) :=
  (((gb.new hp1).trans (gb.new Y)).trans (gb.new hp3)).trans (gb.new hp4)
 have D:=hS.trans (gb.new (o:=.lst (M.map yv)) hpc);have q:∀H:gV,eH H C (.lst (M.map yv)) C=ab (.lst (M.map yv)):=λ_=>aC;have q:=q (eH (eH (eH (eH H3 p1 (.lst (gC (ns.map yv) af (ab 63)))) p2 (.lst [yv 0])) p3 (.lst [])) p4 (.lst (a4 (if decide (ns.map yv=[])=ag then (1:Int) else 0).toNat [yv 0]).flatten));generalize eH (eH (eH (eH (eH H3 p1 (.lst (gC (ns.map yv) af (ab 63)))) p2 (.lst [yv 0])) p3 (.lst [])) p4 (.lst (a4 (if decide (ns.map yv=[])=ag then (1:Int) else 0).toNat [yv 0]).flatten)) C (.lst (M.map yv))=H5 at D q;clear hS G' ecs hpc hp4 h4 h4' O hp3 h3 W Y h2 hp1 n32 n31 n21 na1 na2 na3 hpl ha hl;walk_at "n";walk_at "s";refine⟨yT,λv n=>?_⟩;have d:Nb H3 (eH H5 v (.lst [])) C v M []:=⟨D.trans (gb.new n),by rw[aD (aR q n)];exact q,aC,by
  cases e:H3 v with
  |none=>rfl
  |some o=>exact As (n.symm.trans (D _ _ e)) ze,aR q n⟩
 generalize eH H5 v (.lst [])=H6 at d;clear D q n;walk_at "n";cases M with
 |nil=>simp at c1
 |cons j l =>
 refine aq λR2 hR2=>?_;have q:=d.c;rw[z_] at q;walk_at "";refine⟨y6,?_⟩;by_cases hev:j%2=0
 .rw[N_ hev,zi rfl];clear hR2;refine⟨⟨y6,Ap⟩,y6,λq1 hq1=>?_⟩;have G:=d.new (o:=.lst [yv (j / 2)]) hq1;have gq:eH H6 q1 (.lst [yv (j / 2)]) q1=ab (.lst [yv (j / 2)]):=aC;have X:=G.c;generalize eH H6 q1 (.lst [yv (j / 2)])=H7 at G gq X;clear d q hq1;rw[X,Oe];intro q2 V;rw[show (1:Int)=((1:Nat):Int) from rfl,Fp,z_,List.drop_one,List.tail_cons];have I:=G.new (o:=.lst (l.map yv)) V;have gq1:eH H7 q2 (.lst (l.map yv)) q1=_ := T1 gq V;have gq2:eH H7 q2 (.lst (l.map yv)) q2=ab (.lst (l.map yv)):=aC;generalize eH H7 q2 (.lst (l.map yv))=H8 at I gq1 gq2;clear G gq X V;rw[j_] at c63;rw[Fj,gq1,gq2,lz];refine⟨by rw[d_,E_];omega,λq3 hq3=>?_⟩;have J:=I.new (o:=.lst ([yv (j / 2)]++l.map yv)) hq3;have L:eH H8 q3 (.lst ([yv (j / 2)]++l.map yv)) q3=ab (.lst ([yv (j / 2)]++l.map yv)):=aC;have n3f:q3≠v:=aS (aR I.f hq3);rw[show [yv (j / 2)]++l.map yv=((j / 2)::l).map yv from rfl] at *;generalize eH H8 q3 (.lst (((j / 2)::l).map yv))=H9 at J L;clear I gq1 gq2 hq3;have xl:((j / 2)::l).length<=63:=by rw[j_];exact c63
  generalize (j / 2)::l=xs at *;walk_at "";refine aN yv xs (λA Z H=>∃(m:List Int) (v3 u:Option T),Z=[ab (.ref a),ab (.ref C),ab (.ref v),v3,u,af]/\Nb H3 H C v (j::l) m/\H q3=ab (.lst (xs.map yv))/\m.length=8*A.length) ⟨[],_,_,rfl,J,L,rfl⟩ ?_ ?_
  .rintro Z H ⟨m,v3,u,rfl,d,S,U⟩;refine⟨.inl S,?_⟩;have gf:=d.f;clear J L;walk_at "";refine⟨by first | trivial | rfl,by rw[gf];exact λp hp=>My.of gb.refl (k'.out p _ (d.sb.trans (gb.new hp)) (cM d.sb hp) ⟨m.reverse,by rw[aC,Mb],by rw[CH];omega⟩)⟩
  rintro A c B Z H N e ⟨m,v3,u,rfl,d,S,U⟩ hN;refine⟨.inl S,?_⟩;have hA:A.length+1<=63:=by have:=Q_ aT e;simp only[b_,j_] at this;omega
  have F:=g8.mk hN;clear hN e J L k';walk_at "";refine⟨zC,y6,y6,?_⟩;have rl:(dM 0 (d4 8)).length=8:=by unfold dM;rw[d_,m_];rfl
  generalize dM 0 (d4 8)=ts0 at rl;refine m6 (λr Z H=>∃(m:List Int) (c:Int) (u:Option T),Z=[ab (.ref a),ab (.ref C),ab (.ref v),ab (.int c),u,af]/\Nb H3 H C v (j::l) m/\H q3=ab (.lst (xs.map yv))/\m.length+r.length=8*(A.length+1)) ⟨m,c,_,rfl,d,S,yT⟩ ?_ ?_
  .rintro Z H ⟨m,c,u,rfl,d,S,U⟩;rw[FR] at U;exact⟨zC,F.out _ _ ⟨m,_,_,rfl,d,S,by rw[b_,E_];omega⟩⟩
  rintro x r Z H N2 ⟨m,c,u,rfl,d,S,U⟩ F';walk_at "t";rw[j_] at U;have hM:=g8.mk F';have gf:=d.f;clear F' F;walk_at "";refine⟨⟨zC,zC⟩,⟨y6,y6,y6⟩,y6,yT,⟨y6,y6,y6⟩,⟨y6,Ap⟩,?_⟩;exact hM.out _ _ ⟨_,_,_,rfl,d.put _,by rw[aD n3f];exact S,by rw[b_,E_];omega⟩
 rw[I_ hev,y9 B_];walk_at "n";walk_at "s";refine⟨⟨y6,Ap⟩,y6,?_⟩;have m0:=FH (j / 2) (show (2147483629:Int)≠0 by decide);have m1:=GV (j / 2) (show (0:Int)<2147483629 by decide);generalize j / 2%2147483629=b at m0 m1;walk_at "n";refine aq λR4 hR4=>?_;walk_at "";refine⟨by first | trivial | decide,y6,y6,?_⟩;rw[show dM 0 (d4 504)=(ae 504).map (λ(i:Nat)=>yv (i:Int)) from fX 504];refine aN (λ(i:Nat)=>yv (i:Int)) (ae 504) (λA Z H=>∃(m:List Int) (v3 u:Option T) (b:Int),Z=[ab (.ref a),ab (.ref C),ab (.ref v),v3,u,ab (.int b)]/\Nb H3 H C v (j::l) m/\m.length=A.length/\0<=b/\b<2147483629) ⟨[],_,_,b,rfl,d,rfl,m0,m1⟩ ?_ ?_
 .rintro Z H ⟨m,v3,u,b,rfl,d,U,_,_⟩;walk_at "t";rw[m_] at U;walk_at "n";have gf:=d.f;walk_at "";refine⟨by first | trivial | rfl,by rw[gf];exact λp hp=>My.of gb.refl (k'.out p _ (d.sb.trans (gb.new hp)) (cM d.sb hp) ⟨m.reverse,by rw[aC,Mb],by rw[CH];omega⟩)⟩
 rintro A c B Z H N e ⟨m,v3,u,b,rfl,d,U,m0,m1⟩ hN;walk_at "t";have hA:A.length+1<=504:=by have:=Q_ aT e;simp only[b_,j_,m_] at this;omega
 have F:=g8.mk hN;have q:=d.c;obtain⟨z,_,hz⟩:=vz (j::l) ((c:Int)%((j::l).length:Int)) (FH _ (by rw[j_];omega)) (GV _ (by rw[j_];omega));have hz':AA ((j::l).map yv) ((c:Int)%((j::l).length:Int))=ab (yv z):=by rw[oO,hz];rfl
 generalize j::l=M at *;clear hN e hz hR4 k';refine aq λR5 hR5=>?_;have cl:(0:Int)<(M.length:Int):=yT
 walk_at "";refine⟨by first | trivial | omega,y6,?_⟩;have z0:=FH z (show (2147483647:Int)≠0 by decide);have z1:=GV z (show (0:Int)<2147483647 by decide);generalize z%2147483647=z' at z0 z1;walk_at "n";walk_at "s";refine⟨.inl ⟨yT,yT⟩,.inl ⟨y6,y6⟩,y6,?_⟩;have y0:=FH (b*b+69621*z'+(c:Int)) (show (2147483629:Int)≠0 by decide);have y1:=GV (b*b+69621*z'+(c:Int)) (show (0:Int)<2147483629 by decide);generalize (b*b+69621*z'+(c:Int))%2147483629=y at y0 y1;walk_at "n";have gf:=d.f;walk_at "";refine⟨⟨zC,zC⟩,.inl ⟨yT,yT⟩,y6,⟨y6,Ap⟩,yT,?_⟩;exact F.out _ _ ⟨_,_,_,_,rfl,d.put _,by rw[b_,b_,E_,E_];omega,y0,y1⟩
abbrev pK:List ap:=[At,BI]
theorem Nh:fY pK pK (aA (yY 55)):=aZ
theorem Ni {f:ah} (g:G3 K mg EA (yY 55) pK f C) (B:Bl mg):R8 P w K mg base 1 EA (yY 55) pK pC:=by
 refine c6 g Nh ?_;rintro _ _ _ _ H _ _ H3 _ M ⟨d,m,rfl,u,G,k⟩;have i:=Pr.u30 M;refine⟨_,(ak (bD (aU (cL i) y8 (bI aj)) (ao (aJ au)) aW)
   (ao (aJ (aL dX (TF J_ k8 k6 U0 y8) zo)))),?_⟩
 walk_at "q";walk_at "h";obtain⟨ns,z,O⟩:=G.ex;walk_at "";refine⟨yT,λp q=>?_⟩;have c:d≠p:=aR z q;have j:(ns.map yv).all (pl 20)=ag:=by rw[W_];intro t L;obtain⟨x,_,rfl⟩:=k_.mp L;rfl
 have I:=g8.mk k;clear k;walk_at "";refine⟨by first | trivial | exact c,by first | trivial | exact j,by first | trivial | rfl,?_⟩;rcases List.eq_nil_or_concat ns with rfl | ⟨r,n,rfl⟩
 .simp only[DH,m9,if_true];exact jh (a:=d) (H:=H3) (G.new (aS c)) (A4.refl.new q) λe y=>I.out 0 e (IY _) u y
 rw[I_ ze,y9 B_];rw[List.concat_eq_append] at *;have U:=HH r n;have S:=Df r n;have l:eH H3 p (.lst []) d=ab (.lst ((r++[n]).map yv)):=by rw[aD c];exact z
 generalize J:eH H3 p (.lst [])=V at l;clear j;walk_at "";refine⟨⟨zC,zC⟩,?_⟩;rw[show (wr yv (r++[n]))[(r++[n]).length - 1]?=ab (yv n) by simp,iu];walk_at "";refine⟨by first | trivial | exact u,jh (a:=d) (H:=H3) ⟨r,aC,by rw[b_,E_] at O;omega⟩ (λb o D R=>?_) λe y=>I.out _ e (FH _ yT) (GV _ u) y⟩;rw[aD R,<- J,aD (aR D q)];exact D
abbrev Bh:List ap:=[At,BI,"_law_total",Cs]
theorem P5:fY Bh [At,BI] (aA (yY 56)):=aZ
theorem Iz {f:ah} (g:G3 K mg "_law_great" (yY 56) [At,BI] f v) (B:Bl mg) (a:R8 P w K mg base 1 EA (yY 55) [At,BI] pC):R8 P w K mg base 2 "_law_great" (yY 56) [At,BI] U4:=by
 refine c6 g P5 ?_;rintro _ _ _ s H _ _ H3 _ C ⟨d,m,rfl,u,F,k⟩;refine⟨_,(ak (aG 2 P5.nd au)
   (ak (aV x_ rfl (aX rfl B.range_ (aa au aj)) (aB 3 P5.nd) (ao (aG 2 P5.nd (aL bf (aL ik zt (aL ig au au)) (aH a C rfl (aa y8 (aa (aL ig au au) aj)))))))
   (ao (aJ (aL dX zt zo))))),?_⟩
 walk_at "q";have y:=g8.mk k;clear k;walk_at "s";walk_at "n";refine aq λI e=>?_;walk_at "";refine⟨by first | trivial | decide,y6,y6,?_⟩;generalize dM 0 (d4 6)=z;refine m6 (λr Z H=>∃(t:Int) (v3:Option T),Z=[ab (.ref d),ab (.int m),ab (.int t),v3]/\Cl H d/\A4 d H3 H) ⟨_,_,rfl,F,A4.refl⟩ ?_ ?_
 .rintro Z H ⟨t,v3,rfl,c,p⟩;walk_at "t";walk_at "n";walk_at "";refine⟨by first | trivial | exact u,jh c p λl b=>y.out _ l (FH _ yT) (GV _ u) b⟩
 rintro x r Z H N ⟨t,v3,rfl,c,p⟩ q;walk_at "t";have j:=g8.mk q;clear q e y;walk_at "";refine⟨⟨y6,y6,y6⟩,.inr ⟨y6,y6⟩,⟨y6,y6,y6⟩,d,10^d4 12,rfl,y6,c,λn M n0 J b=>?_⟩;exact j.out _ _ ⟨_,_,rfl,b.cl,p.drw b⟩
abbrev IK:List ap:=[At,IX,"_law_left",IQ]
theorem RO:fY IK [At,IX] (aA (yY 59)):=aZ
theorem Nj {f:ah} (g:G3 K mg "_law_turn" (yY 59) [At,IX] f fd) (B:Bl mg) (u:R8 P w K mg base 1 EA (yY 55) [At,BI] pC):R8 P w K mg base 2 "_law_turn" (yY 59) [At,IX] Vt:=by
 refine c6 g RO ?_;rintro _ _ _ s H _ _ H3 _ hr ⟨d,S,xs,rfl,ha,V,hl,hC,k⟩;have hu30:=Pr.u30 hr;refine⟨_,(ak (aG 2 RO.nd (bu tK rfl B.list_ jT (aa zo aj)))
   (ak (aG 3 RO.nd (bI aj))
   (ak (jN x_ (aU (jO hu30) zt (bI aj)) (ao (bM (cW J_ R_ S_ bB z4 (aa (cW J_ k8 k6 Fe zt (aa (aH u hr rfl (aa y8 (aa (aQ b8 rfl B.len_ cg (aa zt aj)) aj))) aj)) aj)))))
   (ao (aJ z4))))),?_⟩
 walk_at "q";walk_at "h";have k':=g8.mk k;clear k;have w0:Wt d H3 H3 []:=⟨hC,A4.refl,(λ_ h=>nomatch h)⟩;walk_at "s";have fst:∀(Qc:Z1),(∀p,H3 p=af->Qc (.ref p) (eH H3 p (.lst xs)))->tH [S] H3 Qc:=λQc N=>by
  rcases ha with ⟨a,rfl,ha⟩ | rfl
  .rw[zM,ha,Og];exact N
  rw[zN];exact N
 refine fst _ λe c=>?_;clear fst ha;try dsimp only
 have l0:=w0.fresh c;have W:=w0.new (o:=.lst xs) c;generalize eH H3 e (.lst xs)=H4 at W;clear w0 c;walk_at "n";walk_at "s";refine⟨yT,λR l=>?_⟩;have f0:=W.fresh l;have L:R≠e:=aS (aR W.hd l);have w2:=W.new (o:=.lst []) l;generalize eH H4 R (.lst [])=H5 at w2;clear W l;walk_at "n";refine aq λR2 hR2=>?_;show tu _ _ _ _ _;refine De (λm Z H=>∃(C y:List T),m=C.length/\Z=[ab (.ref d),ab S,ab (.ref e),ab (.ref R)]/\Wt d H3 H [(R,.lst y),(e,.lst C)]/\(y++C).Perm xs/\C.all (pl 20)=ag) ⟨_,xs,[],rfl,rfl,w2,ME _,V⟩ ?_;intro m Z H hI WI TB NX X v z;obtain⟨C,y,rfl,rfl,w,b,U⟩:=hI;have D:=b.length_eq;rw[b_] at D;have gl:=w.tl.hd;have gf:=w.hd;clear w2;walk_at "";refine⟨yT,λO J=>?_⟩;have M:=w.new (o:=.lst []) J;have gl3:=M.tl.tl.hd;have nle:e≠O:=aR gl J;walk_at "";refine⟨zC,zC,rfl,?_⟩;have npd:R≠d:=(w.at' _ n_).2;have I:=M.tl.hd;generalize eH H O (.lst [])=H6 at M gl3 I;clear w gl gf J nle;cases C with
 |nil=>rw[y9 ze];clear v X;obtain⟨z⟩:=z;subst z;walk_at "n";walk_at "";rw[X_] at b;exact gO M.cl M.kp I f0 npd λH1 hD h1=>k'.out y H1 R b hD h1
 |cons t r =>
 rw[zi ze];clear z hR2 k';obtain⟨v⟩:=v;subst v;have G:=M.tl;clear M;walk_at "";refine⟨⟨zC,zC⟩,⟨zC,zC⟩,d,_,rfl,yT,G.cl,λn H7 n0 n1 hD=>?_⟩;have w4:=G.drw hD;have gl4:=w4.tl.hd;have gf4:=w4.hd;clear G gl3 I hD;obtain⟨j,rfl⟩:∃j:Nat,n=(j:Int):=⟨n.toNat,yT⟩;have hj:j<(t::r).length:=by rw[j_];omega
 have ej:=tM hj;have ex:=g_ hj;have O:=Mh hj;have le:=TH hj;generalize (t::r)[j]=x at ex O;have hal:=U5 U j;have w5:=(w4.swap.set l0 (λq N=>by rw[i_.mp N];exact L) (.lst ((t::r).eraseIdx j))).swap.set f0 (λq N=>by rw[i_.mp N];exact aS L) (.lst (y++[x]));have hfl:y.length<60:=by rw[j_] at D;omega
 have nfl':=aS L;have hpm:(y++[x]++(t::r).eraseIdx j).Perm xs:=by refine List.Perm.trans ?_ b;rw[EF];exact (ME y).append O
 have hlr:=g8.mk (show (t::r).length=r.length+1 from rfl);have le':=g8.mk le;generalize Y:(t::r)=C at *;clear w4 U b O Y le;walk_at "";exact⟨yT,(C.eraseIdx j).length,by have:=hlr.out;have:=le'.out;omega,by rw[X.out];exact⟨_,y++[x],rfl,rfl,w5,hpm,hal⟩⟩
abbrev jl:List ap:=[At,Bi,"_law_way","_law_base"]
theorem S1:fY jl [At,Bi] (aA (yY 60)):=aZ
theorem yM {f:ah} (g:G3 K mg "_law_lengths" (yY 60) [At,Bi] f fd) (B:Bl mg) (a:R8 P w K mg base 1 EA (yY 55) [At,BI] pC) (j:R8 P w K mg base 2 "_law_great" (yY 56) [At,BI] U4):R8 P w K mg base 3 "_law_lengths" (yY 60) [At,Bi] Ym:=by
 refine c6 g S1 ?_;rintro _ A _ s H _ _ H3 _ r ⟨d,m,rfl,hm,hC,k⟩;have R:=Pr.u30 r;refine⟨_,(ak (aG 2 S1.nd (aH a r rfl (aa y8 (aa au aj))))
   (ak (bD (aU (cL R) zt au) (ao (aJ (bx rfl (b6 60 jl [Cs,At] 1 [0]) (aX rfl B.range_ (aa zo aj)) (λcl M s H C0 fp=>⟨(aB 0 (n7 [Cs,At])),bG,(aL bf au (aH j r rfl (aa zo (aa (aL oG (aL ig au au) au) aj))))⟩)))) aW)
   (ak (aG 3 S1.nd (aL bf au (aH j r rfl (aa y8 (aa (aK zD (bI (aa au (aa au (aa (aL ig au au) aj)))) (aL oG zt au)) aj)))))
   (ao (aJ (bx rfl (b6 60 jl [Cs,"_law_base",At] 1 [3,0]) (aX rfl B.range_ (aa zo aj)) (λcl M s H C0 fp=>⟨(aB 0 (n7 [Cs,"_law_base",At])),bG,(aL bf (aL ik zo (aL bf au (aH a r rfl (aa zt (aa au aj))))) (aL eZ (aH a r rfl (aa zt (aa au aj))) au))⟩))))))),?_⟩
 walk_at "q";walk_at "h";have U:=g8.mk k;clear k;have w0:Wt d H3 H3 []:=⟨hC,A4.refl,(λ_ h=>nomatch h)⟩;clear hC;walk_at "s";refine⟨d,4,rfl,y6,w0.cl,λt H4 y0 y1 u=>?_⟩;have S:=w0.drw u;clear w0 u;walk_at "n";refine aq λR1 Y=>?_;walk_at "";have rg:dM 0 m=(ae m).map λ(i:Nat)=>yv (i:Int):=fX m;by_cases hw:t=0
 .rw[N_ hw,zi rfl];clear Y;refine⟨zC,yT,yT,?_⟩;try rw[rg]
  walk_at "c";refine cP (λ(i:Nat)=>yv (i:Int)) (ae m) (λA F Z H=>∃(c:List Int) (v:Option T),Z=[v,ab (.ref d)]/\F=c.map yv/\c.length=A.length/\(∀l∈c,1<=l/\l<10^60)/\Wt d H3 H []) ⟨[],_,rfl,rfl,rfl,(λ_ h=>nomatch h),S⟩ ?_ ?_
  .rintro F Z H ⟨c,v,rfl,rfl,z,r,w⟩;rw[m_] at z;refine⟨zC,by rw[d_];omega,λp x=>?_⟩;have q:=w.new (o:=.lst (c.map yv)) x;exact gO q.cl q.kp q.hd (w.fresh x) (w.cl.ne x) λV u h1=>U.out c V p z r u h1
  rintro A i B F Z H N e ⟨c,v,rfl,rfl,z,r,w⟩ L;walk_at "t";have hA:A.length<8:=by have:=Q_ aT e;simp only[b_,j_,m_] at this;omega
  have D:=g8.mk L;clear L e U S;walk_at "";refine⟨⟨y6,y6,y6⟩,d,_,rfl,by rw[US];decide,w.cl,λn H5 n0 I u=>?_⟩;rw[US] at I;walk_at "";refine⟨yT,D.out _ _ _ ⟨c++[1+n],_,rfl,by rw[v_];rfl,by rw[b_,b_,z];rfl,λl C=>?_,w.drw u⟩⟩;rcases F_.mp C with h | h
  .exact r l h
  rw[i_.mp h,Yn];omega
 rw[I_ hw,y9 B_];walk_at "n";walk_at "s";refine⟨⟨y6,y6,y6⟩,y6,λp x=>?_⟩;obtain⟨b,y,O⟩:=vz ([1,9,10^d4 58]:List Int) (t - 1) yT (by show t - 1<3;omega);have J:AA [yv 1,yv 9,yv (10^d4 58)] (t - 1)=ab (yv b):=by have:=oO yv ([1,9,10^d4 58]:List Int) (t - 1);rw[O] at this;exact this
 have hb0:1<=b/\b<=10000000000000000000000000000000000000000000000000000000000:=by rw[Xs] at y;simp only[o_,B8,B7] at y;rcases y with h | h | h <;> omega
 rw[J,iu];have q:=(S.new (o:=.lst [yv 1,yv 9,yv (10^d4 58)]) x).tl;generalize eH H4 p (.lst [yv 1,yv 9,yv (10^d4 58)])=H5 at q;clear S x J O y;refine⟨d,b,rfl,yT,q.cl,λn H6 n0 I u=>?_⟩;have w3:=q.drw u;clear q u;have u0:1<=1+n:=yT
 have u1:1+n<=10000000000000000000000000000000000000000000000000000000000:=yT
 try dsimp only
 walk_at "";generalize 1+n=G at u0 u1;walk_at "n";walk_at "";refine⟨by first | trivial | omega,yT,yT,?_⟩;try rw[rg]
 walk_at "c";refine cP (λ(i:Nat)=>yv (i:Int)) (ae m) (λA F Z H=>∃(c:List Int) (v:Option T),Z=[v,ab (.int G),ab (.ref d)]/\F=c.map yv/\c.length=A.length/\(∀l∈c,1<=l/\l<10^60)/\Wt d H3 H []) ⟨[],_,rfl,rfl,rfl,(λ_ h=>nomatch h),w3⟩ ?_ ?_
 .rintro F Z H ⟨c,v,rfl,rfl,z,r,w⟩;rw[m_] at z;refine⟨zC,by rw[d_];omega,λp x=>?_⟩;have q:=w.new (o:=.lst (c.map yv)) x;exact gO q.cl q.kp q.hd (w.fresh x) (w.cl.ne x) λV u h1=>U.out c V p z r u h1
 rintro A i B F Z H N e ⟨c,v,rfl,rfl,z,r,w⟩ L;walk_at "t";have hA:A.length<8:=by have:=Q_ aT e;simp only[b_,j_,m_] at this;omega
 have D:=g8.mk L;clear L e U w3;walk_at "";refine⟨d,9,rfl,y6,w.cl,λI H7 p0 p1 W=>?_⟩;have q:=w.drw W;walk_at "";refine⟨.inr ⟨yT,yT⟩,d,5,rfl,y6,q.cl,λn2 H8 q0 q1 X=>?_⟩;have w4:=q.drw X;walk_at "";refine⟨⟨y6,Ap⟩,yT,D.out _ _ _ ⟨c++[G*(1+I)+n2 / 3],_,rfl,by rw[v_];rfl,by rw[b_,b_,z];rfl,λl C=>?_,w4⟩⟩;rcases F_.mp C with h | h
 .exact r l h
 rw[i_.mp h,Yn];have m1:G*(1+I)<=G*9:=ft yT yT;have m2:G*1<=G*(1+I):=ft yT yT;omega
abbrev mF:List ap:=["_law_size",LF,AF,"_law_letters",IQ,"_law_turn_here","_law_left",DE,Cs]
theorem GN:fY mF ["_law_size",LF,AF] (aA (yY 57)):=aZ
theorem uv {f:ah} (g:G3 K mg "_law_free_name" (yY 57) ["_law_size",LF,AF] f fd) (B:Bl mg):R8 P w K mg base 1 "_law_free_name" (yY 57) ["_law_size",LF,AF] Yo:=by
 refine c6 g GN ?_;rintro _ A _ s H _ _ H3 _ hr ⟨d,b,a,ws,rfl,s1,s8,ha,hl,k⟩;have L:=Pr.u30 hr;have J:=Pr.u31 hr;refine⟨_,(ak (aG 3 GN.nd cT)
   (ak (aG 4 GN.nd cT)
   (ak (aV x_ rfl (aX rfl B.range_ (aa (aL bf (aQ b8 rfl B.len_ cg (aa zt aj)) au) aj)) (aB 5 GN.nd) (ak (aG 6 GN.nd (aL bf zo AI))
    (ak (aG 7 GN.nd cT)
    (ak (aV x_ rfl (aX rfl B.range_ (aa y8 aj)) (aB 8 GN.nd) (ak (aG 7 GN.nd (aL bf BO (aK zD z4 (aL dX BU au))))
     (ao (aG 6 GN.nd (aL eZ BU au)))))
    (ao (bD (BG.pt (dw (aU (cL L) AD cT) (dm (aU (oM J) BO zt rfl)))) (ao (aG 4 GN.nd BO)) aW))))))
   (ao (aJ AD))))),?_⟩
 walk_at "q";walk_at "h";have al:(AU mQ).length<=ai:=by rw[d9];decide
 have k':=g8.mk k;clear k;have U:("":ap)=AU []:=by decide +kernel
 walk_at "s";simp only[Hw];walk_at "n";walk_at "s";walk_at "n";refine aq λR2 O=>?_;walk_at "";refine⟨by first | trivial | omega,yT,yT,?_⟩;rw[show dM 0 ((ws.length:Int)+1).toNat=(ae (ws.length+1)).map (λ(i:Nat)=>yv (i:Int)) by rw[show ((ws.length:Int)+1).toNat=ws.length+1 by omega];exact fX _];refine aN (λ(i:Nat)=>yv (i:Int)) (ae (ws.length+1)) (λA Z H=>∃(m:ap) (X M v7 D:Option T),Z=[ab (.int (d:Int)),ab (.int b),ab (.ref a),ab (.str (AU mQ)),ab (.str m),X,M,v7,D]/\H3=H/\((m=""/\∀i∈A,AU (dg d (b+i))∈ws)\/(AN m/\m∉ws))) ⟨"",_,_,_,_,rfl,rfl,.inl ⟨rfl,(λ_ h=>nomatch h)⟩⟩ ?_ ?_
 .rintro Z H ⟨m,X,M,v7,D,rfl,rfl,u⟩;walk_at "t";walk_at "n";walk_at "";rcases u with ⟨_,o⟩ | ⟨h1,h2⟩
  .exfalso;obtain⟨n,rfl⟩:∃n,d=n+1:=⟨d - 1,yT⟩;exact Ts ws (λi=>AU (dg (n+1) (b+i))) (λi j hi F h=>U6 yT yT h) λi hi=>o i (K_.mpr yT)
  exact My.of gb.refl (k'.out m h1 h2)
 rintro A i B Z H N e ⟨m,X,M,v7,D,rfl,rfl,u⟩ hN;walk_at "t";have t:=g8.mk hN;have p:=g8.mk u;clear hN u e k' O;walk_at "s";walk_at "n";walk_at "s";walk_at "n";refine aq λR5 Y=>?_;walk_at "";refine⟨by first | trivial | omega,yT,yT,?_⟩;have z:(dM 0 d).length=d:=by unfold dM;rw[d_,m_]
 generalize dM 0 d=ts0 at z;try rw[U]
 refine m6 (λr Z H=>∃(l:List Nat) (C:Int) (D:Option T),Z=[ab (.int (d:Int)),ab (.int b),ab (.ref a),ab (.str (AU mQ)),ab (.str m),ab (.int (i:Int)),ab (.int C),ab (.str (AU l)),D]/\l++dg r.length C=dg d (b+i)/\l.length+r.length=d/\H3=H) ⟨[],b+i,_,rfl,by rw[z];rfl,by rw[z];exact kG _,rfl⟩ ?_ ?_
 .rintro Z H ⟨l,C,D,rfl,c,v,rfl⟩;walk_at "t";rw[FR,dg,X_] at c;subst c;walk_at "n";walk_at "";have nmx:AN (AU (dg d (b+(i:Int)))):=PN (by rw[yD];omega) (by rw[yD];omega) (Qa _ _);by_cases q:m=AU []
  .rw[N_ q,zi rfl];refine⟨rfl,fc ws,?_⟩;split
   .rename_i R;exact t.out _ _ ⟨_,_,_,_,_,rfl,rfl,.inr ⟨nmx,(Uo iy (x:=AU (dg d (b+(i:Int))))).mp R⟩⟩
   rename_i R;have S:AU (dg d (b+(i:Int)))∈ws:=ib λh=>R ((Uo iy).mpr h);rcases p.out with ⟨_,o⟩ | h
   .exact t.out _ _ ⟨m,_,_,_,_,rfl,rfl,.inl ⟨q.trans U.symm,λj F=>by
     rcases F_.mp F with F | F
     ·
      exact o j F
     ·
      rw[i_.mp F];exact S⟩⟩
   exact t.out _ _ ⟨m,_,_,_,_,rfl,rfl,.inr h⟩
  rw[I_ q,y9 B_];rcases p.out with ⟨h,_⟩ | h
  .exact As (h.trans U) q
  exact t.out _ _ ⟨m,_,_,_,_,rfl,rfl,.inr h⟩
 rintro x r Z H N2 ⟨l,C,D,rfl,c,v,rfl⟩ I;walk_at "t";rw[j_] at c v;rw[dg] at c;have hM:=g8.mk I;have y:=g8.mk c;have hpl':l.length<8:=yT
 have G:=g8.mk v;have V:=Hx (C%26) (FH _ y6) (GV _ y6);clear I t p Y c v;walk_at "";simp only[fj,V,iu];walk_at "";rw[show (⟨#[97+(C%26).toNat]⟩:ap)=AU [97+(C%26).toNat] from rfl];refine⟨y6,al,by rw[d9,d9];simp only[E_];omega,⟨y6,Ap⟩,?_⟩;rw[t7];exact hM.out _ _ ⟨_,_,_,rfl,by rw[EF];exact y.out,by rw[b_,E_];have:=G.out;omega,rfl⟩
abbrev uw:List ap:=[At,Bi,"_law_letters",IQ,Cs,"_law_base","_law_at","_law_spot"]
theorem LA:fY uw [At,Bi] (aA (yY 58)):=aZ
theorem IV {f:ah} (g:G3 K mg "_law_names" (yY 58) [At,Bi] f fd) (B:Bl mg) (a:R8 P w K mg base 1 EA (yY 55) [At,BI] pC) (c:R8 P w K mg base 1 "_law_free_name" (yY 57) ["_law_size",LF,AF] Yo):R8 P w K mg base 2 "_law_names" (yY 58) [At,Bi] U8:=by
 refine c6 g LA ?_;rintro _ A _ s H _ _ H3 _ r ⟨d,m,rfl,m1,m8,hC,k⟩;refine⟨_,(ak (aG 2 LA.nd cT)
   (ak (aG 3 LA.nd (bI aj))
   (ak (bD (aU vg (aH a r rfl (aa y8 (aa au aj))) au) (ak (aV x_ rfl (aX rfl B.range_ (aa zo aj)) (aB 4 LA.nd) (ao (bM (cW J_ R_ S_ bB z4 (aa (aH c r rfl (aa (aL bf au (aH a r rfl (aa y8 (aa au aj)))) (aa (aH a r rfl (aa y8 (aa (aL ig au au) aj))) (aa z4 aj)))) aj)))))
    (ao (aJ z4))) aW)
   (ak (aG 5 LA.nd (aH c r rfl (aa (aL bf au (aH a r rfl (aa y8 (aa au aj)))) (aa (aH a r rfl (aa y8 (aa (aL ig au au) aj))) (aa (bI aj) aj)))))
   (ak (aG 6 LA.nd (aH a r rfl (aa y8 (aa (aQ b8 rfl B.len_ cg (aa AI aj)) aj))))
   (ak (aG 7 LA.nd (cW PySem.F.plainAttrs_str PySem.F.slot_str_index PySem.F.type_str_index Ff zt (aa (aK zD AI BU) aj)))
   (ao (aJ (bx rfl (b6 58 uw [Cs,"_law_base","_law_letters","_law_at","_law_spot"] 1 [5,2,6,7]) (aX rfl B.range_ (aa zo aj)) (λcl ZO s H C0 fp=>⟨(aB 0 (n7 [Cs,"_law_base","_law_letters","_law_at","_law_spot"])),bG,(aL bf (aL bf (jQ zo jP (fP z4)) (aK zD zt (aL dX (aL bf AD y8) au))) (jQ zo (fP (aL bf z4 au)) jP))⟩)))))))))),?_⟩
 walk_at "q";walk_at "h";have al:(AU mQ).length<=ai:=by rw[d9];decide
 have S:=g8.mk k;clear k;have O:Wt d H3 H3 []:=⟨hC,A4.refl,(λ_ h=>nomatch h)⟩;clear hC;walk_at "s";simp only[Hw];walk_at "n";walk_at "s";refine⟨yT,λD q=>?_⟩;have f0:=O.fresh q;have npd:=O.cl.ne q;have M:=O.new (o:=.lst []) q;generalize eH H3 D (.lst [])=H4 at M;clear O q;walk_at "n";refine aq λR2 Y=>?_;walk_at "";refine⟨d,3,rfl,y6,M.cl,λW H5 y0 y1 v=>?_⟩;have z:=M.drw v;clear M v;walk_at "";have rg:dM 0 m=(ae m).map λ(i:Nat)=>yv (i:Int):=fX m;by_cases hw:0<W
 .rw[N_ hw,zi rfl];clear Y;refine⟨by first | trivial | omega,yT,yT,?_⟩;try rw[rg]
  refine aN (λ(i:Nat)=>yv (i:Int)) (ae m) (λA Z H=>∃(ws:List ap) (v4:Option T),Z=[ab (.ref d),ab (.int (m:Int)),ab (.str (AU mQ)),ab (.ref D),v4,af,af,af]/\BQ ws/\ws.length=A.length/\Wt d H3 H [(D,.lst (ws.map yy))]) ⟨[],_,rfl,BQ.nil,rfl,z⟩ ?_ ?_
  .rintro Z H ⟨ws,v4,rfl,hn,R,w⟩;walk_at "t";rw[m_] at R;clear z;walk_at "";exact gO w.cl w.kp w.hd f0 npd λH1 v h1=>S.out ws H1 D R hn v h1
  rintro A i B Z H N e ⟨ws,v4,rfl,hn,R,w⟩ hN;walk_at "t";have hA:A.length<8:=by have:=Q_ aT e;simp only[b_,j_,m_] at this;omega
  have hN':=g8.mk hN;have g:=w.hd;clear hN e S z;walk_at "";refine⟨⟨zC,zC⟩,d,8,rfl,y6,w.cl,λn1 H6 p0 p1 j=>?_⟩;have t:=w.drw j;clear w g j;walk_at "";refine⟨⟨y6,y6,y6⟩,d,_,rfl,y6,t.cl,λn2 H7 q0 q1 n=>?_⟩;have L:=t.drw n;have g4:=L.hd;clear t n;try dsimp only
  refine⟨(1+n1).toNat,n2,D,ws,by rw[Nw yT],yT,yT,g4,yT,λx C hnx=>?_⟩;walk_at "";refine⟨yT,hN'.out _ _ ⟨ws++[x],_,rfl,hn.snoc C hnx,by rw[b_,b_,R];rfl,?_⟩⟩;have y:=L.set f0 (λ_ h=>nomatch h) (.lst (ws.map yy++[yy x]));rw[v_];exact y
 rw[I_ hw,y9 B_];walk_at "n";walk_at "s";refine⟨d,8,rfl,y6,z.cl,λn1 H6 p0 p1 j=>?_⟩;have t:=z.drw j;clear z j;walk_at "";refine⟨⟨y6,y6,y6⟩,d,_,rfl,y6,t.cl,λn2 H7 q0 q1 n=>?_⟩;have L:=t.drw n;clear t n;refine⟨yT,λpe I=>?_⟩;have y:=L.new (o:=.lst []) I;have X:=y.hd;generalize eH H7 pe (.lst [])=H8 at y X;clear L I;refine⟨(1+n1).toNat,n2,pe,[],by rw[Nw yT],yT,yT,X,y6,λx C _=>?_⟩;have w6:=y.tl;clear y X;obtain⟨l,rfl⟩:=Uz x;have e1:=C.lo;have e2:=C.hi;have e3:=C.az;rw[d9] at e1 e2;rw[fj] at e3;have ml:=d9 l;walk_at "n";walk_at "s";refine⟨by first | trivial | omega,d,_,rfl,yT,w6.cl,λn3 H9 r0 r1 J=>?_⟩;have w7:=w6.drw J;clear w6 J;obtain⟨b,rfl⟩:∃b:Nat,n3=(b:Int):=⟨n3.toNat,yT⟩;have u:b<l.length:=yT
 walk_at "n";refine aq λR5 hR5=>?_;have V:AA l (b:Int)=ab l[b]:=bQ (g_ u);have U:=e3 _ (C6 u);generalize l[b]=ch at V U;have G:=UG ch U.1 U.2;walk_at "";refine⟨zC,yT,?_⟩;rw[fj,V,iu,show (⟨#[ch]⟩:ap)=AU [ch] from rfl,G];clear V G;walk_at "";walk_at "n";walk_at "";refine⟨by first | trivial | omega,yT,yT,?_⟩;try rw[rg]
 walk_at "c";refine bO (λ(i:Nat)=>yv (i:Int)) (λi=>.str (KU l b (ch - 97) i)) (ae m) [ab (.str (AU l)),ab (.str (AU mQ)),ab (.int (b:Int)),ab (.int ((ch - 97:Nat):Int))] trivial (by rw[m_];omega) (λi hi Q' hq=>?_) (λp hp=>?_)
 .have hch:=Hx ((((ch - 97:Nat):Int)+(i:Int))%26) (FH _ y6) (GV _ y6);have st:=Yk l b yT;have sf:=LK l (b+1) yT;rw[show ((b+1:Nat):Int)=(b:Int)+1 by omega] at sf;have hq':=g8.mk hq;clear S hq rg;walk_at "";refine⟨yT,y6,by rw[d9];decide,?_⟩;rw[fj,hch,iu,show (⟨#[97+((((ch - 97:Nat):Int)+(i:Int))%26).toNat]⟩:ap)=AU [97+((((ch - 97:Nat):Int)+(i:Int))%26).toNat] from rfl];rw[t7,t7];simp only[d9,b_,FG,KM,E_];exact⟨yT,yT,yT,hq'.out⟩
 have el:(ae m).map (λi=>yy (KU l b (ch - 97) i))=((ae m).map (KU l b (ch - 97))).map yy:=by rw[L_];rfl
 rw[el];have w8:=w7.new (o:=.lst (((ae m).map (KU l b (ch - 97))).map yy)) hp;exact gO w8.cl w8.kp w8.hd (w7.fresh hp) (w7.cl.ne hp) λH1 v h1=>S.out _ H1 p (by rw[d_,m_]) (Ml e2 u e3 m8) v h1
abbrev lK:List ap:=[Bi,FC,GE,Cs,CY,EB]
theorem NO:fY lK [Bi,FC] (aA (yY 61)):=aZ
theorem yN {f:ah} (g:G3 K mg "_law_chained" (yY 61) [Bi,FC] f fd) (B:Bl mg):R8 P w K mg base 1 "_law_chained" (yY 61) [Bi,FC] Yp:=by
 refine c6 g NO ?_;rintro _ A _ s H _ _ H3 _ hr ⟨m,a,X,rfl,m8,ha,hes,k⟩;have z:=Pr.u31 hr;refine⟨_,(ak (ie (i:=2) rfl NO.nd (b6 61 lK [CY,FC,Bi] 1 [1,0]) (aX rfl B.range_ (aa y8 aj)) (λcl C s H C0 fp=>⟨(aB 0 (n7 [CY,FC,Bi])),bG,(bx rfl (zK (n00:=(aA (yY 61)).names) (N:=[CY,FC,Bi]) (N':=[EB,FC,CY]) (nt:=1) (cap:=[1,0]) rfl rfl rfl Ap) (aX rfl B.range_ (aa zt aj)) (λcl C s H C0 fp=>⟨(aB 0 (n7 [EB,FC,CY])),bG,(du (q9 z) (bc (aa zt (aa y8 aj))) zo rfl)⟩))⟩))
   (ak (aV x_ rfl (aX rfl B.range_ (aa y8 aj)) (aB 3 NO.nd) (ao (aV x_ rfl (aX rfl B.range_ (aa y8 aj)) (aB 4 NO.nd) (ao (aV x_ rfl (aX rfl B.range_ (aa y8 aj)) (aB 5 NO.nd) (ao (ou (Ny (aK zD (aK zD zt AD) AI) (lr (xQ (aK zD (aK zD zt AD) z4) (lr (aK zD (aK zD zt z4) AI))))) (En (aK zD zt AD) AI rm))))))))
   (ao (aJ zt)))),?_⟩
 walk_at "q";walk_at "h";have k':=g8.mk k;clear k;have x:dM 0 m=(ae m).map λ(i:Nat)=>yv (i:Int):=fX m;refine aq λR0 hR0=>?_;walk_at "";refine⟨by first | trivial | omega,yT,yT,?_⟩;try rw[x]
 walk_at "c";refine cP (λ(i:Nat)=>yv (i:Int)) (ae m) (λA ys Z H=>∃(d:List ah) (v:Option T),Z=[v,ab (.ref a),ab (.int (m:Int))]/\ys=d.map yB/\d.length=A.length/\Pw H3 H m d) ⟨[],_,rfl,rfl,rfl,gb.refl,(λ_ h=>nomatch h),(λ_ h=>nomatch h)⟩ ?_ ?_;rotate_left
 .rintro A i B ys Z H N e ⟨d,v,rfl,rfl,U,o⟩ hN;walk_at "t";have hA:A.length<8:=by have:=Q_ aT e;simp only[b_,j_,m_] at this;omega
  have F:=g8.mk hN;have ha':=o.sb _ _ ha;clear hN e k' hR0 ha;walk_at "";refine⟨by first | trivial | omega,yT,yT,?_⟩;try rw[x]
  walk_at "c";refine bO (λ(j:Nat)=>yv (j:Int)) (λj=>.bl (di am (.tup [.int (i:Int),.int (j:Int)]) X)) (ae m) [ab (.ref a),ab (.int (i:Int))] trivial (by rw[m_];omega) (λj hj Q' hq=>?_) (λq hq=>?_)
  .clear F x;walk_at "";exact⟨y6,rfl,zC,zC⟩
  rw[show (ae m).map (λ(j:Nat)=>T.bl (di am (.tup [.int (i:Int),.int (j:Int)]) X))=((ae m).map λ(j:Nat)=>di am (.tup [.int (i:Int),.int (j:Int)]) X).map T.bl by rw[L_];rfl];refine⟨by first | omega | (rw[d_,U];omega),F.out _ _ _ ⟨d++[q],_,rfl,by rw[v_];rfl,by rw[b_,b_,U];rfl,o.grow (by rw[d_,m_]) hq⟩⟩
 rintro ys Z H ⟨d,v,rfl,rfl,U,o⟩;rw[m_] at U;refine⟨zC,by rw[d_];omega,λp y=>?_⟩;have c:Tb H3 (eH H p (.lst (d.map yB))) p m d:=by
  refine⟨o.sb.trans (gb.new y),U,aC,λb hb=>?_,λhin=>?_,cM o.sb y,o.fa⟩
  .obtain⟨bs,h1,V⟩:=o.r b hb;exact⟨bs,h1,by rw[aD (aR V y)];exact V⟩
  obtain⟨bs,_,V⟩:=o.r p hin;rw[V] at y;cases y
 generalize eH H p (.lst (d.map yB))=H4 at c;clear o y;walk_at "n";refine aq λR1 hR1=>?_;walk_at "";refine⟨by first | trivial | omega,yT,yT,?_⟩;try rw[x]
 refine aN (λ(i:Nat)=>yv (i:Int)) (ae m) (λ_ Z H=>∃(v3 u n:Option T),Z=[ab (.int (m:Int)),ab (.ref a),ab (.ref p),v3,u,n]/\Tb H3 H p m d) ⟨_,_,_,rfl,c⟩ ?_ ?_
 .rintro Z H ⟨v3,u,n,rfl,c⟩;walk_at "t";walk_at "n";walk_at "";exact My.of gb.refl (k'.out p d H c)
 rintro A1 G B1 Z H N1 e1 ⟨v3,u,n,rfl,c⟩ I;walk_at "t";have hk:G<m:=K_.mp (by rw[e1];simp);have R:=g8.mk I;clear I e1 hR1 k' ha;walk_at "";refine⟨by first | trivial | omega,yT,yT,?_⟩;try rw[x]
 refine aN (λ(i:Nat)=>yv (i:Int)) (ae m) (λ_ Z H=>∃(u n:Option T),Z=[ab (.int (m:Int)),ab (.ref a),ab (.ref p),ab (.int (G:Int)),u,n]/\Tb H3 H p m d) ⟨_,_,rfl,c⟩ ?_ ?_
 .rintro Z H ⟨u,n,rfl,c⟩;exact⟨zC,R.out _ _ ⟨_,_,_,rfl,c⟩⟩
 rintro A2 ii B2 Z H N2 e2 ⟨u,n,rfl,c⟩ O;walk_at "t";have hii:ii<m:=K_.mp (by rw[e2];simp);have L:=g8.mk O;clear O e2 R;walk_at "";refine⟨by first | trivial | omega,yT,yT,?_⟩;try rw[x]
 refine aN (λ(i:Nat)=>yv (i:Int)) (ae m) (λ_ Z H=>∃(n:Option T),Z=[ab (.int (m:Int)),ab (.ref a),ab (.ref p),ab (.int (G:Int)),ab (.int (ii:Int)),n]/\Tb H3 H p m d) ⟨_,rfl,c⟩ ?_ ?_
 .rintro Z H ⟨n,rfl,c⟩;exact⟨zC,L.out _ _ ⟨_,_,rfl,c⟩⟩
 rintro A3 S B3 Z H N3 e3 ⟨n,rfl,c⟩ D;walk_at "t";have hjj:S<m:=K_.mp (by rw[e3];simp);have hM3:=g8.mk D;clear D e3 L x;have gt:=c.t;obtain⟨ri,W,gi,Y,li,gri⟩:=c.at' hii;obtain⟨rk,bk,gk,hrk,lk,grk⟩:=c.at' hk;obtain⟨x1,gx1⟩:=pF (show S<W.length by omega);obtain⟨x2,gx2⟩:=pF (show G<W.length by omega);obtain⟨x3,gx3⟩:=pF (show S<bk.length by omega);have M:=g8.mk li;clear li lk;have J:∀b:Bool,oq (BH W.length (S:Int)) λj=>N3 [ab (yv (m:Int)),ab (yB a),ab (yB p),ab (yv (G:Int)),ab (yv (ii:Int)),ab (yv (S:Int))] (eH H ri (O3.lst ((wr T.bl W).set j (T.bl b)))):=λb=>by rw[tM (by have:=M.out;omega),iu,<- List.map_set];exact hM3.out _ _ ⟨_,rfl,c.put Y (by rw[kU];exact M.out)⟩
 have l:=g8.mk J;clear J;walk_at "";split
 .exact l.out ag
 split
 .exact l.out x3
 exact l.out am
abbrev ux:List ap:=[At,AF,Kk,"_law_lots",Bi,"_law_pairs_here",FC,CY,EB,GE]
theorem F1:fY ux [At,AF,Kk,"_law_lots"] (aA (yY 62)):=aZ
theorem IW {f:ah} (g:G3 K mg "_law_pairs" (yY 62) [At,AF,Kk,"_law_lots"] f fd) (B:Bl mg) (F_turn:R8 P w K mg base 2 "_law_turn" (yY 59) [At,IX] Mg) (M:R8 P w K mg base 1 EA (yY 55) [At,BI] pC) (D:R8 P w K mg base 1 "_law_chained" (yY 61) [Bi,FC] Yp):R8 P w K mg base 3 "_law_pairs" (yY 62) [At,AF,Kk,"_law_lots"] Yq:=by
 refine c6 g F1 ?_;rintro _ A _ s H _ _ H3 _ hr ⟨d,a,o,ws,z,m,rfl,l1,l100,nad,nod,ha,hws,w8,ho,hes,e28,hC,k⟩;have R:=Pr.u30 hr;refine⟨_,(ak (aG 4 F1.nd (aQ b8 rfl B.len_ cg (aa zo aj)))
   (ak (aG 5 F1.nd (bI aj))
   (ak (aG 6 F1.nd (bu tK rfl B.list_ jT (aa zt aj)))
   (ak (aV x_ rfl (aX rfl B.range_ (aa AD aj)) (aB 7 F1.nd) (ao (aV x_ rfl (aX rfl B.range_ (aa AD aj)) (aB 8 F1.nd) (ao (bD (BG.pt (dw (aU (jO R) BO BN) (dw (aU (cL R) (aH M hr rfl (aa y8 (aa (aL ik au z4) aj))) au) (dm (aU vf (aQ b8 rfl B.len_ cg (aa AI aj)) au))))) (ak (bM (cW J_ R_ S_ bB AI (aa (bc (aa cT (aa BO (aa BN aj)))) aj)))
      (ao (aG 6 F1.nd (aL bf BU (bI (aa (bc (aa BO (aa BN aj))) (aa (bc (aa BN (aa BO aj))) aj))))))) aW)))))
   (ak (aG 9 F1.nd (aH D hr rfl (aa AD (aa BU aj))))
   (ak (aV x_ rfl (aX rfl B.range_ (aa AD aj)) (aB 7 F1.nd) (ao (aV x_ rfl (aX rfl B.range_ (aa AD aj)) (aB 8 F1.nd) (ao (bD (BG.pt (dw (aU (jO R) BO BN) (dw (aU (cL R) (aH M hr rfl (aa y8 (aa z4 aj))) au) (dw (gZ (BG.pt (dw (cJ (aK zD (aK zD E8 BO) BN)) (dm (cJ (aK zD (aK zD E8 BN) BO)))))) (dm (aU vf (aQ b8 rfl B.len_ cg (aa AI aj)) au)))))) (ao (bM (cW J_ R_ S_ bB AI (aa (bc (aa cT (aa BO (aa BN aj)))) aj)))) aW)))))
   (ak (aG 5 F1.nd (aH F_turn hr rfl (aa y8 (aa AI aj))))
   (ao (aJ (bc (aa (bu b7 rfl B.tuple_ bT (aa (bx rfl (b6 62 ux [IG,CY,EB,AF] 3 [1]) (bJ AI) (λcl ZO s H C0 fp=>⟨(bH (n:=3) rfl (aF (aB 0 (n7 [IG,CY,EB,AF])) (aF (aB 1 (n7 [IG,CY,EB,AF])) (aF (aB 2 (n7 [IG,CY,EB,AF])) bh)))),bG,(bc (aa y8 (aa (aK zD z4 zo) (aa (aK zD z4 zt) aj))))⟩)) aj)) (aa E8 aj)))))))))))),?_⟩
 walk_at "q";walk_at "h";have k':=g8.mk k;clear k;have w0:Wt d H3 H3 []:=⟨hC,A4.refl,(λ_ h=>nomatch h)⟩;have w0:Wt d H3 H3 [(a,.lst (ws.map yy))]:=⟨hC,A4.refl,λq G=>by rw[i_.mp G];exact⟨ha,nad⟩⟩;clear hC;have rg:dM 0 ws.length=(ae ws.length).map λ(i:Nat)=>yv (i:Int):=fX _;walk_at "s";walk_at "n";walk_at "s";refine⟨yT,λC hpp=>?_⟩;have pp0:=w0.fresh hpp;have npa:a≠C:=aR ha hpp;have npo:o≠C:=aR ho hpp;have w1:=w0.new (o:=.lst []) hpp;have ho1:eH H3 C (.lst []) o=ab (.lst z):=by rw[aD npo];exact ho
 generalize eH H3 C (.lst [])=H4 at w1 ho1;clear w0 hpp ha;walk_at "n";walk_at "s";intro u W;have w2:=w1.new (o:=.lst z) W;have pe0:=w1.fresh W;have npe:C≠u:=aR w1.hd W;have nae:a≠u:=aR w1.tl.hd W;generalize eH H4 u (.lst z)=H5 at w2;clear w1 W ho1;walk_at "n";have pi0:PI d H3 H5 C u a ws [] z:=⟨⟨w2.cl,w2.kp,λq G=>w2.at' q (by simp only[o_,B8,B7] at G |-;rcases G with h | h | h;exact .inr (.inl h);exact .inl h;exact .inr (.inr h))⟩,aS npe,npa,y6,hes,by simp;omega,(λ_ h=>nomatch h)⟩;clear w2 pe0 npe nae;refine aq λR3 hR3=>?_;walk_at "";refine⟨zC,yT,yT,?_⟩;try rw[rg]
 refine aN (λ(i:Nat)=>yv (i:Int)) (ae ws.length) (λA Z H=>∃(c:List (Bool × Nat × Nat)) (z:List T) (u:ah) (v7 L:Option T),Z=[ab (.ref d),ab (.ref a),ab (.ref o),ab (.int m),ab (.int (ws.length:Int)),ab (.ref C),ab (.ref u),v7,L,af]/\PI d H3 H C u a ws c z/\c.Sublist (FS ag ws.length A)) ⟨[],z,u,_,_,rfl,pi0,Pi _⟩ ?_ ?_;rotate_left
 .rintro A i B Z H N e ⟨c,z,u,v7,L,rfl,l,b⟩ hN;walk_at "t";have hi:i<ws.length:=K_.mp (by rw[e];simp);have hM:=g8.mk hN;clear hN e pi0 k' hR3;walk_at "";refine⟨zC,yT,yT,?_⟩;try rw[rg]
  refine aN (λ(i:Nat)=>yv (i:Int)) (ae ws.length) (λA2 Z H=>∃(c:List (Bool × Nat × Nat)) (z:List T) (u:ah) (L:Option T),Z=[ab (.ref d),ab (.ref a),ab (.ref o),ab (.int m),ab (.int (ws.length:Int)),ab (.ref C),ab (.ref u),ab (.int (i:Int)),L,af]/\PI d H3 H C u a ws c z/\c.Sublist (FS ag ws.length A++A2.map λj=>(ag,i,j))) ⟨c,z,u,_,rfl,l,by rw[DH,X_];exact b⟩ ?_ ?_
  .rintro Z H ⟨c,z,u,L,rfl,l,b⟩;exact⟨zC,hM.out _ _ ⟨c,z,u,_,_,rfl,l,by rw[vY];exact b⟩⟩
  rintro A2 j B2 Z H N2 e2 ⟨c,z,u,L,rfl,l,b⟩ F';walk_at "t";have hj:j<ws.length:=K_.mp (by rw[e2];simp);have I:=g8.mk F';have Y:=yE (y:=(ag,i,j)) b;have J:=yF (y:=(ag,i,j)) b;rw[EF,show [(ag,i,j)]=[j].map λj=>(ag,i,j) from rfl,<- v_] at Y J;clear F' e2 hM rg b;walk_at "";by_cases F:(i:Int)=(j:Int)
  .rw[N_ F];simp only[E9,H_,Y_];exact I.out _ _ ⟨c,z,u,_,rfl,l,J⟩
  rw[I_ F];simp only[FB,if_true];refine⟨.inl ⟨y6,y6⟩,d,_,rfl,yT,l.w.cl,λn H6 n0 n1 hD=>?_⟩;have v:=l.drw hD;clear l hD;have g1:=v.w.hd;have g2:=v.w.tl.hd;walk_at "";have O:=g8.mk (I.out [ab (.ref d),ab (.ref a),ab (.ref o),ab (.int m),ab (.int (ws.length:Int)),ab (.ref C),ab (.ref u),ab (.int (i:Int)),ab (.int (j:Int)),af] H6 ⟨c,z,u,_,rfl,v,J⟩);split
  .split
   .rename_i h12;have h12':c.length<12:=by have:=DB h12;omega
    have el:=v.el;have e1:c.map C8++[yA [yy (cx "with"),yv (i:Int),yv (j:Int)]]=(c++[(ag,i,j)]).map C8:=by rw[v_];rfl
    rw[e1];refine⟨⟨zC,zC⟩,y6,yT,y6,y6,y6,λq0 hq0=>?_⟩;have X:eH H6 C (.lst ((c++[(ag,i,j)]).map C8)) u=ab (.lst z):=by rw[aD v.ne];exact g2
    rw[aD (aR X hq0),X,lz];refine⟨by rw[j_,j_,FR];omega,λq G=>?_⟩;exact I.out _ _ ⟨c++[(ag,i,j)],z++[yA [yv (i:Int),yv (j:Int)],yA [yv (j:Int),yv (i:Int)]],q,_,rfl,v.add pp0 h12' ⟨λh=>F (by have:i=j:=h;rw[this]),hi,hj⟩ hq0 G rfl rfl,Y⟩
   first | exact O.out | trivial
  first | exact O.out | trivial
 rintro Z H ⟨c,z,u,v7,L,rfl,l,b⟩;walk_at "t";clear pi0;walk_at "n";refine aq λR4 hR4=>?_;have X:=l.w.tl.hd;walk_at "";refine⟨ws.length,u,z,rfl,w8,X,l.ea,λpt as H7 tb=>?_⟩;have S:Tq d H3 H7 pt ws.length as:=tb.tq l.w.cl l.w.kp;have npt:pt≠C:=aS (aR l.w.hd tb.f0);have nas:∀x∈as,x≠C:=λx hx=>aS (aR l.w.hd (tb.fa x hx));have pi1:=l.sub tb.sb;clear l tb X;walk_at "n";refine aq λR5 hR5=>?_;walk_at "";refine⟨zC,yT,yT,?_⟩;try rw[rg]
 refine aN (λ(i:Nat)=>yv (i:Int)) (ae ws.length) (λA Z H=>∃(c:List (Bool × Nat × Nat)) (v7 L:Option T),Z=[ab (.ref d),ab (.ref a),ab (.ref o),ab (.int m),ab (.int (ws.length:Int)),ab (.ref C),ab (.ref u),v7,L,ab (.ref pt)]/\PI d H3 H C u a ws c z/\Tq d H3 H pt ws.length as/\c.Sublist (FS ag ws.length (ae ws.length)++FS am ws.length A)) ⟨c,_,_,rfl,pi1,S,by rw[show FS am ws.length []=[] from rfl,X_];exact b⟩ ?_ ?_;rotate_left
 .rintro A i B Z H N e ⟨c,v7,L,rfl,l,S,b⟩ hN;walk_at "t";have hi:i<ws.length:=K_.mp (by rw[e];simp);have hM:=g8.mk hN;clear hN e pi1 k' hR5;walk_at "";refine⟨zC,yT,yT,?_⟩;try rw[rg]
  refine aN (λ(i:Nat)=>yv (i:Int)) (ae ws.length) (λA2 Z H=>∃(c:List (Bool × Nat × Nat)) (L:Option T),Z=[ab (.ref d),ab (.ref a),ab (.ref o),ab (.int m),ab (.int (ws.length:Int)),ab (.ref C),ab (.ref u),ab (.int (i:Int)),L,ab (.ref pt)]/\PI d H3 H C u a ws c z/\Tq d H3 H pt ws.length as/\c.Sublist (FS ag ws.length (ae ws.length)++FS am ws.length A++A2.map λj=>(am,i,j))) ⟨c,_,rfl,l,S,by rw[DH,X_];exact b⟩ ?_ ?_
  .rintro Z H ⟨c,L,rfl,l,S,b⟩;exact⟨zC,hM.out _ _ ⟨c,_,_,rfl,l,S,by rw[vY,<- EF];exact b⟩⟩
  rintro A2 j B2 Z H N2 e2 ⟨c,L,rfl,l,S,b⟩ F';walk_at "t";have hj:j<ws.length:=K_.mp (by rw[e2];simp);have I:=g8.mk F';have Y:=yE (y:=(am,i,j)) b;have J:=yF (y:=(am,i,j)) b;rw[EF (_++_),show [(am,i,j)]=[j].map λj=>(am,i,j) from rfl,<- v_] at Y J;clear F' e2 hM rg b;walk_at "";by_cases F:(i:Int)=(j:Int)
  .rw[N_ F];simp only[E9,H_,Y_];exact I.out _ _ ⟨c,_,rfl,l,S,J⟩
  rw[I_ F];simp only[FB,if_true];refine⟨d,_,rfl,yT,l.w.cl,λn H6 n0 n1 hD=>?_⟩;have v:=l.drw hD;have V:=S.drw hD;clear l hD S;have g1:=v.w.hd;have gt:=V.t;obtain⟨ri,bi,gi,hri,li,gri⟩:=V.at' hi;obtain⟨rj,bj,gj,hrj,lj,grj⟩:=V.at' hj;obtain⟨x1,gx1⟩:=pF (show j<bi.length by omega);obtain⟨x2,gx2⟩:=pF (show i<bj.length by omega);clear li lj;have O:=g8.mk (I.out [ab (.ref d),ab (.ref a),ab (.ref o),ab (.int m),ab (.int (ws.length:Int)),ab (.ref C),ab (.ref u),ab (.int (i:Int)),ab (.int (j:Int)),ab (.ref pt)] H6 ⟨c,_,rfl,v,V,J⟩);have e1:c.map C8++[yA [yy (cx "apart"),yv (i:Int),yv (j:Int)]]=(c++[(am,i,j)]).map C8:=by rw[v_];rfl
  have go:decide ((c.length:Int)<12)=ag->N2 [ab (.ref d),ab (.ref a),ab (.ref o),ab (.int m),ab (.int (ws.length:Int)),ab (.ref C),ab (.ref u),ab (.int (i:Int)),ab (.int (j:Int)),ab (.ref pt)] (eH H6 C (O3.lst (wr C8 c++[yA [yy (cx "apart"),yv (i:Int),yv (j:Int)]]))):=λh12=>by rw[e1];exact I.out _ _ ⟨c++[(am,i,j)],_,rfl,v.add1 pp0 (by have:=DB h12;omega) ⟨λh=>F (by have:i=j:=h;rw[this]),hi,hj⟩,V.set npt nas,Y⟩
  have go':=g8.mk go;have l12:=v.l12;clear go e1;walk_at ""
  repeat' split
  all_goals first | exact O.out | exact⟨⟨zC,zC⟩,y6,yT,go'.out (by assumption)⟩ | trivial
 rintro Z H ⟨c,v7,L,rfl,l,S,b⟩;walk_at "t";clear pi1;walk_at "n";refine aq λR6 hR6=>?_;have g1:=l.w.hd;have l12:=l.l12;walk_at "";refine⟨d,C,c.map C8,rfl,(l.w.at' _ n_).2,g1,Yr c,by rw[d_];omega,l.w.cl,λys H8 q U hD G=>?_⟩;obtain⟨r,hp',rfl⟩:=fZ U c rfl;have nd':r.Nodup:=(hp'.nodup_iff).mpr ((Mm ⟨ws.length,yT⟩).sublist b);have ok':∀x∈r,x.2.1≠x.2.2/\x.2.1<ws.length/\x.2.2<ws.length:=λx hx=>l.ok x (hp'.mem_iff.mp hx);have l12':r.length<=12:=by rw[hp'.length_eq];exact l12
 have w9:=(l.w.drw hD).tl.tl.new (o:=.lst (r.map C8)) G;have tq9:=(S.drw hD).new (o:=.lst (r.map C8)) G;generalize eH H8 q (.lst (r.map C8))=H9 at w9 tq9;clear hD G l S U hp' b g1 l12 rg;walk_at "n";have gq:=w9.hd;have gA:=w9.tl.hd;try dsimp only
 walk_at "";walk_at "c";refine oY (λx:Bool × Nat × Nat=>.str (bw x.1)) (λx=>.int (x.2.1:Int)) (λx=>.int (x.2.2:Int)) (λx=>AW (DV ws x)) (λ_=>ag) r [ab (.ref a)] (.inl gq) yT (λx hx Q' G=>G) (λx hx _ Q' G=>?_) (λp hp=>?_)
 .have o:=ok' x hx;have a1:=BB o.2.1;have a2:=BB o.2.2;have hq':=g8.mk G;clear k' G;walk_at "";exact⟨y6,hq'.out⟩
 rw[show r.filter (λ_=>ag)=r from List.filter_eq_self.mpr λ_ _=>rfl] at *;rw[show r.map (λx=>AW (DV ws x))=(r.map (DV ws)).map AW by rw[L_];rfl];have w10:=w9.new (o:=.lst ((r.map (DV ws)).map AW)) hp;have tq10:=tq9.new (o:=.lst ((r.map (DV ws)).map AW)) hp;generalize eH H9 p (.lst ((r.map (DV ws)).map AW))=H10 at w10 tq10;walk_at "";exact⟨y6,My.of gb.refl (k'.out (r.map (DV ws)) pt as H10 (by rw[d_];exact l12') (U9 hws.nd nd' ok') (λx hx=>by obtain⟨y,hy,rfl⟩:=k_.mp hx;exact Va hws.nd (ok' y hy)) w10.cl w10.kp tq10)⟩
abbrev iC:List ap:=[At,Kt,AF,IQ,DE]
theorem RU:fY iC [At,Kt,AF] (aA (yY 63)):=aZ
theorem qu {f:ah} (g:G3 K mg "_law_some_kinds" (yY 63) [At,Kt,AF] f fd) (B:Bl mg) (v:R8 P w K mg base 2 "_law_turn" (yY 59) [At,IX] Mg) (j:R8 P w K mg base 1 EA (yY 55) [At,BI] pC):R8 P w K mg base 3 "_law_some_kinds" (yY 63) [At,Kt,AF] Ys:=by
 refine c6 g RU ?_;rintro _ A _ s H _ _ H3 _ hr ⟨d,a,b,ws,rfl,nad,ha,S,w8,hcm,hC,k⟩;have D:=Pr.u30 hr;refine⟨_,(ak (aG 3 RU.nd (bI (aa zo aj)))
   (ak (aV x_ rfl (bJ (aH v hr rfl (aa y8 (aa (bx rfl (b6 63 iC [DE,Kt] 1 [1]) (bJ zt) (λcl ZO s H C0 fp=>⟨(aB 0 (n7 [DE,Kt])),(dR (aU (jO D) y8 zo)),y8⟩)) aj)))) (aB 4 RU.nd) (ao (bD (BG.pt (dw (aU vf (aQ b8 rfl B.len_ cg (aa z4 aj)) au) (dm (aU (cL D) (aH j hr rfl (aa y8 (aa au aj))) au)))) (ao (bM (cW J_ PySem.F.slot_list_insert PySem.F.type_list_insert Cw z4 (aa (aH j hr rfl (aa y8 (aa (aL bf (aQ b8 rfl B.len_ cg (aa z4 aj)) au) aj))) (aa AD aj))))) aW)))
   (ao (aJ (bu b7 rfl B.tuple_ bT (aa z4 aj)))))),?_⟩
 walk_at "q";walk_at "h";have k':=g8.mk k;clear k;have w0:Wt d H3 H3 [(a,.lst (ws.map yy))]:=⟨hC,A4.refl,λq m=>by rw[i_.mp m];exact⟨ha,nad⟩⟩;clear hC;walk_at "s";refine⟨y6,λG u=>?_⟩;have f0:=w0.fresh u;have nfa:a≠G:=aR ha u;have w1:=w0.new (o:=.lst [yy b]) u;generalize eH H3 G (.lst [yy b])=H4 at w1;clear w0 u ha;walk_at "n";refine aq λR1 W=>?_;have gA:=w1.tl.hd;walk_at "";walk_at "c";refine dz yy yy (λx=>!decide (x=b)) ws [ab (.str b)] (.inl gA) yT (λx l Q' m=>?_) (λx l _ Q' m=>m) (λq m=>?_)
 .have hq':=g8.mk m;clear k' m W;walk_at "";first | exact hq'.out | trivial
 have M:=w1.new (o:=.lst ((ws.filter λx=>!decide (x=b)).map yy)) m;have gq:=M.hd;generalize eH H4 q (.lst ((ws.filter λx=>!decide (x=b)).map yy))=H5 at M gq;clear w1 m gA;refine⟨d,q,(ws.filter λx=>!decide (x=b)).map yy,rfl,(M.at' _ n_).2,gq,fc _,by rw[d_];have:=DA (λx=>!decide (x=b)) ws;omega,M.cl,λys H6 q2 n U L=>?_⟩;obtain⟨t,p,rfl⟩:=fZ n _ rfl;have V:BQ t:=⟨λx l=>S.nm x (D_.mp (p.mem_iff.mp l)).1,p.nodup_iff.mpr (S.nd.filter _)⟩;have fcm:b∉t:=λh=>by have:=(D_.mp (p.mem_iff.mp h)).2;simp at this
 have fl:t.length<=8:=by rw[p.length_eq];have:=DA (λx=>!decide (x=b)) ws;omega
 have J:=(M.drw U).tl.new (o:=.lst (t.map yy)) L;have gq2:=J.hd;have nfq:G≠q2:=aR (M.drw U).tl.hd L;generalize eH H6 q2 (.lst (t.map yy))=H7 at J gq2;clear M U L gq n p;try dsimp only
 walk_at "";have w4:Wt d H3 H7 [(G,.lst ([b].map yy)),(q2,.lst (t.map yy))]:=⟨J.cl,J.kp,λx l=>by
  rcases o_.mp l with rfl | l
  ·
   exact J.at' _ ze
  ·
   rw[i_.mp l];exact J.at' _ n_⟩
 clear J gq2;refine aN yy t (λA Z H=>∃(c:List ap) (v4:Option T),Z=[ab (.ref d),ab (.str b),ab (.ref a),ab (.ref G),v4]/\BQ c/\c.length<=4/\(∀x∈c,x=b\/x∈A)/\Wt d H3 H [(G,.lst (c.map yy)),(q2,.lst (t.map yy))]) ⟨[b],_,rfl,⟨λx l=>by rw[i_.mp l];exact hcm,ze⟩,ze,λx l=>.inl (i_.mp l),w4⟩ ?_ ?_
 .rintro Z H ⟨c,v4,rfl,hk,k4,_,w⟩;refine⟨.inl w.tl.hd,?_⟩;have g:=w.hd;walk_at "n";clear w4;try dsimp only
  walk_at "";exact jh w.cl w.kp λH'' U=>k'.out c H'' hk k4 U
 rintro A x B Z H N e ⟨c,v4,rfl,hk,k4,I,w⟩ hN;refine⟨.inl w.tl.hd,?_⟩;have l:AN x:=V.nm x (by rw[e];simp);have hnx:x∉c:=λh=>by
  rcases I x h with h | h
  .exact fcm (by rw[<- h,e];simp)
  have nd:=V.nd;rw[e,L8] at nd;exact nd.2.2 x h x n_ rfl
 have X:=g8.mk hN;have C:=g8.mk I;clear hN I e k' W w4;have g:=w.hd;walk_at "";have z:∀H6,Wt d H3 H6 [(G,.lst (c.map yy)),(q2,.lst (t.map yy))]->N [ab (.ref d),ab (.str b),ab (.ref a),ab (.ref G),ab (.str x)] H6:=λH6 w'=>X.out _ _ ⟨c,_,rfl,hk,k4,λy hy=>(C.out y hy).imp id λh=>Fa _ h,w'⟩;have r:=g8.mk z;clear z;split
 .rename_i h4;have h4':c.length<4:=by have:=DB h4;omega
  refine⟨d,2,rfl,y6,w.cl,λn1 H8 p0 p1 R=>?_⟩;have Y:=w.drw R;have g5:=Y.hd;clear w g R;walk_at "";split
  .refine⟨⟨zC,zC⟩,d,_,rfl,yT,Y.cl,λO H9 r0 r1 hD2=>?_⟩;have w6:=Y.drw hD2;have g6:=w6.hd;clear Y g5 hD2;walk_at "";have em:(c.map yy).take O.toNat++yy x::(c.map yy).drop O.toNat=(c.take O.toNat++x::c.drop O.toNat).map yy:=by rw[v_,z_,List.map_take,List.map_drop]
   rw[em];refine⟨⟨by first | trivial | omega,by first | trivial | omega,by first | trivial | omega⟩,X.out _ _ ⟨c.take O.toNat++x::c.drop O.toNat,_,rfl,hk.ins l hnx,?_,λy hy=>?_,w6.set f0 (λq m=>by rw[i_.mp m];exact aS nfq) _⟩⟩
   .rw[b_,j_,FG,KM];omega
   rcases HJ hy with rfl | h
   .exact .inr (Da _ (i_.mpr rfl))
   exact (C.out y h).imp id λh=>Fa _ h
  exact r.out _ Y
 exact r.out _ w
abbrev uA:List ap:=[At,"_law_row",AF,GE,Bi,"_law_commons",IQ,CY,"_law_first"]
theorem M1:fY uA [At,"_law_row",AF,GE] (aA (yY 64)):=aZ
theorem Ja {f:ah} (g:G3 K mg "_law_kinds" (yY 64) [At,"_law_row",AF,GE] f fd) (B:Bl mg) (G:R8 P w K mg base 1 EA (yY 55) [At,BI] pC) (b:R8 P w K mg base 3 "_law_some_kinds" (yY 63) [At,Kt,AF] Ys):R8 P w K mg base 4 "_law_kinds" (yY 64) [At,"_law_row",AF,GE] Yt:=by
 refine c6 g M1 ?_;rintro _ A _ s H _ _ H3 Q hr ⟨d,r,a,t,D,ws,m,H0,as,rfl,nrd,nad,hr',r1,r8,hrow,ha,hws,w8,tq,m8,hC,k⟩;have R:=Pr.u30 hr;refine⟨_,(ak (aG 4 M1.nd (aQ b8 rfl B.len_ cg (aa z4 aj)))
   (ak (aG 5 M1.nd (bI aj))
   (ak (aG 6 M1.nd (bI aj))
   (ak (aV x_ rfl (aX rfl B.range_ (aa AD aj)) (aB 7 M1.nd) (ak (aG 8 M1.nd (aK zD (bx rfl (b6 64 uA [EB,CY,GE] 1 [7,3]) (aX rfl B.range_ (aa AD aj)) (λcl ZO s H C0 fp=>⟨(aB 0 (n7 [EB,CY,GE])),(dR (BG.pt (lV (aU (cL R) y8 zo) (lq (BG.pt (dw (cJ (aK zD (aK zD zt zo) y8)) (dm (cJ (aK zD (aK zD zt y8) zo))))))))),y8⟩)) au))
    (ak (bD (aU (cL R) BN BO) (ao (bM (cW J_ R_ S_ bB AI (aa (aK zD zo (aH G hr rfl (aa y8 (aa (aQ b8 rfl B.len_ cg (aa zo aj)) aj)))) aj)))) (ao (bM (cW J_ R_ S_ bB AI (aa (aK zD AI BN) aj)))))
    (ao (bD (aU (cL R) (aH G hr rfl (aa y8 (aa au aj))) au) (ao (bM (cW J_ R_ S_ bB BU (aa (aH b hr rfl (aa y8 (aa (aK zD AI BO) (aa zt aj)))) aj)))) (ao (bM (cW J_ R_ S_ bB BU (aa (bc aj) aj)))))))))
   (ao (aJ BU)))))),?_⟩
 walk_at "q";walk_at "h";have k':=g8.mk k;clear k;have gt:=tq.t;have tl:as.length=m:=tq.l;have w0:Wt d H3 H3 [(r,.lst (D.map yy)),(a,.lst (ws.map yy))]:=⟨hC,A4.refl,λq hq=>by
  rcases o_.mp hq with rfl | hq
  ·
   exact⟨hr',nrd⟩
  ·
   rw[i_.mp hq];exact⟨ha,nad⟩⟩
 clear hC;have rg:dM 0 m=(ae m).map λ(i:Nat)=>yv (i:Int):=fX _;walk_at "s";walk_at "n";walk_at "s";refine⟨yT,λW y=>?_⟩;have c0:=w0.fresh y;have nrc:r≠W:=aR hr' y;have nac:a≠W:=aR ha y;have ntc:t≠W:=aR gt y;have nsc:∀x∈as,x≠W:=λx hx=>by obtain⟨bs,_,h2⟩:=tq.r x hx;exact aR h2 y
 have w1:=w0.new (o:=.lst []) y;have V:=tq.new (o:=.lst []) y;generalize eH H3 W (.lst [])=H4 at w1 V;clear y gt;walk_at "n";walk_at "s";refine⟨yT,λY u=>?_⟩;have J:KI d H3 H0 (eH H4 Y (.lst [])) Y W r a t D ws m as [] [] :=
  ⟨w1.new u,V.new u,aS (aR w1.hd u),⟨nrc,aR w1.tl.hd u⟩,⟨nac,aR w1.tl.tl.hd u⟩,⟨ntc,aR V.t u⟩,λx hx=>⟨nsc x hx,by obtain⟨bs,_,h2⟩:=V.r x hx;exact aR h2 u⟩,c0,w1.fresh u⟩
 generalize eH H4 Y (.lst [])=H5 at J;clear w1 V u nrc nac ntc nsc c0 tq;walk_at "n";refine aq λR3 hR3=>?_;walk_at "";refine⟨by first | trivial | omega,yT,yT,?_⟩;try rw[rg]
 refine aN (λ(i:Nat)=>yv (i:Int)) (ae m) (λA Z H=>∃(p:List ap) (I:List (List ap)) (v7 v8:Option T),Z=[ab (.ref d),ab (.ref r),ab (.ref a),ab (.ref t),ab (.int (m:Int)),ab (.ref W),ab (.ref Y),v7,v8]/\KI d H3 H0 H Y W r a t D ws m as p I/\p.length=A.length/\I.length=A.length/\(∀c∈p,AN c)/\(∀k∈I,BQ k/\k.length<=4)) ⟨[],[],_,_,rfl,J,rfl,rfl,(λ_ h=>nomatch h),(λ_ h=>nomatch h)⟩ ?_ ?_
 .rintro Z H ⟨p,I,v7,v8,rfl,J,G',S,hc,hk⟩;walk_at "t";rw[m_] at S;walk_at "n";walk_at "";exact gO J.w.cl J.w.kp J.w.hd J.f0 (J.w.at' _ n_).2 λH1 hD h1=>k'.out I H1 Y S hk hD h1
 rintro A i B Z H N e ⟨p,I,v7,v8,rfl,J,G',S,hc,hk⟩ hN;walk_at "t";have hi:i<m:=K_.mp (by rw[e];simp);have hiA:=g8.mk (vZ e);have hN':=g8.mk hN;have O:=g8.mk G';have U:=g8.mk S;clear hN e k' hR3 G' S;refine aq λR4 hR4=>?_;walk_at "";refine⟨by first | trivial | omega,yT,yT,?_⟩;try rw[rg]
 walk_at "c";refine cP (λ(j:Nat)=>yv (j:Int)) (ae m) (λA2 ys Z H'=>∃(M:List Nat) (v:Option T),Z=[v,ab (.int (i:Int)),ab (.ref t)]/\ys=M.map (λ(j:Nat)=>yv (j:Int))/\M.length<=A2.length/\H=H'/\((M=[]/\i∉A2)\/∃f zk,M=f::zk/\f<=i)) ⟨[],_,rfl,rfl,l_ _,rfl,.inl ⟨rfl,ze⟩⟩ ?_ ?_;rotate_left
 .rintro A2 j B2 ys Z H' N2 e2 ⟨M,v,rfl,rfl,X,rfl,L⟩ F';walk_at "t";have hj:j<m:=K_.mp (by rw[e2];simp);have hjA:=vZ e2;have hpr:=rT e2;have hA2:A2.length<8:=yT
  have app:N2 (M.map (λ(j:Nat)=>yv (j:Int))++[yv (j:Int)]) [ab (yv (j:Int)),ab (.int (i:Int)),ab (.ref t)] H:=F' _ _ _ ⟨M++[j],_,rfl,by rw[v_];rfl,by rw[b_,b_];simp only[E_];omega,rfl,.inr (by
   rcases L with ⟨rfl,hni⟩ | ⟨f,zk,rfl,hf⟩
   ·
    refine⟨j,[],rfl,?_⟩
    rw[hpr,K_,<- hjA] at hni
    omega
   ·
    exact⟨f,zk++[j],rfl,hf⟩)⟩
  have skip:j≠i->N2 (M.map (λ(j:Nat)=>yv (j:Int))) [ab (yv (j:Int)),ab (.int (i:Int)),ab (.ref t)] H:=λhne=>F' _ _ _ ⟨M,_,rfl,rfl,by rw[b_];simp only[E_];omega,rfl,by
   rcases L with ⟨rfl,hni⟩ | h
   ·
    exact .inl ⟨rfl,λh=>by
     rcases F_.mp h with h | h
     ·
      exact hni h
     ·
      exact hne (i_.mp h).symm⟩
   ·
    exact .inr h⟩
  have app':=g8.mk app;have skip':=g8.mk skip;have gt:=J.tq.t;obtain⟨ri,bi,gi,hri,li,gri⟩:=J.tq.at' hi;obtain⟨rj,bj,gj,hrj,lj,grj⟩:=J.tq.at' hj;obtain⟨x1,gx1⟩:=pF (show j<bi.length by omega);obtain⟨x2,gx2⟩:=pF (show i<bj.length by omega);have hjl':M.length<8:=yT
  clear li lj app skip F' hN' L hjA hpr e2 hR4 X rg;walk_at "";by_cases hji:(j:Int)=(i:Int)
  .rw[N_ hji,zi rfl];exact⟨yT,app'.out⟩
  rw[I_ hji,y9 B_];have sk:=skip'.out (λh=>hji (by rw[h]));split
  .split
   .exact⟨yT,app'.out⟩
   exact sk
  exact sk
 rintro ys Z H' ⟨M,v,rfl,rfl,X,rfl,L⟩;rw[m_] at X;refine⟨zC,by rw[d_];omega,λq hq=>?_⟩;obtain⟨f,zk,rfl,hf⟩:∃f zk,M=f::zk/\f<=i:=L.resolve_left λh=>h.2 (K_.mpr hi);have C:=J.new (o:=.lst ((f::zk).map λ(j:Nat)=>yv (j:Int))) hq;generalize eH H q (.lst ((f::zk).map λ(j:Nat)=>yv (j:Int)))=H6 at C;clear J hq L X;rw[z_,WO,iu];walk_at "n";refine aq λR5 hR5=>?_;have il:p.length=i:=O.out.trans hiA.out.symm;have key:∀(c:ap) (H7:gV),AN c->KI d H3 H0 H7 Y W r a t D ws m as (p++[c]) I->R5 { nx:=N,rt:=My Q,bk:=R3 { nx:=λx H'=>My Q T.non H',rt:=My Q},ct:=N} [ab (yB d),ab (yB r),ab (yB a),ab (yB t),ab (yv (m:Int)),ab (yB W),ab (yB Y),ab (yv (i:Int)),ab (yv (f:Int))] H7:=λc H7 hcn ki7=>by
  walk_at "n";clear C;have hcs:∀x∈p++[c],AN x:=λx hx=>by
   rcases F_.mp hx with h | h
   .exact hc x h
   rw[i_.mp h];exact hcn
  have gci:AA ((p++[c]).map yy) (i:Int)=ab (.str c):=bQ (by rw[<- il];simp);have il':=g8.mk il;clear il;walk_at "";refine⟨d,3,rfl,y6,ki7.w.cl,λn H8 p0 p1 hD=>?_⟩;have F:=ki7.drw hD;have gf:=F.w.hd;have gc:=F.w.tl.hd;have gA:=F.w.tl.tl.tl.hd;have kl:I.length<8:=by rw[U.out,<- hiA.out];omega
  clear ki7 hD;walk_at "";split
  .refine⟨⟨zC,zC⟩,d,a,c,ws,rfl,nad,gA,hws,w8,hcn,F.w.cl,λk1 H9 hk1 hk4 hD9=>?_⟩;have ki9:=F.drw hD9;have gf9:=ki9.w.hd;clear F hD9 gf gc gA;try dsimp only
   walk_at "";have em:I.map sT++[yA (k1.map yy)]=(I++[k1]).map sT:=by rw[v_];rfl
   rw[em];refine⟨yT,hN'.out _ _ ⟨p++[c],I++[k1],_,_,rfl,ki9.putf _,by rw[b_,b_,O.out];rfl,by rw[b_,b_,U.out];rfl,hcs,λk hk'=>?_⟩⟩;rcases F_.mp hk' with h | h
   .exact hk k h
   rw[i_.mp h];exact⟨hk1,hk4⟩
  have em:I.map sT++[yA []]=(I++[[]]).map sT:=by rw[v_];rfl
  rw[em];refine⟨⟨zC,zC⟩,by first | trivial | omega,yT,hN'.out _ _ ⟨p++[c],I++[[]],_,_,rfl,F.putf _,by rw[b_,b_,O.out];rfl,by rw[b_,b_,U.out];rfl,hcs,λk hk'=>?_⟩⟩;rcases F_.mp hk' with h | h
  .exact hk k h
  rw[i_.mp h];exact⟨BQ.nil,y6⟩
 have key':=g8.mk key;have gc:=C.w.tl.hd;have gr:=C.w.tl.tl.hd;have cl8:p.length<8:=yT
 clear key hR5;walk_at "";by_cases hfi:(f:Int)=(i:Int)
 .rw[N_ hfi,zi rfl];refine⟨⟨zC,zC⟩,d,_,rfl,yT,C.w.cl,λn H7 p0 p1 hD=>?_⟩;have ki3:=C.drw hD;have gr3:=ki3.w.tl.tl.hd;have gc3:=ki3.w.tl.hd;clear C hD gc gr;obtain⟨z,hz,ez⟩:=vz D n p0 yT;have ez':AA (D.map yy) n=ab (yy z):=by rw[oO,ez];rfl
  clear ez;have em:p.map yy++[yy z]=(p++[z]).map yy:=by rw[v_];rfl
  walk_at "";have fin:=key'.out z _ (hrow z hz) (ki3.putc _);rw[hfi] at fin;exact⟨yT,fin⟩
 rw[I_ hfi,y9 B_];have hfl:f<p.length:=yT
 have gz:AA (p.map yy) (f:Int)=ab (yy p[f]):=bQ (by rw[u_,g_ hfl];rfl);have hz:=hc _ (C6 hfl);generalize p[f]=z at gz hz;have em:p.map yy++[yy z]=(p++[z]).map yy:=by rw[v_];rfl
 rw[gz,iu,em];exact⟨⟨zC,zC⟩,yT,key'.out z _ hz (C.putc _)⟩
abbrev j9:List ap:=[At,BI,"_law_stands",AF,Bi,"_law_turn_here",Kk,"_law_lots",CY,EB,"_law_pairs_here",GE,Fc,"_law_row","_law_some",MY,"_law_tasks"]
theorem DI:fY j9 [At,BI,"_law_stands"] (aA (yY 65)):=aZ
theorem Jb {f:ah} (g:G3 K mg "_law_works" (yY 65) [At,BI,"_law_stands"] f fd) (B:Bl mg) (G:R8 P w K mg base 2 "_law_names" (yY 58) [At,Bi] U8) (b:R8 P w K mg base 1 EA (yY 55) [At,BI] pC) (L:R8 P w K mg base 2 "_law_turn" (yY 59) [At,IX] Mg) (S:R8 P w K mg base 3 "_law_pairs" (yY 62) [At,AF,Kk,"_law_lots"] Yq) (Y:R8 P w K mg base 4 "_law_kinds" (yY 64) [At,"_law_row",AF,GE] Yt) (I:R8 P w K mg base 3 "_law_lengths" (yY 60) [At,Bi] Ym):R8 P w K mg base 5 "_law_works" (yY 65) [At,BI,"_law_stands"] Yw:=by
 refine c6 g DI ?_;rintro _ A _ s H _ _ H3 _ J ⟨d,t,st,rfl,m1,m8,s1,s8,hC,k⟩;have hu30:=Pr.u30 J;refine⟨_,(ak (aG 3 DI.nd (aH G J rfl (aa y8 (aa (aL bf au (aH b J rfl (aa y8 (aa zo aj)))) aj))))
   (ak (aG 4 DI.nd (aQ b8 rfl B.len_ cg (aa z4 aj)))
   (ak (aG 5 DI.nd (aH L J rfl (aa y8 (aa (Gy rfl rfl B.list_ rfl B.range_ AD) aj))))
   (ak (aG 6 DI.nd (bI aj))
   (ak (aG 7 DI.nd (aL bf au (aH b J rfl (aa y8 (aa au aj)))))
   (ak (aV x_ rfl (aX rfl B.range_ (aa AD aj)) (aB 8 DI.nd) (ao (aV x_ rfl (BX rfl B.range_ (aa (aL bf BN au) (aa AD aj))) (aB 9 DI.nd) (ao (bD (aU (cL hu30) (aH b J rfl (aa y8 (aa BO aj))) au) (ao (bM (cW J_ R_ S_ bB BU (aa (bc (aa (aK zD AI BN) (aa (aK zD AI E8) aj))) aj)))) aW)))))
   (ak (aG 6 DI.nd (aH L J rfl (aa y8 (aa BU aj))))
   (ak (ou (aH S J rfl (aa y8 (aa z4 (aa BU (aa (aL bf au (aH b J rfl (aa y8 (aa au aj)))) aj))))) (bH (n:=2) rfl (aF (aB 10 DI.nd) (aF (aB 11 DI.nd) bh))))
   (ak (aG 12 DI.nd (aH G J rfl (aa y8 (aa (aL bf au (aH b J rfl (aa y8 (aa au aj)))) aj))))
   (ak (ie (i:=13) rfl DI.nd (b6 65 j9 [Cs,Fc,At] 1 [12,0]) (aX rfl B.range_ (aa (aL bf au (aH b J rfl (aa y8 (aa zt aj)))) aj)) (λcl ZO s H C0 fp=>⟨(aB 0 (n7 [Cs,Fc,At])),bG,(aK zD zo (aH b J rfl (aa zt (aa (aQ b8 rfl B.len_ cg (aa zo aj)) aj))))⟩))
   (ak (aG 14 DI.nd (aH Y J rfl (aa y8 (aa (v3 13) (aa (v3 12) (aa (v3 11) aj))))))
   (ak (aG 15 DI.nd (aH I J rfl (aa y8 (aa AD aj))))
   (ak (aG 16 DI.nd (bu b7 rfl B.tuple_ bT (aa (bx rfl (b6 65 j9 [Cs,AF,MY,"_law_some"] 1 [3,15,14]) (aX rfl B.range_ (aa AD aj)) (λcl ZO s H C0 fp=>⟨(aB 0 (n7 [Cs,AF,MY,"_law_some"])),bG,(bc (aa (aK zD zo y8) (aa (aK zD zt y8) (aa (aK zD z4 y8) aj))))⟩)) aj)))
   (ao (aJ (bc (aa (v3 16) (aa (bu b7 rfl B.tuple_ bT (aa (bx rfl (b6 65 j9 [CY,EB,AF] 2 [3]) (bJ BU) (λcl ZO s H C0 fp=>⟨(bH (n:=2) rfl (aF (aB 0 (n7 [CY,EB,AF])) (aF (aB 1 (n7 [CY,EB,AF])) bh))),bG,(bc (aa (aK zD zt y8) (aa (aK zD zt zo) aj)))⟩)) aj)) (aa (v3 10) (aa (bu b7 rfl B.tuple_ bT (aa (v3 13) aj)) aj)))))))))))))))))))),?_⟩
 walk_at "q";walk_at "h";have k':=g8.mk k;clear k;have w0:Wt d H3 H3 []:=⟨hC,A4.refl,(λ_ h=>nomatch h)⟩;clear hC;walk_at "s";refine⟨d,t,rfl,yT,w0.cl,λn0 H4 a0 a1 hD0=>?_⟩;have w1:=w0.drw hD0;clear w0 hD0;walk_at "";refine⟨d,(1+n0).toNat,by rw[Nw yT],yT,yT,w1.cl,λws H5 M hwl hws hD1 hpn=>?_⟩;have w2:=(w1.drw hD1).new (o:=.lst (ws.map yy)) hpn;generalize eH H5 M (.lst (ws.map yy))=H6 at w2;clear w1 hD1 hpn;have ws1:1<=ws.length:=yT
 have ws8:ws.length<=8:=yT
 have wsm:(ws.length:Int)<=t:=yT
 clear hwl a0 a1;walk_at "n";refine aq λR1 hR1=>?_;have gn:=w2.hd;walk_at "";walk_at "n";walk_at "s";refine⟨⟨yT,yT⟩,λq1 hq1=>?_⟩;have w3:=w2.new (o:=.lst ((ae ws.length).map λ(k:Nat)=>yv (k:Int))) hq1;have gq1:=w3.hd;generalize eH H6 q1 (.lst ((ae ws.length).map λ(k:Nat)=>yv (k:Int)))=H7 at w3 gq1;clear w2 hq1 gn;try dsimp only
 refine⟨d,q1,_,rfl,(w3.at' _ n_).2,gq1,Yy _,by rw[d_,m_];omega,w3.cl,λys H8 pt D hD2 hpt=>?_⟩;obtain⟨l,htv,rfl⟩:=fZ D _ rfl;have tvl:l.length=ws.length:=by rw[htv.length_eq,m_]
 have tvn:l.Nodup:=htv.nodup_iff.mpr ke;have tvm:∀x∈l,x<ws.length:=λx V=>K_.mp (htv.mem_iff.mp V);have w4:=(w3.drw hD2).tl.new (o:=.lst (l.map λ(k:Nat)=>yv (k:Int))) hpt;generalize eH H8 pt (.lst (l.map λ(k:Nat)=>yv (k:Int)))=H9 at w4;clear w3 hD2 hpt gq1 D htv;walk_at "n";walk_at "s";refine⟨yT,λpo X=>?_⟩;have po0:=w4.fresh X;have nto:pt≠po:=aR w4.hd X;have nno:M≠po:=aR w4.tl.hd X;have w5:=w4.new (o:=.lst []) X;generalize eH H9 po (.lst [])=H10 at w5;clear w4 X;walk_at "n";walk_at "s";refine⟨d,6,rfl,y6,w5.cl,λn1 H11 b0 b1 hD3=>?_⟩;have w6:=w5.drw hD3;clear w5 hD3;have lo0:3<=3+n1:=yT
 have lo1:3+n1<=8:=yT
 walk_at "";generalize 3+n1=lots at lo0 lo1;walk_at "n";refine aq λR5 hR5=>?_;walk_at "";refine⟨by first | trivial | omega,yT,yT,?_⟩;rw[fX];refine aN (λ(i:Nat)=>yv (i:Int)) (ae ws.length) (λA Z H=>∃(F:List (Nat × Nat)) (v8 v9:Option T),Z=[ab (.ref d),ab (.int t),ab (.int st),ab (.ref M),ab (.int (ws.length:Int)),ab (.ref pt),ab (.ref po),ab (.int lots),v8,v9,af,af,af,af,af,af,af]/\Wt d H3 H [(po,.lst (F.map (oT l))),(pt,.lst (l.map λ(k:Nat)=>yv (k:Int))),(M,.lst (ws.map yy))]/\F.Sublist (E5 ws.length A)) ⟨[],_,_,rfl,w6,Pi _⟩ ?_ ?_;rotate_left
 .rintro A i B Z H N e ⟨F,v8,v9,rfl,w,a⟩ hN;walk_at "t";have hi:i<ws.length:=K_.mp (by rw[e];simp);have hM:=g8.mk hN;have hAl:(E5 ws.length A).length<=64:=by
   have h1:=rT e;have h2:A.length<=8:=by have:=Q_ aT e;simp only[b_,j_,m_] at this;omega
   have h3:∀(A:List Nat),(E5 ws.length A).length<=8*A.length:=λA=>by
    induction A with
    |nil=>exact l_ _
    |cons x r ih =>
     have e3:E5 ws.length (x::r)=(eP (x+1) (ws.length - (x+1))).map (λj=>(x,j))++E5 ws.length r:=rfl
     rw[e3,b_,d_,nV,j_]
     omega
   have:=h3 A;omega
  clear hN e w6 k' hR5;walk_at "";refine⟨by first | trivial | omega,⟨yT,yT,yT,yT⟩,?_⟩;rw[Yx];refine aN (λ(j:Nat)=>yv (j:Int)) (eP (i+1) (ws.length - (i+1))) (λA2 Z H=>∃(F:List (Nat × Nat)) (v9:Option T),Z=[ab (.ref d),ab (.int t),ab (.int st),ab (.ref M),ab (.int (ws.length:Int)),ab (.ref pt),ab (.ref po),ab (.int lots),ab (.int (i:Int)),v9,af,af,af,af,af,af,af]/\Wt d H3 H [(po,.lst (F.map (oT l))),(pt,.lst (l.map λ(k:Nat)=>yv (k:Int))),(M,.lst (ws.map yy))]/\F.Sublist (E5 ws.length A++A2.map λj=>(i,j))) ⟨F,_,rfl,w,by rw[DH,X_];exact a⟩ ?_ ?_
  .rintro Z H ⟨F,v9,rfl,w,a⟩;exact⟨zC,hM.out _ _ ⟨F,_,_,rfl,w,by rw[HN];exact a⟩⟩
  rintro A2 j B2 Z H N2 e2 ⟨F,v9,rfl,w,a⟩ F';walk_at "t";have hj:=List.mem_range'_1.mp (show j∈eP (i+1) (ws.length - (i+1)) by rw[e2];simp);have hN':=g8.mk F';have hs1:=yE (y:=(i,j)) a;have hs2:=yF (y:=(i,j)) a;rw[EF,show [(i,j)]=[j].map λj=>(i,j) from rfl,<- v_] at hs1 hs2;have hA2:A2.length<8:=by have:=Q_ aT e2;simp only[b_,j_,nV] at this;omega
  have hol:F.length<=100:=by have h1:=a.length_le;have h2:=(Ak ⟨ws.length,yT⟩);have h3:(E5 ws.length A).length<=64:=hAl;rw[b_,d_] at h1;omega
  clear F' e2 hM a;walk_at "";refine⟨d,lots,rfl,yT,w.cl,λn H12 c0 c1 hD=>?_⟩;have w7:=w.drw hD;have go':=w7.hd;have gt':=w7.tl.hd;have x1:=Qe (show i<l.length by omega);have x2:=Qe (show j<l.length by omega);clear w hD;have tvl':=g8.mk tvl;clear tvl;walk_at "";split
  .have em:F.map (oT l)++[yA [yv ((l.getD i 0:Nat):Int),yv ((l.getD j 0:Nat):Int)]]=(F++[(i,j)]).map (oT l):=by rw[v_];rfl
   rw[em];refine⟨⟨zC,zC⟩,y6,yT,hN'.out _ _ ⟨F++[(i,j)],_,rfl,w7.set po0 (λq hq=>?_) _,hs1⟩⟩;rcases o_.mp hq with rfl | hq
   .exact nto
   rw[i_.mp hq];exact nno
  exact hN'.out _ _ ⟨F,_,rfl,w7,hs2⟩
 rintro Z H ⟨F,v8,v9,rfl,w,a⟩;walk_at "t";clear w6;walk_at "n";refine aq λR6 hR6=>?_;have ol28:F.length<=28:=U_ a.length_le (Ak ⟨ws.length,yT⟩);have ond:F.Nodup:=(Vb ⟨ws.length,yT⟩).sublist a;have oin:∀x∈F,x.1<x.2/\x.2<ws.length:=λx V=>Mq (λi hi=>K_.mp hi) (a.subset V);have go':=w.hd;walk_at "";refine⟨d,po,_,rfl,(w.at' _ n_).2,go',Qf l F,by rw[d_];omega,w.cl,λys H12 q2 D hD4 hq2=>?_⟩;obtain⟨c,hos,rfl⟩:=fZ D _ rfl;have ol':c.length<=28:=by rw[hos.length_eq];exact ol28
 have ond':c.Nodup:=hos.nodup_iff.mpr ond;have oin':∀x∈c,x.1<x.2/\x.2<ws.length:=λx V=>oin x (hos.mem_iff.mp V);have w7:=(w.drw hD4).tl.tl.new (o:=.lst (c.map (oT l))) hq2;generalize eH H12 q2 (.lst (c.map (oT l)))=H13 at w7;clear w hD4 hq2 go' D hos a ol28 ond oin;walk_at "n";walk_at "s";refine⟨d,24,rfl,y6,w7.cl,λn2 H14 c0 c1 hD5=>?_⟩;have w8:=w7.drw hD5;clear w7 hD5;try dsimp only
 walk_at "";refine⟨d,M,q2,ws,_,8+n2,rfl,yT,yT,(w8.at' (M,.lst (ws.map yy)) ze).2,(w8.at' _ n_).2,w8.tl.hd,hws,ws8,w8.hd,Qf l c,by rw[d_];exact ol',w8.cl,λAC pb as H15 p12 pnd pok G' hkp tq=>?_⟩;have w9:=w8.kep G' hkp;clear w8 hkp G';try dsimp only
 walk_at "";walk_at "t";walk_at "n";walk_at "s";refine⟨d,5,rfl,y6,w9.cl,λn3 H16 d0 d1 hD6=>?_⟩;have w10:=w9.drw hD6;have tq1:=tq.drw hD6;clear w9 tq hD6;walk_at "";refine⟨d,(1+n3).toNat,by rw[Nw yT],yT,yT,w10.cl,λu H17 pk hkl hks hD7 hpk=>?_⟩;have w11:=(w10.drw hD7).new (o:=.lst (u.map yy)) hpk;have tq2:=(tq1.drw hD7).new (o:=.lst (u.map yy)) hpk;generalize eH H17 pk (.lst (u.map yy))=H18 at w11 tq2;have ks1:1<=u.length:=yT
 have ks8:u.length<=8:=yT
 clear w10 tq1 hD7 hpk hkl;walk_at "n";refine aq λR9 hR9=>?_;walk_at "";refine⟨d,st,rfl,yT,w11.cl,λn4 H19 e0 e1 hD8=>?_⟩;have w12:=w11.drw hD8;have tq3:=tq2.drw hD8;clear w11 tq2 hD8;walk_at "";refine⟨by first | trivial | omega,yT,yT,?_⟩;have hrl:(dM 0 (1+n4).toNat).length=(1+n4).toNat:=by unfold dM;rw[d_,m_]
 generalize dM 0 (1+n4).toNat=ts0 at hrl;walk_at "c";refine iK (λr ys Z H=>∃(m:List ap) (v:Option T),Z=[v,ab (.ref pk),ab (.ref d)]/\ys=m.map yy/\m.length+r.length=(1+n4).toNat/\(∀x∈m,x∈u)/\Wt d H3 H [(pk,.lst (u.map yy)),(q2,.lst (c.map (oT l))),(M,.lst (ws.map yy))]/\Tq d H14 H pb ws.length as) ⟨[],_,rfl,rfl,by rw[hrl];exact kG _,(λ_ h=>nomatch h),w12,tq3⟩ ?_ ?_;rotate_left
 .rintro x r ys Z H N ⟨m,v,rfl,rfl,hrw,U,w,tq⟩ hN;walk_at "t";rw[j_] at hrw;have hN':=g8.mk hN;have hin':=g8.mk U;have g:=w.hd;have ks1':(0:Int)<(u.length:Int):=yT
  clear hN U w12 tq3 k' hR9;walk_at "";refine⟨d,_,rfl,ks1',w.cl,λn5 H20 f0 f1 hD9=>?_⟩;have C:=w.drw hD9;have W:=tq.drw hD9;have g13:=C.hd;clear w tq g hD9;obtain⟨z,hz,ez⟩:=vz u n5 f0 f1;have ez':AA (u.map yy) n5=ab (yy z):=by rw[oO,ez];rfl
  clear ez;walk_at "";refine⟨by first | omega | (rw[d_];omega),hN'.out _ _ _ ⟨m++[z],_,rfl,by rw[v_];rfl,by rw[b_,E_];omega,λy hy=>?_,C,W⟩⟩;rcases F_.mp hy with h | h
  .exact hin'.out y h
  rw[i_.mp h];exact hz
 rintro ys Z H ⟨m,v,rfl,rfl,hrw,U,w,tq⟩;rw[FR,Nat.add_zero] at hrw;refine⟨zC,by rw[d_];omega,λpr hpr=>?_⟩;have C:=w.new (o:=.lst (m.map yy)) hpr;have W:=tq.new (o:=.lst (m.map yy)) hpr;generalize eH H pr (.lst (m.map yy))=H20 at C W;clear w tq hpr w12 tq3 hrl;have rw1:1<=m.length:=yT
 have rw8:m.length<=8:=yT
 have rws:(m.length:Int)<=st:=yT
 clear hrw;walk_at "n";walk_at "s";refine⟨d,pr,pk,pb,m,u,ws.length,H14,as,rfl,(C.at' _ n_).2,(C.at' (pk,.lst (u.map yy)) ze).2,C.hd,rw1,rw8,λx V=>hks.nm x (U x V),C.tl.hd,hks,ks8,W,ws8,C.cl,λkk H21 pso hkk hkb hD10 hpso=>?_⟩;have w14:=(C.drw hD10).new (o:=.lst (kk.map sT)) hpso;generalize eH H21 pso (.lst (kk.map sT))=H22 at w14;clear C W hD10 hpso;walk_at "n";walk_at "s";refine⟨d,ws.length,rfl,ws8,w14.cl,λls H23 pl_ hll hlb hD11 hpl_=>?_⟩;have R:=(w14.drw hD11).new (o:=.lst (ls.map yv)) hpl_;generalize eH H23 pl_ (.lst (ls.map yv))=H24 at R;clear w14 hD11 hpl_;walk_at "n";refine aq λR12 hR12=>?_;walk_at "";refine⟨by first | trivial | omega,yT,yT,?_⟩;rw[fX];walk_at "c";refine bO (λ(k:Nat)=>yv (k:Int)) (λk=>AE (Dx ws ls kk k)) (ae ws.length) [ab (.ref M),ab (.ref pl_),ab (.ref pso)] trivial (by rw[m_];omega) (λi hi Q' hq=>?_) (λp hp=>?_)
 .have hi':=K_.mp hi;have g1:=(R.at' (M,.lst (ws.map yy)) ze).1;have g2:=R.hd;have g3:=R.tl.hd;have x1:=BB hi';have x2:=Qd (show i<ls.length by omega);have x3:=Yv (show i<kk.length by omega);have hq':=g8.mk hq;clear k' hq hR12;try dsimp only at g1
  walk_at "";exact⟨y6,hq'.out⟩
 rw[show (ae ws.length).map (λk=>AE (Dx ws ls kk k))=((ae ws.length).map (Dx ws ls kk)).map AE by rw[L_];rfl];have O:=(R.new (o:=.lst (((ae ws.length).map (Dx ws ls kk)).map AE)) hp).tl;generalize eH H24 p (.lst (((ae ws.length).map (Dx ws ls kk)).map AE))=H25 at O;clear R hp;walk_at "n";have gq:H25 q2=ab (.lst (c.map (oT l))):=(O.at' (q2,.lst (c.map (oT l))) ze).1;have gn:H25 M=ab (.lst (ws.map yy)):=(O.at' (M,.lst (ws.map yy)) ze).1;have gr:H25 pr=ab (.lst (m.map yy)):=O.tl.tl.hd;walk_at "";walk_at "c";refine lZ (λx:Nat × Nat=>.int ((l.getD x.1 0:Nat):Int)) (λx=>.int ((l.getD x.2 0:Nat):Int)) (λx=>AG (oD ws l x)) c [ab (.ref M)] (.inl gq) yT (λx V Q' hq=>?_) (λp hp=>?_)
 .have ox:=oin' x V;have y1:=BB (tvm _ (getD_mem (d:=0) (show x.1<l.length by omega)));have y2:=BB (tvm _ (getD_mem (d:=0) (show x.2<l.length by omega)));have hq':=g8.mk hq;clear k' hq gr gq;walk_at "";exact⟨y6,hq'.out⟩
 rw[show c.map (λx=>AG (oD ws l x))=(c.map (oD ws l)).map AG by rw[L_];rfl];have w17:=O.new (o:=.lst ((c.map (oD ws l)).map AG)) hp;have gr2:eH H25 p (.lst ((c.map (oD ws l)).map AG)) pr=_ := T1 gr hp;generalize eH H25 p (.lst ((c.map (oD ws l)).map AG))=H26 at w17 gr2;clear O hp gq gn gr;walk_at "";refine⟨y6,jh w17.cl w17.kp λH'' hD=>?_⟩;exact k'.out ⟨(ae ws.length).map (Dx ws ls kk),c.map (oD ws l),AC,m⟩ H'' (Yu hws ws1 ws8 hll hlb hkk hkb tvl tvn tvm ol' ond' oin' p12 pnd pok rw1 rw8 λx V=>hks.nm x (U x V)) (by show (((ae ws.length).map (Dx ws ls kk)).length:Int)<=t;rw[d_,m_];exact wsm) rws hD
abbrev uB:List ap:=[At,BE,MY,"_law_bits","_law_some","_law_total"]
theorem Op:fY uB [At,BE] (aA (yY 66)):=aZ
theorem Nk {f:ah} (g:G3 K mg "_law_beat" (yY 66) [At,BE] f fd) (B:Bl mg) (j:R8 P w K mg base 1 EA (yY 55) [At,BI] pC) (q:R8 P w K mg base 2 "_law_great" (yY 56) [At,BI] U4):R8 P w K mg base 3 "_law_beat" (yY 66) [At,BE] YJ:=by
 refine c6 g Op ?_;rintro _ _ _ s H _ _ H3 _ V ⟨d,⟨tk,M,AC,C⟩,rfl,Z,hC,k⟩;have L:=Pr.u30 V;refine⟨_,(ak (aG 2 Op.nd (bx rfl (b6 66 uB [DE,G0,Fc] 3 []) (bN (aK zD zo au)) (λcl F s H C0 fp=>⟨(bH (n:=3) rfl (aF (aB 0 (n7 [DE,G0,Fc])) (aF (aB 1 (n7 [DE,G0,Fc])) (aF (aB 2 (n7 [DE,G0,Fc])) bh)))),bG,zo⟩)))
   (ak (aG 3 Op.nd (aH j V rfl (aa y8 (aa (aL Td au (aQ b8 rfl B.len_ cg (aa zt aj))) aj))))
   (ak (aG 4 Op.nd (aQ (lu rfl) rfl B.sum_ lw (aa (bx rfl (b6 66 uB [Cs,MY,"_law_bits"] 1 [2,3]) (aX rfl B.range_ (aa (aQ b8 rfl B.len_ cg (aa zt aj)) aj)) (λcl F s H C0 fp=>⟨(aB 0 (n7 [Cs,MY,"_law_bits"])),(dR (aU (cL L) (aL xZ (aL T3 zt y8) au) au)),(aK zD zo y8)⟩)) aj)))
   (ak (aG 5 Op.nd (aQ (lu rfl) rfl B.sum_ lw (aa zt aj)))
   (ao (aJ (aK zD (bI (aa AD (aa (aQ (Ku rfl) rfl B.max_ yc (aa au (aa (aL oG AD au) aj))) (aa (aL bf AD au) (aa AI (aa (aQ (zV rfl) rfl B.max_ yc (aa zt aj)) (aa (aH q V rfl (aa y8 (aa (aL ig au au) aj))) aj))))))) (aH j V rfl (aa y8 (aa au aj)))))))))),?_⟩
 walk_at "q";walk_at "h";have k':=g8.mk k;clear k;have t8:tk.length<=8:=Z.t8;have t1:1<=tk.length:=Z.t1;have w0:Wt d H3 H3 []:=⟨hC,A4.refl,(λ_ h=>nomatch h)⟩;have v:g8 (∀l∈tk.map (·.2.1),0<=l):=⟨λl hl=>by obtain⟨t,ht,rfl⟩:=k_.mp hl;have:=(Z.tk t ht).lo;omega⟩;clear hC Z;refine aq λR0 hR0=>?_;walk_at "";walk_at "c";refine oY (λt:ap × Int × List ap=>.str t.1) (λt=>.int t.2.1) (λt=>.tup (t.2.2.map yy)) (λt=>yv t.2.1) (λ_=>ag) tk [] trivial yT (λt ht Q' u=>u) (λt ht _ Q' u=>?_) (λpl O=>?_)
 .clear k' hR0;walk_at "";try exact u
 rw[List.filter_eq_self.mpr (λ_ _=>rfl)];have en:tk.map (λt=>yv t.2.1)=(tk.map (·.2.1)).map yv:=by rw[L_];rfl
 rw[en];have hll:(tk.map (·.2.1)).length=tk.length:=d_ _;generalize tk.map (·.2.1)=c at *;have l8:c.length<=8:=yT
 have l1:1<=c.length:=yT
 clear en hll;have D:=w0.new (o:=.lst (c.map yv)) O;generalize eH H3 pl (.lst (c.map yv))=H4 at D |-;clear w0 O;walk_at "n";have G:=D.hd;walk_at "s";refine⟨⟨yT,yT,y6⟩,d,_,rfl,by rw[ma];exact Int.pow_pos y6,D.cl,λa H5 _ _ r=>?_⟩;have w2:=D.drw r;clear D r G;walk_at "n";have G:=w2.hd;refine aq λR2 z=>?_;walk_at "";refine⟨by first | trivial | omega,yT,yT,?_⟩;rw[fX];walk_at "c";refine dz (λ(i:Nat)=>yv (i:Int)) (λi=>yv (c.getD i 0)) (λi=>decide (a5 (a / 2^i) 1=1)) (ae c.length) [ab (.ref pl),ab (.int a)] (still:=cC) (H:=H5) trivial (by rw[m_];omega) (λi hi Q' u=>?_) (λi hi hpt Q' u=>?_) ?_
 .have y:=g8.mk u;clear u k' z;walk_at "";exact⟨yT,y.out⟩
 .have y:=g8.mk u;have x1:=Qd (K_.mp hi);clear u k' z;walk_at "";exact y.out
 intro pc I;have Y:zv (((ae c.length).filter (λi=>decide (a5 (a / 2^i) 1=1))).map λi=>yv (c.getD i 0))=ab (((ae c.length).filter (λi=>decide (a5 (a / 2^i) 1=1))).map λi=>c.getD i 0):=by rw[<- cN,L_];rfl
 rw[Y,iu];have hsm:(0:Int)<=(((ae c.length).filter (λi=>decide (a5 (a / 2^i) 1=1))).map λi=>c.getD i 0).sum:=yH λx hx=>by obtain⟨i,_,rfl⟩:=k_.mp hx;exact Mz v.out i
 generalize (((ae c.length).filter (λi=>decide (a5 (a / 2^i) 1=1))).map λi=>c.getD i 0).sum=m at hsm |-;have J:=(w2.new (o:=.lst (((ae c.length).filter (λi=>decide (a5 (a / 2^i) 1=1))).map λi=>yv (c.getD i 0))) I).tl;generalize eH H5 pc _=H6 at J |-;clear w2 I Y G;walk_at "n";have G:=J.hd;have Y:=cN c;walk_at "s";walk_at "n";have ht0:(0:Int)<=c.sum:=yH v.out;generalize c.sum=FL at ht0 |-;walk_at "";refine⟨by intro e;rw[e] at l1;simp at l1,λR hm _=>?_⟩;have hz0:(0:Int)<=(if m - 1>0 then m - 1 else 0):=by split <;> omega
 generalize (if m - 1>0 then m - 1 else 0)=U at hz0 |-;have hm0:=v.out R hm;clear hm G Y v;refine⟨⟨y6,y6,y6⟩,d,_,rfl,y6,J.cl,λS H7 g0 _ r=>?_⟩;have w4:=J.drw r;clear J r;refine⟨y6,λp hp=>?_⟩;have X:=w4.new (o:=.lst [yv m,yv U,yv (m+1),yv FL,yv R,yv S]) hp;generalize eH H7 p _=H8 at X |-;clear w4 hp;refine⟨d,6,rfl,y6,X.cl,λn H9 n0 n1 r=>?_⟩;have w6:=X.drw r;have g2:=w6.hd;clear X r;obtain⟨b,hbm,hb'⟩:=vz ([m,U,m+1,FL,R,S]:List Int) n yT (by show n<6;omega);have hb2:AA [yv m,yv U,yv (m+1),yv FL,yv R,yv S] n=ab (yv b):=by have:=oO yv ([m,U,m+1,FL,R,S]:List Int) n;rw[hb'] at this;exact this
 have b0:0<=b:=by simp only[o_,B8,B7] at hbm;omega
 walk_at "";exact jh w6.cl w6.kp λH'' r=>k'.out _ H'' b0 r
abbrev Bj:List ap:=[BE,"_law_at","_law_one",Iq,IG,DE,G0,Fc]
theorem IR:fY Bj [BE,"_law_at"] (aA (yY 67)):=aZ
theorem Jc {f:ah} (g:G3 K mg "_law_holds" (yY 67) [BE,"_law_at"] f fd) (B:Bl mg):R8 P w K mg base 1 "_law_holds" (yY 67) [BE,"_law_at"] Y9:=by
 refine c6 g IR ?_;rintro _ A _ _ H _ _ H3 Q hr ⟨W,q,f,rfl,hW,hq,hf,k⟩;have r:=Pr.u30 hr;have U:=Pr.u31 hr;have v:=Pr.u1 hr;refine⟨_,(ak (aV x_ rfl (bN (aK zD y8 au)) (bH (n:=2) rfl (aF (aB 2 IR.nd) (aF (aB 3 IR.nd) bh))) (ao (bD (aU vg (cD v zo zt) (cD v zo z4)) (ao (aJ eO)) aW)))
   (ak (aV x_ rfl (bN (aK zD y8 au)) (bH (n:=3) rfl (aF (aB 4 IR.nd) (aF (aB 2 IR.nd) (aF (aB 3 IR.nd) bh)))) (ao (bD (aU (jO r) (du (cL r) (cD v zo zt) (cD v zo z4)) (du (cL r) AD cT)) (ao (aJ eO)) aW)))
   (ak (aV x_ rfl (bN (aK zD y8 au)) (bH (n:=3) rfl (aF (aB 5 IR.nd) (aF (aB 6 IR.nd) (aF (aB 7 IR.nd) bh)))) (ao (bD (BG.pt (dw (aU (jO r) BO (bc aj)) (dm (aU (oM U) (aK zD (aK zD y8 au) (cD v zo AI)) BO rfl)))) (ao (aJ eO)) aW)))
   (ao (aJ eO))))),?_⟩
 walk_at "q";walk_at "h";have R:=g8.mk k;clear k;have G:=g8.mk hW;have F:=g8.mk hf;clear hW hf;refine aq λR0 hR0=>?_;walk_at "";refine aN AG W.orders (λA Z H=>∃(m v3 l b a j:Option T),Z=[ab W.enc,ab (.ref q),m,v3,l,b,a,j]/\H=H3/\∀o∈A,f o.1<=f o.2) ⟨_,_,_,_,_,_,rfl,rfl,(λ_ h=>nomatch h)⟩ ?_ ?_;rotate_left
 .rintro A ⟨x,y⟩ B Z H N e ⟨m,v3,l,b,a,j,rfl,rfl,M⟩ L;walk_at "t";have u:(x,y)∈W.orders:=by rw[e];simp
  have V:=eN (f:=f) (G.out.oo _ u).2.1;have l2:=eN (f:=f) (G.out.oo _ u).2.2;have I:g8 (f y<f x->My Q (.bl am) H):=⟨λz=>My.of gb.refl (R.out am ⟨λq=>(nomatch q),λh=>As (h.ord _ u) (by show ¬f x<=f y;omega)⟩)⟩;have C:g8 (f x<=f y->∀l b a j,N [ab W.enc,ab (.ref q),ab (.str x),ab (.str y),l,b,a,j] H):=⟨λz l b a j=>L _ _ ⟨_,_,_,_,_,_,rfl,rfl,λo d=>by
   rcases F_.mp d with d | d
   ·
    exact M o d
   ·
    rw[i_.mp d];exact z⟩⟩
  clear L e R M hR0 u F;dsimp only[nm] at V l2;simp only[AG,nm] at *;walk_at "";walk_at "t";by_cases c:f y<f x
  .rw[zi (N_ yT)];exact I.out c
  rw[y9 (Kv yT)];exact C.out yT _ _ _ _
 rintro Z H ⟨m,v3,l,b,a,j,rfl,rfl,hO⟩;walk_at "t";walk_at "n";refine aq λR1 hR1=>?_;walk_at "";refine aN AW W.pairs (λA Z H'=>∃(m v3 l b a j:Option T),Z=[ab W.enc,ab (.ref q),m,v3,l,b,a,j]/\H'=H/\∀p∈A,f p.2.1=f p.2.2↔p.1="with") ⟨_,_,_,_,_,_,rfl,rfl,(λ_ h=>nomatch h)⟩ ?_ ?_;rotate_left
 .rintro A ⟨S,x,y⟩ B Z H' N e ⟨m,v3,l,b,a,j,rfl,rfl,M⟩ L;walk_at "t";have u:(S,x,y)∈W.pairs:=by rw[e];simp
  have V:=eN (f:=f) (G.out.pp _ u).2.2.1;have l2:=eN (f:=f) (G.out.pp _ u).2.2.2;have I:g8 (¬(f x=f y↔S="with")->My Q (.bl am) H'):=⟨λz=>My.of gb.refl (R.out am ⟨λq=>(nomatch q),λh=>As (h.pai _ u) z⟩)⟩;have C:g8 ((f x=f y↔S="with")->∀b a j,N [ab W.enc,ab (.ref q),ab (.str x),ab (.str y),ab (.str S),b,a,j] H'):=⟨λz b a j=>L _ _ ⟨_,_,_,_,_,_,rfl,rfl,λo d=>by
   rcases F_.mp d with d | d
   ·
    exact M o d
   ·
    rw[i_.mp d];exact z⟩⟩
  clear L e R M hR1 u F hO;dsimp only[nm] at V l2;have ec:decide (((f x:Nat):Int)=((f y:Nat):Int))=decide (f x=f y):=by rw[MI];omega
  simp only[AW,nm] at *;walk_at "";walk_at "t";by_cases O:f x=f y <;> by_cases J:S="with"
  .rw[y9 (by simp [O,J])];exact C.out ⟨λ_=>J,λ_=>O⟩ _ _ _
  .rw[zi (by simp [O,J])];exact I.out λz=>J (z.mp O)
  .rw[zi (by simp [O,J])];exact I.out λz=>O (z.mpr J)
  rw[y9 (by simp [O,J])];exact C.out ⟨λz=>As z O,λz=>As z J⟩ _ _ _
 rintro Z H' ⟨m,v3,l,b,a,j,rfl,rfl,hP⟩;walk_at "t";walk_at "n";refine aq λR2 hR2=>?_;walk_at "";refine aN AE W.tasks (λA Z H=>∃(m v3 l b a j:Option T),Z=[ab W.enc,ab (.ref q),m,v3,l,b,a,j]/\H=H'/\∀t∈A,iJ t.2.2 (W.row.getD (f t.1) "")=ag) ⟨_,_,_,_,_,_,rfl,rfl,(λ_ h=>nomatch h)⟩ ?_ ?_;rotate_left
 .rintro A ⟨x,X,D⟩ B Z H N e ⟨m,v3,l,b,a,j,rfl,rfl,M⟩ L;walk_at "t";have u:(x,X,D)∈W.tasks:=by rw[e];simp
  have V:=eN (f:=f) (ns:=W.tasks.map (·.1)) (n:=x) (k_.mpr ⟨_,u,rfl⟩);have x1:=yI (F.out x);have I:g8 (iJ D (W.row.getD (f x) "")=am->My Q (.bl am) H):=⟨λz=>My.of gb.refl (R.out am ⟨λq=>(nomatch q),λh=>by have:=h.kin _ u;rw[show iJ (x,X,D).2.2 (W.row.getD (f (x,X,D).1) "")=iJ D (W.row.getD (f x) "") from rfl,z] at this;exact this⟩)⟩;have C:g8 (iJ D (W.row.getD (f x) "")=ag->∀m v3 l,N [ab W.enc,ab (.ref q),m,v3,l,ab (.str x),ab (.int X),ab (sT D)] H):=⟨λz m v3 l=>L _ _ ⟨_,_,_,_,_,_,rfl,rfl,λo d=>by
   rcases F_.mp d with d | d
   ·
    exact M o d
   ·
    rw[i_.mp d];exact z⟩⟩
  clear L e R M hR2 u F hO hP;have i2:=fc D;have i3:([]:List T).all (pl 20)=ag:=rfl;have em:=YH (x:=W.row.getD (f x) "") (xs:=D);simp only[AE,nm,sT] at *;unfold iJ at I C;generalize W.row.getD (f x) ""=kd at *;walk_at "";walk_at "t";cases D with
  |nil=>simp only[EU,qA,DH] at I C;walk_at "";exact⟨y6,zC,zC,C.out trivial _ _ _⟩
  |cons k0 kr =>
   have e1:decide (yy k0::kr.map yy=[])=am:=I_ ze
   simp only[reduceCtorEq,ER,jp,z_] at I C em
   walk_at ""
   by_cases c:kd∈k0::kr
   ·
    have Y:=N_ c
    simp only[c,EU] at C
    rw[y9 (by rw[Y];decide)]
    exact⟨y6,zC,zC,rfl,zC,C.out trivial _ _ _⟩
   ·
    have Y:=I_ c
    rw[zi (by rw[Y];rfl)]
    exact⟨y6,zC,zC,rfl,zC,I.out Y⟩
 rintro Z H ⟨m,v3,l,b,a,j,rfl,rfl,hK⟩;walk_at "t";walk_at "n";walk_at "";exact My.of gb.refl (R.out ag ⟨λ_=>⟨hO,hP,hK⟩,λ_=>rfl⟩)
abbrev uC:List ap:=[BE,Bi,IQ,"_law_total",DE,G0,Fc,"_law_code","_law_at","_law_loads"]
theorem DC:fY uC [BE,Bi] (aA (yY 68)):=aZ
theorem Jd {f:ah} (g:G3 K mg "_law_every" (yY 68) [BE,Bi] f fd) (B:Bl mg) (O:R8 P w K mg base 1 "_law_holds" (yY 67) [BE,"_law_at"] Y9):R8 P w K mg base 2 "_law_every" (yY 68) [BE,Bi] Za:=by
 refine c6 g DC ?_;rintro _ A _ s H _ ts H3 _ hr ⟨W,m,rfl,hW,hm1,hmr,hmn,kk⟩;have hu1:=Pr.u1 hr;refine⟨_,(ak (aG 2 DC.nd (bI aj))
   (ak (aG 3 DC.nd au)
   (ak (aV x_ rfl (bN (aK zD y8 au)) (bH (n:=3) rfl (aF (aB 4 DC.nd) (aF (aB 5 DC.nd) (aF (aB 6 DC.nd) bh)))) (ao (aG 3 DC.nd (aL ik z4 zo))))
   (ak (aV x_ rfl (aX rfl B.range_ (aa z4 aj)) (aB 7 DC.nd) (ak (aG 8 DC.nd m7)
    (ak (aV x_ rfl (bN (aK zD y8 au)) (bH (n:=3) rfl (aF (aB 4 DC.nd) (aF (aB 5 DC.nd) (aF (aB 6 DC.nd) bh)))) (ak (jR hu1 BN AD (aL dX BO zo))
     (ao (aG 7 DC.nd (aL eZ BO zo)))))
    (ao (bD (cJ (aH O hr rfl (aa y8 (aa BN aj)))) (ak (ie (i:=9) rfl DC.nd (b6 68 uC [Cs] 1 []) (aX rfl B.range_ (aa zo aj)) (λcl ZO s H C0 fp=>⟨(aB 0 (n7 [Cs])),bG,au⟩))
     (ak (aV x_ rfl (bN (aK zD y8 au)) (bH (n:=3) rfl (aF (aB 4 DC.nd) (aF (aB 5 DC.nd) (aF (aB 6 DC.nd) bh)))) (ao (ou (aL bf (aK zD E8 (cD hu1 BN AD)) AI) (En E8 (cD hu1 BN AD) rm))))
     (ao (bM (cW J_ R_ S_ bB zt (aa E8 aj)))))) aW)))))
   (ao (aJ zt)))))),?_⟩
 walk_at "q";walk_at "h";have k':=g8.mk kk;clear kk;have t8:W.tasks.length<=8:=hW.t8;have r8:W.row.length<=8:=hW.r8;have hW':=g8.mk hW;clear hW;walk_at "s";refine⟨y6,λp hp=>?_⟩;have sb0:gb H3 (eH H3 p (.lst [])):=gb.new hp;have gp0:eH H3 p (.lst []) p=ab (.lst (([]:List (ah × List Int)).map λx=>yB x.1)):=aC;generalize eH H3 p (.lst [])=H4 at sb0 gp0 |-;walk_at "n";walk_at "s";walk_at "n";refine aq λR2 hR2=>?_;walk_at "";refine aN AE W.tasks (λA Z H=>∃(k u q G v8 F:Option T),Z=[ab W.enc,ab (.int (m:Int)),ab (.ref p),ab (.int ((m^A.length:Nat):Int)),k,u,q,G,v8,F]/\H=H4) ⟨_,_,_,_,_,_,rfl,rfl⟩ ?_ ?_;rotate_left
 .rintro A ⟨x,ln,ks⟩ B Z H N e ⟨k,u,q,G,v8,F,rfl,rfl⟩ hN;walk_at "t";have hA:A.length+1<=W.tasks.length:=by have:=Q_ aT e;simp only[b_,j_] at this;omega
  have hpw:m^A.length<=1000000:=U_ (KW hm1 yT) hmn;have cm:Lv ((m^A.length:Nat):Int) (m:Int):=.inl ⟨yT,yT⟩;have e2:((m^A.length:Nat):Int)*(m:Int)=((m^(A++[(x,ln,ks)]).length:Nat):Int):=by rw[b_,E_,Iy];push_cast;rfl
  have J:g8 (∀k u q G v8 F,N [ab W.enc,ab (.int (m:Int)),ab (.ref p),ab (.int (((m^A.length:Nat):Int)*(m:Int))),k,u,q,G,v8,F] H):=⟨λk u q G v8 F=>hN _ _ ⟨k,u,q,G,v8,F,by rw[e2],rfl⟩⟩;clear hN e k' hR2 e2;simp only[AE];generalize m^A.length=pw at *;walk_at "";exact⟨zC,by first | trivial | exact cm,J.out _ _ _ _ _ _⟩
 rintro Z H ⟨k,u,q,G,v8,F,rfl,rfl⟩;walk_at "t";walk_at "n";refine aq λR3 hR3=>?_;walk_at "";refine⟨zC,yT,yT,?_⟩;rw[fX];refine aN (λ(c:Nat)=>yv (c:Int)) (ae (m^W.tasks.length)) (λA Z H=>∃(k u q G v8 F:Option T) (D:List (ah × List Int)),Z=[ab W.enc,ab (.int (m:Int)),ab (.ref p),ab (.int ((m^W.tasks.length:Nat):Int)),k,u,q,G,v8,F]/\gb H3 H/\D.length<=A.length/\H p=ab (.lst (D.map λx=>yB x.1))/\OI H D/\(∀x∈D,H3 x.1=af)/\(∀l,l∈D.map (·.2)->∃f:ap->Nat,(∀n,f n<m)/\EI W f/\l=y' W f m)/\∀c f,c<A.length->Cd W.tasks m c f->EI W f->y' W f m∈D.map (·.2)) ⟨_,_,_,_,_,_,[],rfl,sb0,l_ _,gp0,(λ_ h=>nomatch h),(λ_ h=>nomatch h),(λ_ h=>nomatch h),λc f h=>As h (NH _)⟩ ?_ ?_
 .rintro Z H ⟨k,u,q,G,v8,F,D,rfl,sb,hl,gp,ga,_,Y,h2⟩;walk_at "t";rw[m_] at hl h2;walk_at "n";walk_at "";refine My.of gb.refl (k'.out H p D sb yT gp ga λl=>⟨Y l,?_⟩);rintro⟨f,hf,hh,rfl⟩;obtain⟨c,hc,hd⟩:=Ql hm1 f hf W.tasks;exact h2 c f hc hd hh
 rintro A c B Z H N e ⟨k,u,q,G,v8,F,D,rfl,sb,hl,gp,ga,gn,Y,h2⟩ hN;walk_at "t";have hA:A.length<m^W.tasks.length:=by have:=Q_ aT e;simp only[b_,j_,m_] at this;omega
 have hj:c=A.length:=by
  have Y:(ae (m^W.tasks.length))[A.length]?=ab c:=by rw[e,M_ (l_ _)];simp
  rw[CI hA] at Y;exact (T_ Y).symm
 have hj':=g8.mk hj;have J:=g8.mk hN;clear hN e k' hR3 hj;walk_at "s";intro C R;have npd:p≠C:=aR gp R;have sb1:gb H3 (eH H C (.dct [])):=sb.trans (gb.new R);have pd3:=cM sb R;have kp1:∀b o,H b=ab o->eH H C (.dct []) b=ab o:=λb o h=>gb.new R b o h;have gd1:eH H C (.dct []) C=ab (.dct (dN ([]:List ap) λ_=>0)):=aC;have hgd:g8 (∀x∈D,x.1≠C):=⟨λx d=>aR (ga x d) R⟩;generalize eH H C (.dct [])=H5 at sb1 kp1 gd1 |-;walk_at "n";refine aq λR5 hR5=>?_;walk_at "";have c0:yv (c:Int)=yv ((c / m^([]:List (ap × Int × List ap)).length:Nat):Int):=by rw[FR,Nat.pow_zero,Nat.div_one]
 rw[c0];refine aN AE W.tasks (λa Z H'=>∃(k u q F:Option T) (g:ap->Nat),Z=[ab W.enc,ab (.int (m:Int)),ab (.ref p),ab (.int ((m^W.tasks.length:Nat):Int)),k,u,q,ab (.int ((c / m^a.length:Nat):Int)),ab (.ref C),F]/\H'=eH H5 C (.dct (dN (a.map (·.1)) g))/\(∀n,g n<m)/\Cd a m c g) ⟨_,_,_,_,λ_=>0,rfl,(HS gd1).symm,λ_=>hm1,λi t e=>by simp at e⟩ ?_ ?_;rotate_left
 .rintro a ⟨x,ln,ks⟩ B2 Z H' N2 e ⟨k,u,q,F,g,rfl,rfl,hg,hd⟩ V;walk_at "t";have d:x∉a.map (·.1):=λh=>by have nd:=hW'.out.nd;rw[e,v_,L8] at nd;exact nd.2.2 _ h _ (by rw[z_];exact n_) rfl
  have hA2:a.length<=8:=by have:=Q_ aT e;simp only[b_,j_] at this;omega
  have p1:=HQ (f:=g) (v:=c / m^a.length%m) d;have I:=HR (a.map (·.1)) g;rw[d_] at I;have e1:((c / m^a.length:Nat):Int)%(m:Int)=((c / m^a.length%m:Nat):Int):=by push_cast;rfl
  have e2:((c / m^a.length:Nat):Int) / (m:Int)=((c / m^(a++[(x,ln,ks)]).length:Nat):Int):=by rw[b_,E_,Iy,<- kH];push_cast;rfl
  have cd:zE ((c / m^a.length:Nat):Int) (m:Int):=⟨yT,by
   have:m=1\/m=2\/m=3\/m=4\/m=5\/m=6\/m=7\/m=8:=by omega
   rcases this with rfl | rfl | rfl | rfl | rfl | rfl | rfl | rfl <;> decide +kernel⟩
  have m0:(0:Int)<(m:Int):=yT
  have fin:g8 (∀k u q F,N2 [ab W.enc,ab (.int (m:Int)),ab (.ref p),ab (.int ((m^W.tasks.length:Nat):Int)),k,u,q,ab (.int (((c / m^a.length:Nat):Int) / (m:Int))),ab (.ref C),F] (eH H5 C (.dct (AT x (yv ((c / m^a.length%m:Nat):Int)) (dN (a.map (·.1)) g))))):=⟨λk u q F=>V _ _ ⟨k,u,q,F,fu g x (c / m^a.length%m),by rw[e2],by rw[p1,v_];rfl,YB hg (wo _ yT),λi t et=>by
   by_cases hi:i<a.length
   ·
    rw[FV hi] at et
    rw[<- hd i t et]
    have:t.1≠x:=λz=>d (k_.mpr ⟨t,EW et,z⟩)
    unfold fu
    rw[y9 this]
   ·
    rw[M_ yT] at et
    have h0:i - a.length=0:=by
     cases hz:i - a.length with
     |zero=>rfl
     |succ n=>rw[hz] at et;simp at et
    rw[h0] at et
    simp only[KA,Na] at et
    subst et
    rw[show i=a.length by omega]
    exact Yz⟩⟩
  clear V e J hR5 e2 p1 Y h2;rw[<- e1] at fin;simp only[AE];generalize c / m^a.length=cc at *;walk_at "";exact⟨zC,by first | trivial | exact m0,yT,by first | trivial | exact cd,fin.out _ _ _ _⟩
 rintro Z H' ⟨k,u,q,F,g,rfl,rfl,hg,hd⟩;walk_at "t";have S:eH H5 C (.dct (dN (nm W) g)) C=ab (.dct (dN (nm W) g)):=aC;have kp2:∀b o,b≠C->H b=ab o->eH H5 C (.dct (dN (nm W) g)) b=ab o:=λb o hb h=>by rw[aD hb];exact kp1 b o h
 have U:gb H3 (eH H5 C (.dct (dN (nm W) g))):=λb o h=>by rw[aD (aR h pd3)];exact sb1 b o h
 rw[show dN (W.tasks.map (·.1)) g=dN (nm W) g from rfl];generalize eH H5 C (.dct (dN (nm W) g))=H6 at S kp2 U |-;clear sb1 kp1 gd1;walk_at "n";walk_at "";refine⟨W,C,g,rfl,hW'.out,S,λn=>by have:=hg n;omega,λb hb=>?_⟩;have gp6:=kp2 p _ npd gp;have M:OI H6 D:=λx d=>kp2 _ _ (hgd.out x d) (ga x d);cases b with
 |false =>
  simp only[gJ,H_,Y_];refine J.out _ _ ⟨_,_,_,_,_,_,D,rfl,U,by rw[b_];omega,gp6,M,gn,Y,λc2 f hc2 X hh=>?_⟩;rw[b_,E_] at hc2;by_cases z:c2<A.length
  .exact h2 c2 f z X hh
  have hcc:c2=c:=by have:=hj'.out;omega
  subst hcc;exact As (hb.mpr (hh.congr hW'.out (X.eq hd))) B_
 |true =>
  try simp only[gJ,if_true]
  have hh:=hb.mp rfl
  clear hb
  refine⟨zC,yT,yT,?_⟩
  rw[fX]
  walk_at "c"
  refine bO (still:=cC) (H:=H6) (λ(i:Nat)=>yv (i:Int)) (λ_=>yv 0) (ae m) [] trivial (by rw[m_];omega) ?c1 ?c2
  case c1 =>
   intro i hi Q' hq
   clear J Y h2
   walk_at ""
   try exact hq
  intro pl L
  have npl:p≠pl:=aR gp6 L
  have ndl:C≠pl:=aR S L
  have pl3:=cM U L
  have el:(ae m).map (λ_=>yv 0)=((ae m).map (j' ([]:List (ap × Int × List ap)) g)).map yv:=by rw[L_];rfl
  rw[el]
  have sb7:gb H3 (eH H6 pl (.lst (((ae m).map (j' ([]:List (ap × Int × List ap)) g)).map yv))):=U.trans (gb.new L)
  have gp7:eH H6 pl (.lst (((ae m).map (j' ([]:List (ap × Int × List ap)) g)).map yv)) p=ab (.lst (D.map λx=>yB x.1)):=by rw[aD npl];exact gp6
  have gd7:eH H6 pl (.lst (((ae m).map (j' ([]:List (ap × Int × List ap)) g)).map yv)) C=ab (.dct (dN (nm W) g)):=by rw[aD ndl];exact S
  have gl7:eH H6 pl (.lst (((ae m).map (j' ([]:List (ap × Int × List ap)) g)).map yv)) pl=ab (.lst (((ae m).map (j' ([]:List (ap × Int × List ap)) g)).map yv)):=aC
  have ga7:OI (eH H6 pl (.lst (((ae m).map (j' ([]:List (ap × Int × List ap)) g)).map yv))) D:=λx d=>by rw[aD (aR (M x d) L)];exact M x d
  have hgl:g8 (∀x∈D,x.1≠pl):=⟨λx d=>aR (M x d) L⟩
  generalize eH H6 pl (.lst (((ae m).map (j' ([]:List (ap × Int × List ap)) g)).map yv))=H7 at sb7 gp7 gd7 gl7 ga7 |-
  clear U S kp2 gp6 M L el sb gp ga
  try dsimp only
  refine aN AE W.tasks (λa Z H'=>∃(k u q G:Option T),Z=[ab W.enc,ab (.int (m:Int)),ab (.ref p),ab (.int ((m^W.tasks.length:Nat):Int)),k,u,q,G,ab (.ref C),ab (.ref pl)]/\H'=eH H7 pl (.lst (((ae m).map (j' a g)).map yv))) ⟨_,_,_,_,rfl,(HS gl7).symm⟩ ?_ ?_
  rotate_left
  ·
   rintro a ⟨x,ln,ks⟩ B2 Z H' N2 e ⟨k,u,q,G,rfl,rfl⟩ V
   walk_at "t"
   have hm2:(x,ln,ks)∈W.tasks:=by rw[e];simp
   have l1:=eN (f:=g) (ns:=nm W) (n:=x) (k_.mpr ⟨_,hm2,rfl⟩)
   have hgx:=hg x
   have x1:AA (((ae m).map (j' a g)).map yv) ((g x:Nat):Int)=ab (.int (j' a g (g x))):=bQ (by rw[u_,u_,CI hgx];rfl)
   have x2:BH (((ae m).map (j' a g)).map yv).length ((g x:Nat):Int)=ab (g x):=tM (by rw[d_,d_,m_];exact hgx)
   have x3:(((ae m).map (j' a g)).map yv).set (g x) (yv (j' a g (g x)+ln))=((ae m).map (j' (a++[(x,ln,ks)]) g)).map yv:=by
    rw[<- List.map_set]
    congr 1
    exact MT (t:=(x,ln,ks)) hgx
   have fin:g8 (∀k u q G,N2 [ab W.enc,ab (.int (m:Int)),ab (.ref p),ab (.int ((m^W.tasks.length:Nat):Int)),k,u,q,G,ab (.ref C),ab (.ref pl)] (eH H7 pl (.lst ((((ae m).map (j' a g)).map yv).set (g x) (yv (j' a g (g x)+ln)))))):=⟨λk u q G=>V _ _ ⟨k,u,q,G,rfl,by rw[x3]⟩⟩
   have gd8:eH H7 pl (.lst (((ae m).map (j' a g)).map yv)) C=ab (.dct (dN (nm W) g)):=by rw[aD ndl];exact gd7
   clear V e J x3 Y h2 hm2 gl7
   generalize ((ae m).map (j' a g)).map yv=LL at *
   simp only[AE]
   walk_at ""
   exact⟨zC,fin.out _ _ _ _⟩
  rintro Z H' ⟨k,u,q,G,rfl,rfl⟩
  walk_at "t"
  rw[show ((ae m).map (j' W.tasks g)).map yv=(y' W g m).map yv from rfl]
  have gp9:eH H7 pl (.lst ((y' W g m).map yv)) p=ab (.lst (D.map λx=>yB x.1)):=by rw[aD npl];exact gp7
  have gl9:eH H7 pl (.lst ((y' W g m).map yv)) pl=ab (.lst ((y' W g m).map yv)):=aC
  have sb9:gb H3 (eH H7 pl (.lst ((y' W g m).map yv))):=λb o h=>by rw[aD (aR h pl3)];exact sb7 b o h
  have ga9:OI (eH H7 pl (.lst ((y' W g m).map yv))) D:=λx d=>by rw[aD (hgl.out x d)];exact ga7 x d
  generalize eH H7 pl (.lst ((y' W g m).map yv))=H8 at gp9 gl9 sb9 ga9 |-
  clear gp7 gd7 gl7 sb7 ga7
  try dsimp only
  have hgn:g8 (∀x∈D,x.1≠p):=⟨λx d z=>by
   have q1:=ga9 x d
   rw[z,gp9] at q1
   have q2:=Q_ (λo=>match o with | some (O3.lst ts)=>ts.length | _=>0) q1
   have q3:x.2.map yv=D.map λy=>yB y.1:=by
    have:=T_ q1
    injection this with this
    exact this.symm
   cases hx2:D with
   |nil=>rw[hx2] at d;cases d
   |cons y r =>
    rw[hx2,z_] at q3
    cases hx3:x.2 with
    |nil=>rw[hx3] at q3;cases q3
    |cons i j=>rw[hx3,z_] at q3;injection q3 with q4;cases q4⟩
  have h1':=g8.mk Y
  have h2':=g8.mk h2
  clear Y h2
  walk_at ""
  refine⟨⟨zC,zC⟩,yT,J.out _ _ ⟨_,_,_,_,_,_,D++[(pl,y' W g m)],rfl,λb o h=>?_,by rw[b_,b_];simp;exact hl,by rw[aC,v_];rfl,λx d=>?_,λx d=>?_,λl I=>?_,λc2 f hc2 X hh2=>?_⟩⟩
  ·
   rw[aD (aR h hp)];exact sb9 b o h
  ·
   rcases F_.mp d with d | d
   ·
    rw[aD (hgn.out x d)];exact ga9 x d
   ·
    rw[i_.mp d,aD (aS npl)];exact gl9
  ·
   rcases F_.mp d with d | d
   ·
    exact gn x d
   ·
    rw[i_.mp d];exact pl3
  ·
   rw[v_] at I
   rcases F_.mp I with I | I
   ·
    exact h1'.out l I
   ·
    exact⟨g,hg,hh,i_.mp I⟩
  ·
   rw[v_]
   rw[b_,E_] at hc2
   by_cases z:c2<A.length
   ·
    exact Fa _ (h2'.out c2 f z X hh2)
   ·
    have hcc:c2=c:=by have:=hj'.out;omega
    subst hcc
    rw[fC (X.eq hd) m]
    exact Da _ (i_.mpr rfl)
abbrev eU:List ap:=[At,BE,"_law_tasks",Kk,"_law_pairs_here","_law_row","_law_others",AF,Cs,"_law_some","_law_more","_law_both"]
theorem F2:fY eU [At,BE] (aA (yY 69)):=aZ
theorem uD {f:ah} (g:G3 K mg "_law_otherwise" (yY 69) [At,BE] f fd) (B:Bl mg) (R:R8 P w K mg base 2 "_law_names" (yY 58) [At,Bi] U8) (l:R8 P w K mg base 2 "_law_turn" (yY 59) [At,IX] Vt):R8 P w K mg base 3 "_law_otherwise" (yY 69) [At,BE] Qn:=by
 refine c6 g F2 ?_;rintro _ A _ s H _ _ H3 Q hr ⟨d,W,rfl,hW,hC,kk⟩;have L:=Pr.u1 hr;refine⟨_,(ak (ou zo (bH (n:=4) rfl (aF (aB 2 F2.nd) (aF (aB 3 F2.nd) (aF (aB 4 F2.nd) (aF (aB 5 F2.nd) bh))))))
   (ak (aG 6 F2.nd (aH R hr rfl (aa y8 (aa (aQ b8 rfl B.len_ cg (aa zt aj)) aj))))
   (ak (aG 7 F2.nd m7)
   (ak (aV x_ rfl (aX rfl B.range_ (aa (aQ b8 rfl B.len_ cg (aa zt aj)) aj)) (aB 8 F2.nd) (ao (jR L BO (aK zD (aK zD zt BN) au) (aK zD BU BN))))
   (ak (ie (i:=9) rfl F2.nd (b6 69 eU [DE,G0,Fc,AF] 3 [7]) (bJ (aH l hr rfl (aa y8 (aa zt aj)))) (λcl ZO s H C0 fp=>⟨(bH (n:=3) rfl (aF (aB 0 (n7 [DE,G0,Fc,AF])) (aF (aB 1 (n7 [DE,G0,Fc,AF])) (aF (aB 2 (n7 [DE,G0,Fc,AF])) bh)))),bG,(bc (aa (cD L z4 y8) (aa zo (aa zt aj))))⟩))
   (ak (ie (i:=10) rfl F2.nd (b6 69 eU ["_law_one",Iq,AF] 2 [7]) (bJ (aH l hr rfl (aa y8 (aa z4 aj)))) (λcl ZO s H C0 fp=>⟨(bH (n:=2) rfl (aF (aB 0 (n7 ["_law_one",Iq,AF])) (aF (aB 1 (n7 ["_law_one",Iq,AF])) bh))),bG,(bc (aa (cD L zt y8) (aa (cD L zt zo) aj)))⟩))
   (ak (ie (i:=11) rfl F2.nd (b6 69 eU [IG,"_law_one",Iq,AF] 3 [7]) (bJ (aH l hr rfl (aa y8 (aa AD aj)))) (λcl ZO s H C0 fp=>⟨(bH (n:=3) rfl (aF (aB 0 (n7 [IG,"_law_one",Iq,AF])) (aF (aB 1 (n7 [IG,"_law_one",Iq,AF])) (aF (aB 2 (n7 [IG,"_law_one",Iq,AF])) bh)))),bG,(bc (aa y8 (aa (cD L z4 zo) (aa (cD L z4 zt) aj))))⟩))
   (ao (aJ (bc (aa (bc (aa (bu b7 rfl B.tuple_ bT (aa E8 aj)) (aa (bu b7 rfl B.tuple_ bT (aa (v3 10) aj)) (aa (bu b7 rfl B.tuple_ bT (aa (v3 11) aj)) (aa AI aj))))) (aa BO aj)))))))))))),?_⟩
 walk_at "q";walk_at "h";have k':=g8.mk kk;clear kk;have w0:Wt d H3 H3 []:=⟨hC,A4.refl,(λ_ h=>nomatch h)⟩;clear hC;have t8:=hW.t8;have t1:=hW.t1;walk_at "s";walk_at "t";walk_at "n";walk_at "s";refine⟨d,W.tasks.length,rfl,t1,t8,w0.cl,λws H4 po hws nws J hpo=>?_⟩;have po0:=w0.kp;have w1:=(w0.drw J).new (o:=.lst (ws.map yy)) hpo;generalize eH H4 po (.lst (ws.map yy))=H5 at w1 |-;clear w0 J hpo;walk_at "n";walk_at "s";intro C V;have nop:po≠C:=aR w1.hd V;have w2:=w1.new (o:=.dct (dS ((nm W).take 0) (oF (nm W) ws))) V;have f0:=w1.fresh V;rw[show (.dct []:O3)=.dct (dS ((nm W).take 0) (oF (nm W) ws)) from rfl];generalize eH H5 C (.dct (dS ((nm W).take 0) (oF (nm W) ws)))=H6 at w2 |-;clear w1 V;have hln:ws.length=(nm W).length:=by rw[hws];unfold nm;rw[d_]
 have nl:(nm W).length=W.tasks.length:=by unfold nm;rw[d_]
 have nd:(nm W).Nodup:=hW.nd;walk_at "n";refine aq λR3 hR3=>?_;walk_at "";refine⟨zC,yT,yT,?_⟩;rw[fX];refine aN (λ(k:Nat)=>yv (k:Int)) (ae W.tasks.length) (λA Z H=>∃(v8 v9 v10 v11:Option T),Z=[ab (.ref d),ab W.enc,ab (.tup (W.tasks.map AE)),ab (.tup (W.orders.map AG)),ab (.tup (W.pairs.map AW)),ab (.tup (W.row.map yy)),ab (.ref po),ab (.ref C),v8,v9,v10,v11]/\Wt d H3 H [(C,.dct (dS ((nm W).take A.length) (oF (nm W) ws))),(po,.lst (ws.map yy))]) ⟨_,_,_,_,rfl,w2⟩ ?_ ?_;rotate_left
 .rintro A k B Z H N e ⟨v8,v9,v10,v11,rfl,w⟩ S;walk_at "t";have hA:A.length<W.tasks.length:=by have:=Q_ aT e;simp only[b_,j_,m_] at this;omega
  have hj:k=A.length:=by
   have h1:(ae W.tasks.length)[A.length]?=ab k:=by rw[e,M_ (l_ _)];simp
   rw[CI hA] at h1;exact (T_ h1).symm
  subst hj;obtain⟨⟨x,ln,ks⟩,ht⟩:∃t,W.tasks[A.length]?=ab t:=⟨_,g_ hA⟩;have a1:AA (W.tasks.map AE) (A.length:Int)=ab (.tup [.str x,.int ln,sT ks]):=bQ (by rw[u_,ht];rfl);have hAn:A.length<(nm W).length:=yT
  have ex:(nm W)[A.length]=x:=by
   have:(nm W)[A.length]?=ab x:=by unfold nm;rw[u_,ht];rfl
   rw[g_ hAn] at this;exact T_ this
  have a2:AA (ws.map yy) (A.length:Int)=ab (.str (oF (nm W) ws x)):=bQ (by rw[u_,Bd nd hln hAn,ex];rfl);have hx:x∉(nm W).take A.length:=λz=>by obtain⟨i,hi,e2⟩:=L9 z;rw[FG] at hi;rw[pT,<- ex] at e2;have:=(r6 nd).mp e2;omega
  have pn:=Vr (f:=oF (nm W) ws) hx;rw[<- ex,List.take_append_getElem hAn,ex] at pn;have gp:=w.hd;have go:=w.tl.hd;have w3:=w.set f0 (λq hq=>by rw[i_.mp hq];exact nop) (.dct (dS ((nm W).take (A.length+1)) (oF (nm W) ws)));have hdl:(dS ((nm W).take A.length) (oF (nm W) ws)).length<=8:=by unfold dS;rw[d_,FG];omega
  have u:g8 (∀v8,N [ab (.ref d),ab W.enc,ab (.tup (W.tasks.map AE)),ab (.tup (W.orders.map AG)),ab (.tup (W.pairs.map AW)),ab (.tup (W.row.map yy)),ab (.ref po),ab (.ref C),v8,v9,v10,v11] (eH H C (.dct (dS ((nm W).take (A.length+1)) (oF (nm W) ws))))):=⟨λv8=>S _ _ ⟨_,_,_,_,rfl,by rw[b_,E_];exact w3⟩⟩;clear S e k' hR3 w2 w3 ht ex hx w;walk_at "";exact⟨yT,u.out _⟩
 rintro Z H ⟨v8,v9,v10,v11,rfl,w⟩;walk_at "t";rw[m_,<- nl,fh] at w;clear w2;have hF:=Vs nd hln nws.nd;have hFn:∀a∈nm W,AN (oF (nm W) ws a):=λa ha=>by obtain⟨i,hi,rfl⟩:=L9 ha;exact nws.nm _ (EW (Bd nd hln hi))
 have j:g8 (∀n∈nm W,aP n (dS (nm W) (oF (nm W) ws))=ab (.str (oF (nm W) ws n))):=⟨λn hn=>uq hn⟩;generalize hgF:oF (nm W) ws=F at *;replace k':=g8.mk (k'.out F);generalize dS (nm W) F=kv at *;have U:=g8.mk hF;have r:=g8.mk hFn;clear hF hFn hgF hln nws;have hW':=g8.mk hW;clear hW nd;walk_at "n";refine aq λR4 hR4=>?_;walk_at "";refine⟨d,_,W.tasks.map AE,rfl,.inr rfl,M9 _,by rw[d_];omega,w.cl,λG H7 p1 m J hp1=>?_⟩;obtain⟨O,hts,rfl⟩:=fZ m W.tasks rfl;have w3:=(w.drw J).new (o:=.lst (O.map AE)) hp1;generalize eH H7 p1 (.lst (O.map AE))=H8 at w3 |-;clear w J hp1 m;have D:=w3.hd;have gd:=w3.tl.hd;have l2:=hts.length_eq;show Nn (.ref p1) H8 _;rw[rA,D,lX];walk_at "c";refine cP AE O (λA G Z H=>∃b c v:Option T,Z=[b,c,v,ab (.ref C)]/\H=H8/\G=(A.map λt=>(F t.1,t.2)).map AE) ⟨_,_,_,rfl,rfl,rfl⟩ ?_ ?_;rotate_left
 .rintro A ⟨x,ln,ks⟩ B G Z H N e ⟨b,c,v,rfl,rfl,rfl⟩ S;refine⟨.inl D,?_⟩;have hA:A.length<9:=by have:=Q_ aT e;simp only[b_,j_] at this;omega
  have Y:(x,ln,ks)∈W.tasks:=hts.mem_iff.mp (by rw[e];simp);have lk:=j.out x (k_.mpr ⟨_,Y,rfl⟩);have u:g8 (∀b c v,N ((A.map λt=>(F t.1,t.2)).map AE++[.tup [.str (F x),.int ln,sT ks]]) [b,c,v,ab (.ref C)] H):=⟨λb c v=>S _ _ _ ⟨b,c,v,rfl,rfl,by rw[v_,v_];rfl⟩⟩;clear S e k' j U r hR4;rw[show AE (x,ln,ks)=.tup [.str x,.int ln,sT ks] from rfl];walk_at "";exact⟨zC,y6,yT,u.out _ _ _⟩
 rintro G Z H ⟨b,c,v,rfl,rfl,rfl⟩;refine⟨.inl D,by rw[d_,d_];omega,λp2 hp2=>?_⟩;have w4:=w3.tl.new (o:=.lst ((O.map λt=>(F t.1,t.2)).map AE)) hp2;generalize eH H p2 (.lst ((O.map λt=>(F t.1,t.2)).map AE))=H9 at w4 |-;clear w3 hp2 D gd;walk_at "n";refine aq λR5 hR5=>?_;walk_at "";have o28:=hW'.out.os;refine⟨d,_,W.orders.map AG,rfl,.inr rfl,Uq _,by rw[d_];omega,w4.cl,λG H10 p3 m J hp3=>?_⟩;obtain⟨M,hos,rfl⟩:=fZ m W.orders rfl;have w5:=(w4.drw J).new (o:=.lst (M.map AG)) hp3;generalize eH H10 p3 (.lst (M.map AG))=H11 at w5 |-;clear w4 J hp3 m;have D:=w5.hd;have gd:=w5.tl.tl.hd;have l3:=hos.length_eq;show Nn (.ref p3) H11 _;rw[rA,D,lX];walk_at "c";refine cP AG M (λA G Z H=>∃b c:Option T,Z=[b,c,ab (.ref C)]/\H=H11/\G=(A.map λo=>(F o.1,F o.2)).map AG) ⟨_,_,rfl,rfl,rfl⟩ ?_ ?_;rotate_left
 .rintro A ⟨x,y⟩ B G Z H N e ⟨b,c,rfl,rfl,rfl⟩ S;refine⟨.inl D,?_⟩;have hA:A.length<29:=by have:=Q_ aT e;simp only[b_,j_] at this;omega
  have Y:=hW'.out.oo (x,y) (hos.mem_iff.mp (by rw[e];simp));have lk1:=j.out x Y.2.1;have lk2:=j.out y Y.2.2;have u:g8 (∀b c,N ((A.map λo=>(F o.1,F o.2)).map AG++[.tup [.str (F x),.str (F y)]]) [b,c,ab (.ref C)] H):=⟨λb c=>S _ _ _ ⟨b,c,rfl,rfl,by rw[v_,v_];rfl⟩⟩;clear S e k' j U r hR5 Y;rw[show AG (x,y)=.tup [.str x,.str y] from rfl];walk_at "";exact⟨zC,y6,yT,u.out _ _⟩
 rintro G Z H ⟨b,c,rfl,rfl,rfl⟩;refine⟨.inl D,by rw[d_,d_];omega,λp4 hp4=>?_⟩;have w6:=w5.tl.new (o:=.lst ((M.map λo=>(F o.1,F o.2)).map AG)) hp4;generalize eH H p4 (.lst ((M.map λo=>(F o.1,F o.2)).map AG))=H12 at w6 |-;clear w5 hp4 D gd;walk_at "n";refine aq λR6 hR6=>?_;walk_at "";have p12:=hW'.out.ps;refine⟨d,_,W.pairs.map AW,rfl,.inr rfl,Ur W.pairs,by rw[d_];omega,w6.cl,λG H12 p5 m J hp5=>?_⟩;obtain⟨I,hps,rfl⟩:=fZ m W.pairs rfl;have w7:=(w6.drw J).new (o:=.lst (I.map AW)) hp5;generalize eH H12 p5 (.lst (I.map AW))=H13 at w7 |-;clear w6 J hp5 m;have D:=w7.hd;have gd:=w7.tl.tl.tl.hd;have l4:=hps.length_eq;show Nn (.ref p5) H13 _;rw[rA,D,lX];walk_at "c";refine cP AW I (λA G Z H=>∃b c v:Option T,Z=[b,c,v,ab (.ref C)]/\H=H13/\G=(A.map λp=>(p.1,F p.2.1,F p.2.2)).map AW) ⟨_,_,_,rfl,rfl,rfl⟩ ?_ ?_;rotate_left
 .rintro A ⟨wd,x,y⟩ B G Z H N e ⟨b,c,v,rfl,rfl,rfl⟩ S;refine⟨.inl D,?_⟩;have hA:A.length<13:=by have:=Q_ aT e;simp only[b_,j_] at this;omega
  have Y:=hW'.out.pp (wd,x,y) (hps.mem_iff.mp (by rw[e];simp));have lk1:=j.out x Y.2.2.1;have lk2:=j.out y Y.2.2.2;have u:g8 (∀b c v,N ((A.map λp=>(p.1,F p.2.1,F p.2.2)).map AW++[.tup [.str wd,.str (F x),.str (F y)]]) [b,c,v,ab (.ref C)] H):=⟨λb c v=>S _ _ _ ⟨b,c,v,rfl,rfl,by rw[v_,v_];rfl⟩⟩;clear S e k' j U r hR6 Y;rw[show AW (wd,x,y)=.tup [.str wd,.str x,.str y] from rfl];walk_at "";exact⟨zC,y6,yT,u.out _ _ _⟩
 rintro G Z H ⟨b,c,v,rfl,rfl,rfl⟩;refine⟨.inl D,by rw[d_,d_];omega,λp6 hp6=>?_⟩;have X:=w7.tl.new (o:=.lst ((I.map λp=>(p.1,F p.2.1,F p.2.2)).map AW)) hp6;generalize eH H p6 (.lst ((I.map λp=>(p.1,F p.2.1,F p.2.2)).map AW))=H14 at X |-;clear w7 hp6 D gd;have g5:=X.hd;have g4:=X.tl.hd;have g2:=X.tl.tl.hd;have gd:=X.tl.tl.tl.hd;have npd:C≠d:=(X.tl.tl.tl.at' _ (.head _)).2;have fin:g8 (My Q (.tup [Wk.enc ⟨O.map λt=>(F t.1,t.2),M.map λo=>(F o.1,F o.2),I.map λp=>(p.1,F p.2.1,F p.2.2),W.row⟩,.ref C]) H14):=⟨MF X.cl X.kp gd f0 npd λH1 J hq=>k'.out _ C H1 ⟨U.out,r.out,hts.map _,hos.map _,hps.map _,rfl⟩ J hq⟩;unfold Wk.enc at fin;dsimp only at fin;clear k' j U r X;walk_at "n";try simp only[sT] at fin
 walk_at "";exact⟨y6,y6,fin.out⟩
abbrev gm:List ap:=["works","orders","row"]
theorem S3:fY gm ["works"] (aA (yY 21)):=aZ
theorem mU {f:ah} (g:G3 K mg "turned_about" (yY 21) ["works"] f k) (B:Bl mg):R8 P w K mg base 1 "turned_about" (yY 21) ["works"] YX:=by
 refine c6 g S3 ?_;rintro _ _ _ s H _ _ _ _ _ ⟨W,rfl,u,e⟩;refine⟨_,(ak (aG 1 S3.nd (bu b7 rfl B.tuple_ bT (aa (bx rfl (b6 21 gm ["one","other"] 2 []) (bN (aK zD y8 au)) (λF l s H y D=>⟨(bH (n:=2) rfl (aF (aB 0 (n7 ["one","other"])) (aF (aB 1 (n7 ["one","other"])) bh))),bG,(bc (aa zo (aa y8 aj)))⟩)) aj)))
   (ak (aG 2 S3.nd (Cr rfl rfl B.tuple_ rfl B.reversed_ (aK zD y8 au)))
   (ao (aJ (bc (aa (aK zD y8 au) (aa zo (aa (aK zD y8 au) (aa zt aj))))))))),?_⟩
 walk_at "q";walk_at "h";have m:=g8.mk e;clear e;have r:=u.os;walk_at "s";walk_at "c";refine lZ (λo:ap × ap=>yy o.1) (λo=>yy o.2) (λo=>AG (o.2,o.1)) W.orders [] trivial yT (λa G C j=>?_) (λp q=>?_)
 .have c:=g8.mk j;clear j m;walk_at "";exact⟨y6,c.out⟩
 walk_at "n";walk_at "";refine⟨y6,My.of (gb.new q) ?_⟩;have b:=m.out;unfold Wk.turn Wk.enc at b;simp only[L_,Mb,Function.comp_def,sT] at b |-;exact b
abbrev iD:List ap:=[IM,AF,IQ,"_law_stand"]
theorem Tk:fY iD [IM,AF] (aA (yY 70)):=aZ
theorem qw {f:ah} (g:G3 K mg "_law_named_back" (yY 70) [IM,AF] f fd) (B:Bl mg):R8 P w K mg base 1 "_law_named_back" (yY 70) [IM,AF] YZ:=by
 refine c6 g Tk ?_;rintro _ A _ s H _ _ H3 _ hr ⟨W,f,q,D,rfl,hW,V,d8,hd,hq,kk⟩;have C:=Pr.u31 hr;have Y:=Pr.u1 hr;refine⟨_,(ak (aG 2 Tk.nd (bI aj))
   (ak (aV x_ rfl (bN y8) (aB 3 Tk.nd) (ao (bM (cW J_ R_ S_ bB zt (aa (bu b7 rfl B.tuple_ bT (aa (bx rfl (b6 70 iD [DE,"_law_stand",AF] 1 [3,1]) (Yb zo) (λcl ZO s H C0 fp=>⟨(aB 0 (n7 [DE,"_law_stand",AF])),(dR (aU (q9 C) (Hh Y zt y8) zo rfl)),y8⟩)) aj)) aj)))))
   (ao (aJ (bu b7 rfl B.tuple_ bT (aa zt aj)))))),?_⟩
 walk_at "q";walk_at "h";have k':=g8.mk kk;have G:=g8.mk hd;have t8:(nm W).length<=8:=by rw[lH];exact hW.t8
 clear kk hd hW;walk_at "s";refine⟨y6,λp J=>?_⟩;have v:p≠q:=λz=>by rw[z,hq] at J;cases J
 have k:eH H3 p (.lst []) q=ab (.dct (dS (nm W) f)):=by rw[aD (aS v)];exact hq
 have m:∀b u,b≠q->H3 b=ab u->eH H3 p (.lst []) b=ab u:=λb u _ h=>gb.new J b u h;have r:eH H3 p (.lst []) p=ab (.lst ((Cb f W []).map sT)):=aC;generalize eH H3 p (.lst [])=H4 at k m r |-;walk_at "n";refine aq λR1 R=>?_;walk_at "";refine aN sT D (λA Z H=>∃(v3:Option T),Z=[ab (.tup (D.map sT)),ab (.ref q),ab (.ref p),v3]/\(∀b u,b≠q->H3 b=ab u->H b=ab u)/\H p=ab (.lst ((Cb f W A).map sT))/\((A=[]/\H q=ab (.dct (dS (nm W) f)))\/∃o,H q=ab (.dsf o (dS (nm W) f)))) ⟨_,rfl,m,r,.inl ⟨rfl,k⟩⟩ ?_ ?_
 .rintro Z H ⟨v3,rfl,L,gp,y⟩;walk_at "t";walk_at "n";walk_at "";rcases y with ⟨z,_⟩ | ⟨o,y⟩
  .rw[z] at V;exact As V y6
  exact My.of gb.refl (k'.out o H L y)
 rintro A s B Z H N e ⟨v3,rfl,L,gp,y⟩ hN;walk_at "t";have hs8:=G.out s (by rw[e];simp);have hlA:A.length<8:=by have:=Q_ aT e;simp only[b_,j_] at this;omega
 have X:H q=ab (.dct (dS (nm W) f))\/∃o,H q=ab (.dsf o (dS (nm W) f)):=y.imp And.right id;have d:g8 (∀n∈nm W,aP n (dS (nm W) f)=ab (.str (f n))):=⟨λn I=>uq I⟩;have j:g8 (∀o H',(∀b,b≠q->H' b=H b)->H' q=ab (.dsf o (dS (nm W) f))->∀l,H' l=af->∀v3,N [ab (.tup (D.map sT)),ab (.ref q),ab (.ref p),v3] (eH (eH H' l (.lst (((nm W).filter λn=>decide (f n∈s)).map yy))) p (.lst ((Cb f W A).map sT++[sT ((nm W).filter λn=>decide (f n∈s))])))):=⟨λo H' hb a l c v3=>by
  have M:q≠l:=λz=>by rw[<- z,a] at c;cases c
  refine hN _ _ ⟨_,rfl,λb u x h=>?_,by rw[aC];unfold Cb;rw[v_,v_];rfl,.inr ⟨o,by rw[aD (aS v),aD M];exact a⟩⟩
  have O:=L b u x h
  rw[aD (aR h J),aD (λz=>by rw[<- hb b x,z,c] at O;cases O),hb b x]
  exact O⟩
 have lL:((Cb f W A).map sT).length<=8:=by unfold Cb;rw[d_,d_];omega
 have pls:=fc s;clear hN e k' R y m k r G V L;generalize (Cb f W A).map sT=LL at *;generalize F:dS (nm W) f=kv at *;simp only[sT] at *;walk_at "";refine⟨⟨zC,zC⟩,?_⟩;refine Nf X λo H2 g2 k2=>?_;have S:H2 p=ab (.lst LL):=by rw[k2 p v];exact gp
 rw[<- F,Be,F];walk_at "c";refine dz yy yy (λn=>decide (f n∈s)) (nm W) [ab (.tup (s.map yy)),ab (.ref q)] g2 yT (λn I Q' a=>?_) (λn I _ Q' a=>?_) (λl c=>?_)
 .have l1:=d.out n I;have t:=g8.mk a;clear a j d;walk_at "";rw[Qg];exact⟨rfl,zC,t.out⟩
 .have t:=g8.mk a;clear a j d;walk_at "";exact t.out
 have npc:p≠l:=aR S c;have f2:=g8.mk (j.out o H2 k2 g2 l c);clear j d;walk_at "";exact⟨yT,f2.out _⟩
abbrev jm:List ap:=[BE,LO,IM,"_law_due"]
theorem Je:fY jm jm (aA (yY 71)):=aZ
theorem Jf {f:ah} (g:G3 K mg "_law_right" (yY 71) jm f L) (B:Bl mg) (b:R8 P w K mg base 4 "fault_of" (yY 46) ["works","beat","dealing"] M8) (a:R8 P w K mg base 2 "loads_of" (yY 34) ["works","dealing"] Vd):R8 P w K mg base 5 "_law_right" (yY 71) jm Y0:=by
 refine c6 g Je ?_;rintro _ _ _ s H _ _ H3 _ v ⟨W,eG,D,c,rfl,k,n,G⟩;have p:=Pr.u30 v;refine⟨_,(ak (bD (aU CG (aH b v rfl (aa y8 (aa zo (aa zt aj)))) cG) (ao (aJ eO)) aW)
   (ao (aJ (du (cL p) (aQ (lu rfl) rfl B.sum_ lw (aa (bx rfl (b6 71 jm ["_law_load"] 1 []) (bN (aH a v rfl (aa y8 (aa zt aj)))) (λcl M s H C0 fp=>⟨(aB 0 (n7 ["_law_load"])),bG,(aL z8 y8 y8)⟩)) aj)) z4)))),?_⟩
 walk_at "q";walk_at "h";have O:=g8.mk G;clear G;have I:D.length<=8:=U_ n.ok.rw k.r8;have R:=k.t8;have j:=g8.mk n;have F:g8 (c=((D.map (ld W.tasks)).map λl=>l*l).sum):=⟨by
  rw[n.e]
  unfold HA
  rw[L_]
  congr 1
  refine C7 λs X=>?_
  show _=ld W.tasks s*ld W.tasks s
  rw[n.ok.sm k X,nA]⟩
 have u:g8 (∀l∈D.map (ld W.tasks),0<=l/\l<10^61):=⟨λl C=>by
  obtain⟨s,_,rfl⟩:=k_.mp C
  rw[nA]
  exact uh k s⟩
 have z:=g8.mk k;clear k n;walk_at "s";refine⟨W,eG,D,rfl,z.out,j.out.ok,j.out.r,?_⟩;clear j;try dsimp only
 walk_at "";walk_at "n";walk_at "";refine⟨W,D,rfl,R,I,?_⟩;have el:(D.map (ld W.tasks)).length<=8:=by rw[d_];exact I
 generalize D.map (ld W.tasks)=d at *;try dsimp only
 try rw[Oj]
 walk_at "c";refine bO yv (λl=>yv (l*l)) d [] trivial yT (λl C Q' J=>?_) (λq t=>?_)
 .have o:=u.out l C;have cm:OR l l:=⟨iV o.1 o.2,iV o.1 o.2⟩;have x:=g8.mk J;clear J O o u F;walk_at "";exact⟨zC,x.out⟩
 rw[show (d.map λl=>yv (l*l))=(d.map λl=>l*l).map yv by rw[L_];rfl];have ei:=cN (d.map λl=>l*l);have es':=F.out;have m:gb H3 (eH H3 q (.lst ((d.map λl=>l*l).map yv))):=gb.new t;have V:eH H3 q (.lst ((d.map λl=>l*l).map yv)) q=ab (.lst ((d.map λl=>l*l).map yv)):=aC;generalize eH H3 q (.lst ((d.map λl=>l*l).map yv))=Y at V m |-;clear F u;subst es';generalize (d.map λl=>l*l)=qs at *;walk_at "";exact My.of m O.out
def Vw:Au:=λts H Q=>∃W:Wk,ts=[W.enc]/\mz W/\∀p,H p=af->Q (.ref p) (eH H p (.lst ((HP ["with"] W).map AG)))
def Vx:Au:=λts H Q=>∃(x:T) (L:List (ap × ap)) (s:ap),ts=[x,.str s]/\((∃a,x=.ref a/\H a=ab (.lst (L.map AG)))\/x=.tup (L.map AG))/\L.length<=100 /\
 ∀(p:ah) (kvs:List (ap × T)),H p=af->(∀z,(aP z kvs).isSome=ag↔RT (λa b=>(a,b)∈L) s z)->Q (.ref p) (eH H p (.dct kvs))
def Vy:Au:=λts H Q=>∃(W:Wk) (t:ap),ts=[W.enc,.str t]/\mz W/\∀(p:ah) (kvs:List (ap × T)),H p=af->(∀z,(aP z kvs).isSome=ag↔RT (EC ["with"] W) t z)->Q (.ref p) (eH H p (.dct kvs))
def Vz:Au:=λts H Q=>∃(W:Wk) (t:ap),ts=[W.enc,.str t]/\mz W/\∀(p:ah) (kvs:List (ap × T)),H p=af->(∀z,(aP z kvs).isSome=ag↔RT (EC ["with"] W) z t)->Q (.ref p) (eH H p (.dct kvs))
def Ze:Au:=λts H Q=>∃(W:Wk) (a b:ah) (c d:List (ap × T)),ts=[W.enc,.ref a,.ref b]/\mz W/\H a=ab (.dct c)/\H b=ab (.dct d)/\Q (sT ((W.tasks.map (·.1)).filter λx=>(aP x c).isSome&&(aP x d).isSome)) H
def Zf:Au:=λts H Q=>∃(W:Wk) (a b:ah) (c d:List (ap × T)),ts=[W.enc,.ref a,.ref b]/\mz W/\H a=ab (.dct c)/\H b=ab (.dct d)/\Q (sT ((W.tasks.map (·.1)).filter λx=>(aP x c).isSome&&!(aP x d).isSome)) H
def Zg:Au:=λts H Q=>∃(W:Wk) (t:ap),ts=[W.enc,.str t]/\mz W/\Q (sT (gM W t)) H
def Zh:Au:=λts H Q=>∃(W:Wk) (t:ap),ts=[W.enc,.str t]/\mz W/\Q (sT (jG W t)) H
abbrev pL:List ap:=["works","links","word","one","other"]
theorem NL:fY pL ["works"] (aA (yY 4)):=aZ
theorem wD {f:ah} (g:G3 K mg "links_of" (yY 4) ["works"] f C) (B:Bl mg):R8 P w K mg base 1 "links_of" (yY 4) ["works"] Vw:=by
 refine c6 g NL ?_;rintro _ A t _ H _ _ H3 _ I ⟨⟨tk,c,AC,j⟩,rfl,u,k⟩;have l:=Pr.u30 I;refine⟨_,(ak (aG 1 NL.nd (bu tK rfl B.list_ jT (aa (aK zD y8 au) aj)))
   (ak (aV x_ rfl (bN (aK zD y8 au)) (bH (n:=3) rfl (aF (aB 2 NL.nd) (aF (aB 3 NL.nd) (aF (aB 4 NL.nd) bh)))) (ao (bD (aU (cL l) zt cT) (ak (bM (cW J_ R_ S_ bB zo (aa (bc (aa z4 (aa AD aj))) aj)))
     (ao (bM (cW J_ R_ S_ bB zo (aa (bc (aa AD (aa z4 aj))) aj))))) aW)))
   (ao (aJ zo)))),?_⟩
 walk_at "q";walk_at "h";have z:c.length<=28:=u.os;have D:AC.length<=12:=u.ps;walk_at "";intro p G;refine aN AW AC (λA Z H=>∃(q v3 v:Option T),Z=[ab (yA [yA (tk.map AE),yA (c.map AG),yA (AC.map AW),yA (j.map yy)]),ab (.ref p),q,v3,v]/\H=eH H3 p (.lst ((c++A.flatMap (C1 ["with"])).map AG))) ⟨af,af,af,rfl,ze⟩ ?_ ?_
 .rintro Z H ⟨q,v3,v,rfl,rfl⟩;walk_at "t";walk_at "";exact My.of gb.refl (k p G)
 rintro A ⟨w,a,b⟩ B Z H N e ⟨q,v3,v,rfl,rfl⟩ y;have L:=ud ["with"] A;have M:A.length<=12:=by have:=Q_ aT e;simp only[b_,j_] at this;omega
 have o:(c++A.flatMap (C1 ["with"])).length<=52:=by rw[b_];omega
 have d:N [ab (yA [yA (tk.map AE),yA (c.map AG),yA (AC.map AW),yA (j.map yy)]),ab (.ref p),ab (.str w),ab (.str a),ab (.str b)] (eH H3 p (.lst ((c++A.flatMap (C1 ["with"])).map AG++(C1 ["with"] (w,a,b)).map AG))):=y _ _ ⟨_,_,_,rfl,by rw[mB,<- EF,v_];simp⟩;generalize c++A.flatMap (C1 ["with"])=F at d o;replace d:=g8.mk d;walk_at "t";clear y e k u L;simp only[AW];walk_at "";walk_at "t";by_cases r:w="with"
 .subst r;have m:C1 ["with"] ("with",a,b)=[(a,b),(b,a)]:=by unfold C1;simp
  rw[m] at d;try simp only[EU,if_true]
  refine⟨⟨zC,zC⟩,yT,yT,⟨zC,zC⟩,yT,by simp;omega,?_⟩;have x:=d.out;simp only[z_,DH,AG] at x;rw[EF];exact x
 have m:C1 ["with"] (w,a,b)=[]:=by unfold C1;simp [r]
 rw[m,DH,X_] at d;simp only[r,ER,H_,Y_];exact d.out
abbrev su:List ap:=["links","start","found","grown","one","other"]
theorem L7:fY su ["links","start"] (aA (yY 5)):=aZ
theorem yO {f:ah} (g:G3 K mg "reached" (yY 5) ["links","start"] f fd) (B:Bl mg):R8 P w K mg base 1 "reached" (yY 5) ["links","start"] Vx:=by
 refine c6 g L7 ?_;rintro _ A _ _ H _ _ H3 _ hr ⟨x,L,t,rfl,hx,hL,k⟩;have M:=Pr.u1 hr;refine⟨_,(ak (aG 2 L7.nd (Fx zo eO))
   (ak (aG 3 L7.nd eO)
   (ak (jN x_ (cJ z4) (ak (aG 3 L7.nd eO)
    (ao (aV x_ rfl (Kl 0) (bH (n:=2) rfl (aF (aB 4 L7.nd) (aF (aB 5 L7.nd) bh))) (ao (bD (BG.pt (dw (oU M AD zt) (dm (lA M AI zt)))) (ak (jR M zt AI eO)
      (ao (aG 3 L7.nd eO))) aW))))))
   (ao (aJ zt))))),?_⟩
 walk_at "q";walk_at "h";walk_at "";intro p hp;walk_at "t";rw[UV];refine⟨λm Z H=>∃(F:List ap) (g:Bool) (I D:Option T),Z=[ab x,ab (.str t),ab (.ref p),ab (.bl g),I,D]/\H=eH H3 p (.dct (dF F))/\t∈F/\F.Nodup/\(∀z∈F,RT (λa b=>(a,b)∈L) t z)/\(g=am->∀a b,(a,b)∈L->a∈F->b∈F)/\m=2*(L.length+1 - F.length)+(if g then 1 else 0),
  ⟨_,[t],ag,af,af,rfl,rfl,n_,ze,(λz hz=>by rw[i_.mp hz];exact .refl),(λz=>nomatch z),rfl⟩,?_⟩
 have d:∀F:List ap,F.Nodup->(∀z∈F,RT (λa b=>(a,b)∈L) t z)->F.length<=L.length+1:=λF R hF=>by
  have:=lF (l:=F) (m:=t::L.map (·.2)) R λz hz=>by
   cases hF z hz with
   |refl=>exact n_
   |step _ r=>exact A_ _ (k_.mpr ⟨_,r,rfl⟩)
  simpa using this
 rintro m Z H ⟨F,g,I,D,rfl,rfl,hs,R,Y,hg,rfl⟩;walk_at "";cases g with
 |false=>simp only[H_,Y_];refine My.of gb.refl (k p _ hp λz=>?_);rw[nu,q_];exact⟨Y z,λh=>Yj hs (hg rfl) h⟩
 |true =>
  try simp only[if_true]
  have S:(∃a,x=.ref a/\eH H3 p (.dct (dF F)) a=ab (.lst (L.map AG)))\/x=.tup (L.map AG):=by
   rcases hx with ⟨a,rfl,e⟩ | e
   ·
    exact .inl ⟨a,rfl,by rw[aD (aR e hp)];exact e⟩
   ·
    exact .inr e
  refine Hy S λstill O=>?_
  have v:∀c,still (eH H3 p (.dct (dF c))):=by
   rcases O with rfl | ⟨a,rfl,e⟩
   ·
    exact λ_=>trivial
   ·
    have U:a≠p:=λz=>by subst z;rw[aC] at e;cases e
    rw[aD U] at e
    exact λc=>.inl (by rw[aD U];exact e)
  refine aN AG L (λA Z H=>∃(c:List ap) (g':Bool) (I D:Option T),Z=[ab x,ab (.str t),ab (.ref p),ab (.bl g'),I,D]/\H=eH H3 p (.dct (dF c))/\t∈c/\c.Nodup/\(∀z∈c,RT (λa b=>(a,b)∈L) t z)/\(g'=am->c=F/\∀o∈A,o.1∈F->o.2∈F)/\(g'=ag->F.length<c.length)) ⟨F,am,I,D,rfl,rfl,hs,R,Y,λ_=>⟨rfl,(λ_ h=>nomatch h)⟩,(λz=>nomatch z)⟩ ?_ ?_
  ·
   rintro Z H ⟨c,g',I,D,rfl,rfl,u,q,j,X,V⟩
   refine⟨v c,?_⟩
   have b1:=d F R Y
   have b2:=d c q j
   cases g' with
   |true =>
    have:=V rfl
    exact⟨_,by simp only[if_true];omega,c,ag,I,D,rfl,rfl,u,q,j,(λz=>nomatch z),rfl⟩
   |false =>
    obtain⟨e,hc⟩:=X rfl
    subst e
    exact⟨_,ze,c,am,I,D,rfl,rfl,u,q,j,λ_ a b G y=>hc (a,b) G y,rfl⟩
  ·
   rintro A ⟨a,b⟩ B Z H N e ⟨c,g',I,D,rfl,rfl,u,q,j,X,V⟩ hN
   refine⟨v c,?_⟩
   have G:(a,b)∈L:=by rw[e];simp
   have b2:=d c q j
   have l1:=nu a c
   have l2:=nu b c
   have l3:=UT c
   have no:¬(a∈c/\b∉c)->N [ab x,ab (.str t),ab (.ref p),ab (.bl g'),ab (.str a),ab (.str b)] (eH H3 p (.dct (dF c))):=λhno=>hN _ _ ⟨c,g',_,_,rfl,rfl,u,q,j,λhg'=>by
    obtain⟨e1,hc⟩:=X hg'
    subst e1
    refine⟨rfl,λo W=>?_⟩
    rcases F_.mp W with W | W
    ·
     exact hc o W
    ·
     rw[i_.mp W]
     intro y
     exact ib λC=>hno ⟨y,C⟩,V⟩
   have J:a∈c->b∉c->N [ab x,ab (.str t),ab (.ref p),ab (.bl ag),ab (.str a),ab (.str b)] (eH H3 p (.dct (AT b (T.bl ag) (dF c)))):=λy C=>by
    rw[UL C]
    refine hN _ _ ⟨c++[b],ag,_,_,rfl,rfl,Fa _ u,m5 q C,λz hz=>?_,(λz=>nomatch z),λ_=>?_⟩
    ·
     rcases F_.mp hz with hz | hz
     ·
      exact j z hz
     ·
      rw[i_.mp hz]
      exact .step (j a y) G
    ·
     rw[b_,E_]
     cases g' with
     |true=>have:=V rfl;omega
     |false=>obtain⟨e1,_⟩:=X rfl;subst e1;omega
   replace no:=g8.mk no
   replace J:=g8.mk J
   clear hN X V v O d k hx S hg Y j R q hs u e G
   simp only[AG]
   walk_at ""
   walk_at "t"
   by_cases y:a∈c
   ·
    simp only[y,EU,if_true]
    by_cases C:b∈c
    ·
     simp only[C,EU,E9,H_,Y_]
     exact no.out λz=>z.2 C
    ·
     simp only[C,ER,FB,if_true]
     exact⟨yT,J.out y C⟩
   ·
    simp only[y,ER,H_,Y_]
    exact no.out λz=>y z.1
abbrev iY:List ap:=["works","task"]
theorem Dr:fY iY iY (aA (yY 6)):=aZ
theorem Ds {f:ah} (g:G3 K mg "led_to" (yY 6) iY f m) (B:Bl mg) (c:R8 P w K mg base 1 "reached" (yY 5) ["links","start"] Vx) (b:R8 P w K mg base 1 "links_of" (yY 4) ["works"] Vw):R8 P w K mg base 2 "led_to" (yY 6) iY Vy:=by
 refine c6 g Dr ?_;rintro _ _ _ _ _ _ _ _ _ j ⟨W,t,rfl,l,k⟩;refine⟨_,(ao (aJ (aH c j rfl (aa (aH b j rfl (aa y8 aj)) (aa zo aj))))),?_⟩;walk_at "q";walk_at "";refine⟨W,rfl,l,λq n=>?_⟩;try dsimp only
 refine⟨_,HP ["with"] W,t,rfl,.inl ⟨q,rfl,aC⟩,U_ (Aj l) y6,λp kvs d u=>?_⟩;obtain⟨v,d⟩:=cA d;refine My.of (λa o e=>?_) (k p kvs d u);by_cases h:a=p
 .subst h;rw[aC] at e |-;exact e
 rw[aD h] at e |-;rw[aD (aR e n)];exact e
abbrev dY:List ap:=["works","task"]
theorem wF:fY dY dY (aA (yY 7)):=aZ
theorem wG {f:ah} (g:G3 K mg "led_from" (yY 7) dY f F) (B:Bl mg) (d:R8 P w K mg base 1 "reached" (yY 5) ["links","start"] Vx) (c:R8 P w K mg base 1 "links_of" (yY 4) ["works"] Vw):R8 P w K mg base 2 "led_from" (yY 7) dY Vz:=by
 refine c6 g wF ?_;rintro _ A _ s H _ _ H3 _ m ⟨W,t,rfl,I,k⟩;refine⟨_,(ao (aJ (aH d m rfl (aa (bx rfl (b6 7 dY ["one","other"] 2 []) (bJ (aH c m rfl (aa y8 aj))) (λY G s H R V=>⟨(bH (n:=2) rfl (aF (aB 0 (n7 ["one","other"])) (aF (aB 1 (n7 ["one","other"])) bh))),bG,(bc (aa zo (aa y8 aj)))⟩)) (aa zo aj))))),?_⟩;walk_at "q";walk_at "h";have X:=Aj (ws:=["with"]) I;walk_at "";refine⟨W,rfl,I,λq J=>?_⟩;try dsimp only
 rw[rA,aC,lX];walk_at "c";refine cP AG (HP ["with"] W) (λA y Z H=>H=eH H3 q (.lst ((HP ["with"] W).map AG))/\y=(A.map NV).map AG/\∃C x:Option T,Z=[C,x]) ⟨rfl,rfl,af,af,rfl⟩ ?_ ?_
 .rintro y Z H ⟨rfl,rfl,C,x,rfl⟩;refine⟨.inl aC,by rw[d_,d_];omega,λr m=>?_⟩;obtain⟨n0,u⟩:=cA m;refine⟨_,(HP ["with"] W).map NV,t,rfl,.inl ⟨r,rfl,aC⟩,by rw[d_];omega,λp kvs l M=>?_⟩;obtain⟨O,l⟩:=cA l;obtain⟨U,l⟩:=cA l;refine My.of (λa o e=>?_) (k p kvs l λz=>(M z).trans UW);by_cases h:a=p
  .subst h;rw[aC] at e |-;exact e
  rw[aD h] at e |-;rw[aD (aR e u),aD (aR e J)];exact e
 rintro A ⟨a,b⟩ B y Z H N e ⟨rfl,rfl,C,x,rfl⟩ D;have S:A.length<=52:=by have:=Q_ aT e;simp only[b_,j_] at this;omega
 refine⟨.inl aC,?_⟩;have j:=D (((A.map NV).map AG)++[AG (b,a)]) [ab (.str a),ab (.str b)] _ ⟨rfl,by rw[v_,v_];rfl,_,_,rfl⟩;replace j:=g8.mk j;clear D k e;simp only[AG] at j |-;walk_at "";exact⟨zC,yT,yT,j.out⟩
abbrev fG:List ap:=["works","found","other"]
theorem yP:fY fG fG (aA (yY 8)):=aZ
theorem yQ {f:ah} (g:G3 K mg "in_both" (yY 8) fG f q) (B:Bl mg):R8 P w K mg base 1 "in_both" (yY 8) fG Ze:=by
 refine c6 g yP ?_;rintro _ _ _ s H _ _ _ _ C ⟨⟨tk,j,AC,c⟩,a,b,m,d,rfl,I,V,R,k⟩;have l:=Pr.u1 C;refine⟨_,(ao (aJ (bu b7 rfl B.tuple_ bT (aa (bx rfl (b6 8 fG ["task","found","other"] 1 [1,2]) (bN (aK zD y8 au)) (λU r s H O S=>⟨(aB 0 (n7 ["task","found","other"])),(dR (BG.pt (dw (oU l (aK zD y8 au) zo) (dm (oU l (aK zD y8 au) zt))))),(aK zD y8 au)⟩)) aj)))),?_⟩;walk_at "q";walk_at "h";have L:tk.length<=8:=I.t8;walk_at "";walk_at "c";refine dz AE (λt=>yy t.1) (λt=>(aP t.1 m).isSome&&(aP t.1 d).isSome) tk [ab (.ref a),ab (.ref b)] trivial yT (λt D F n=>?_) (λt D J F n=>?_) (λp v=>?_)
 .obtain⟨nm,z,M⟩:=t;simp only[AE];dsimp only at n;cases y:(aP nm m).isSome <;> cases u:(aP nm d).isSome <;> simp only[y,u,NA,OH,E9,FB,ND,h9] at n <;> walk_at ""
 .simp only[AE];walk_at "";try exact n
 walk_at "";refine My.of (gb.new v) ?_;have e:(tk.filter λt=>(aP t.1 m).isSome&&(aP t.1 d).isSome).map (λt=>yy t.1)=((tk.map (·.1)).filter λx=>(aP x m).isSome&&(aP x d).isSome).map yy:=by rw[fR,L_];rfl
 rw[e];exact k
abbrev dC:List ap:=["works","task"]
theorem wH:fY dC dC (aA (yY 10)):=aZ
theorem wI {f:ah} (g:G3 K mg "group_of" (yY 10) dC f v) (B:Bl mg) (c:R8 P w K mg base 1 "in_both" (yY 8) ["works","found","other"] Ze) (d:R8 P w K mg base 2 "led_to" (yY 6) dC Vy) (b:R8 P w K mg base 2 "led_from" (yY 7) dC Vz):R8 P w K mg base 3 "group_of" (yY 10) dC Zg:=by
 refine c6 g wH ?_;rintro _ _ _ _ _ _ _ _ _ j ⟨W,t,rfl,l,k⟩;refine⟨_,(ao (aJ (aH c j rfl (aa y8 (aa (aH d j rfl (aa y8 (aa zo aj))) (aa (aH b j rfl (aa y8 (aa zo aj))) aj)))))),?_⟩;walk_at "q";walk_at "";refine⟨W,t,rfl,l,λp y z n=>?_⟩;try dsimp only
 refine⟨W,t,rfl,l,λq u C r=>?_⟩;obtain⟨F,i⟩:=cA C;try dsimp only
 refine⟨W,p,q,y,u,rfl,l,by rw[aD (aS F)];exact aC,aC,?_⟩;refine My.of (λa o e=>by rw[aD (aR e i),aD (aR e z)];exact e) ?_;rw[show (W.tasks.map (·.1)).filter (λx=>(aP x y).isSome&&(aP x u).isSome)=gM W t from ?_]
 .exact k
 unfold gM;refine IF λx G=>?_;rw[CA,CL,@q_ _ (ay _),n x,r x]
abbrev cz:List ap:=["works","found","other"]
theorem kh:fY cz cz (aA (yY 9)):=aZ
theorem kj {f:ah} (g:G3 K mg "in_first_alone" (yY 9) cz f q) (B:Bl mg):R8 P w K mg base 1 "in_first_alone" (yY 9) cz Zf:=by
 refine c6 g kh ?_;rintro _ _ _ s H _ _ _ _ C ⟨⟨tk,j,AC,c⟩,a,b,m,d,rfl,I,V,R,k⟩;have l:=Pr.u1 C;refine⟨_,(ao (aJ (bu b7 rfl B.tuple_ bT (aa (bx rfl (b6 9 cz ["task","found","other"] 1 [1,2]) (bN (aK zD y8 au)) (λU r s H O S=>⟨(aB 0 (n7 ["task","found","other"])),(dR (BG.pt (dw (oU l (aK zD y8 au) zo) (dm (lA l (aK zD y8 au) zt))))),(aK zD y8 au)⟩)) aj)))),?_⟩;walk_at "q";walk_at "h";have L:tk.length<=8:=I.t8;walk_at "";walk_at "c";refine dz AE (λt=>yy t.1) (λt=>(aP t.1 m).isSome&&!(aP t.1 d).isSome) tk [ab (.ref a),ab (.ref b)] trivial yT (λt D F n=>?_) (λt D J F n=>?_) (λp v=>?_)
 .obtain⟨nm,z,M⟩:=t;simp only[AE];dsimp only at n;cases y:(aP nm m).isSome <;> cases u:(aP nm d).isSome <;> simp only[y,u,NA,OH,E9,FB,ND,h9] at n <;> walk_at ""
 .simp only[AE];walk_at "";try exact n
 walk_at "";refine My.of (gb.new v) ?_;have e:(tk.filter λt=>(aP t.1 m).isSome&&!(aP t.1 d).isSome).map (λt=>yy t.1)=((tk.map (·.1)).filter λx=>(aP x m).isSome&&!(aP x d).isSome).map yy:=by rw[fR,L_];rfl
 rw[e];exact k
abbrev dD:List ap:=["works","task"]
theorem wJ:fY dD dD (aA (yY 11)):=aZ
theorem wK {f:ah} (g:G3 K mg "ahead_of" (yY 11) dD f v) (B:Bl mg) (b:R8 P w K mg base 1 "in_first_alone" (yY 9) ["works","found","other"] Zf) (c:R8 P w K mg base 2 "led_from" (yY 7) dD Vz) (d:R8 P w K mg base 2 "led_to" (yY 6) dD Vy):R8 P w K mg base 3 "ahead_of" (yY 11) dD Zh:=by
 refine c6 g wJ ?_;rintro _ _ _ _ _ _ _ _ _ j ⟨W,t,rfl,l,k⟩;refine⟨_,(ao (aJ (aH b j rfl (aa y8 (aa (aH c j rfl (aa y8 (aa zo aj))) (aa (aH d j rfl (aa y8 (aa zo aj))) aj)))))),?_⟩;walk_at "q";walk_at "";refine⟨W,t,rfl,l,λp y z n=>?_⟩;try dsimp only
 refine⟨W,t,rfl,l,λq u C r=>?_⟩;obtain⟨F,i⟩:=cA C;try dsimp only
 refine⟨W,p,q,y,u,rfl,l,by rw[aD (aS F)];exact aC,aC,?_⟩;refine My.of (λa o e=>by rw[aD (aR e i),aD (aR e z)];exact e) ?_;rw[show (W.tasks.map (·.1)).filter (λx=>(aP x y).isSome&&!(aP x u).isSome)=jG W t from ?_]
 .exact k
 unfold jG;refine IF λx G=>?_;rw[CA,CL,@q_ _ (ay _),n x,iS,<- Bool.not_eq_true,r x]
def Jg:Au:=λts H Q=>∃(W:Wk) (x:T) (a:List ap),ts=[W.enc,x]/\mz W/\Yl H x a/\Q (.int (y3 (W.tasks.map (·.1)) a)) H
def Jh:Au:=λts H Q=>∃(W:Wk) (n:Int),ts=[W.enc,.int n]/\mz W/\0<=n/\n<2^W.tasks.length/\Q (sT (AB (W.tasks.map (·.1)) n)) H
def Ji:Au:=λts H Q=>∃(a:List ap) (k:ap),ts=[sT a,.str k]/\Q (.bl (iJ a k)) H
def wL:Au:=λts H Q=>∃a b:Int,ts=[.int a,.int b]/\Q (.bl (decide (a5 a b=b))) H
def Qs:Au:=λts H Q=>∃(W:Wk) (t:ap),ts=[W.enc,.str t]/\mz W/\∀p,H p=af->Q (.ref p) (eH H p (.lst ((j0 W t).map yy)))
def Qt:Au:=λts H Q=>∃W:Wk,ts=[W.enc]/\mz W/\∀p,H p=af->Q (.ref p) (eH H p (.lst (W.tasks.map (B5 W (W.tasks.map (·.1))))))
def Qu:Au:=λts H Q=>∃(W:Wk) (a:ah) (eG:Int) (b:ap) (D S:List ap),ts=[.ref a,.int eG,.str b,.int (y3 (W.tasks.map (·.1)) D),.int (y3 (W.tasks.map (·.1)) S)]/\mz W/\H a=ab (.lst (W.tasks.map (B5 W (W.tasks.map (·.1)))))/\Q (.bl (yz W eG b D S)) H
abbrev mG:List ap:=["works","tasks","number","worth","task"]
theorem MU:fY mG ["works","tasks"] (aA (yY 1)):=aZ
theorem uE {f:ah} (g:G3 K mg "number_of" (yY 1) ["works","tasks"] f o) (B:Bl mg):R8 P w K mg base 1 "number_of" (yY 1) ["works","tasks"] Jg:=by
 refine c6 g MU ?_;rintro _ A _ _ H _ _ H3 _ r ⟨⟨tk,c,AC,b⟩,x,d,rfl,C,y,k⟩;have j:=Pr.u31 r;refine⟨_,(ak (aG 2 MU.nd au)
   (ak (aG 3 MU.nd au)
   (ak (aV x_ rfl (bN (aK zD y8 au)) (aB 4 MU.nd) (ak (bD (aU (q9 j) (aK zD AD au) zo rfl) (ao (aG 2 MU.nd (aL bf zt z4))) aW)
    (ao (aG 3 MU.nd (aL ik z4 au)))))
   (ao (aJ zt))))),?_⟩
 walk_at "q";walk_at "h";have D:tk.length<=8:=C.t8;walk_at "";refine aN AE tk (λA Z H=>∃v:Option T,H=H3/\Z=[ab (yA [yA (tk.map AE),yA (c.map AG),yA (AC.map AW),yA (b.map yy)]),ab x,ab (.int (y3 (A.map (·.1)) d)),ab (.int (2^A.length)),v]) ⟨af,rfl,rfl⟩ ?_ ?_
 .rintro Z H ⟨v,rfl,rfl⟩;walk_at "t";walk_at "";exact My.of gb.refl k
 rintro A t B Z H N e ⟨v,rfl,rfl⟩ m;have z:A.length+1<=8:=by have:=Q_ aT e;simp only[b_,j_] at this;omega
 have G:0<(2:Int)^A.length/\(2:Int)^A.length<=256:=by
  have:A.length=0\/A.length=1\/A.length=2\/A.length=3\/A.length=4\/A.length=5\/A.length=6\/A.length=7:=by omega
  rcases this with e | e | e | e | e | e | e | e <;> rw[e] <;> decide
 have p:Lv (2^A.length) 2:=.inl ⟨yT,yT⟩;have a:∀v,N [ab (yA [yA (tk.map AE),yA (c.map AG),yA (AC.map AW),yA (b.map yy)]),ab x,ab (.int (y3 (A.map (·.1)) d+2^A.length*(if t.1∈d then 1 else 0))),ab (.int (2^A.length*2)),v] H:=λv=>by have:=m [ab (yA [yA (tk.map AE),yA (c.map AG),yA (AC.map AW),yA (b.map yy)]),ab x,ab (.int (y3 ((A++[t]).map (·.1)) d)),ab (.int (2^(A++[t]).length)),v] H ⟨v,rfl,rfl⟩;rw[show (2:Int)^(A++[t]).length=2^A.length*2 by rw[b_,E_,FU],v_,z_,DH,pA,d_] at this;exact this
 replace a:=g8.mk a;obtain⟨nm,q,F⟩:=t;walk_at "t";clear m e k;simp only[AE,sT];walk_at "";refine Mf y ?_;by_cases n:nm∈d
 .simp only[n,EU,if_true,H_,Y_,gJ,Int.mul_one] at a |-;exact⟨by first | trivial | exact p,a.out _⟩
 simp only[n,ER,if_true,H_,Y_,gJ,Int.mul_zero,qf] at a |-;exact⟨by first | trivial | exact p,a.out _⟩
abbrev dj:List ap:=["kinds","kind"]
theorem pM:fY dj dj (aA (yY 13)):=aZ
theorem pN {f:ah} (g:G3 K mg "may_be_done" (yY 13) dj f j) (B:Bl mg):R8 P w K mg base 1 "may_be_done" (yY 13) dj Ji:=by
 refine c6 g pM ?_;rintro _ _ _ _ _ _ _ _ _ i ⟨a,b,rfl,k⟩;have d:=Pr.u30 i;have c:=Pr.u31 i;refine⟨_,(ao (aJ (Ny (du (cL d) (aQ b8 rfl B.len_ cg (aa y8 aj)) au) (lr (du (q9 c) zo y8 rfl))))),?_⟩;rw[show aM dj [sT a,yy b]=[ab (yA (a.map yy)),ab (yy b)] from rfl];have n:pl 20 (yy b)=ag:=rfl;have o:=fc a;have m:di am (yy b) (a.map yy)=decide (b∈a):=by unfold di;have:(yy b∈a.map yy)↔b∈a:=gF iy;simp only[this];simp
 walk_at "";unfold iJ at k;cases a with
 |nil=>simp only[EU,qA,FR,if_true] at k |-;exact My.of gb.refl k
 |cons y r =>
  have:¬(((r.length+1:Nat)):Int)=0:=by omega
  simp only[j_,this,ER,H_,Y_] at k |-
  exact⟨zC,zC,My.of gb.refl (by simpa using k)⟩
abbrev gR:List ap:=["number","part"]
theorem yR:fY gR gR (aA (yY 17)):=aZ
theorem yS {f:ah} (g:G3 K mg "has_all" (yY 17) gR f e) (B:Bl mg):R8 P w K mg base 1 "has_all" (yY 17) gR wL:=by
 refine c6 g yR ?_;rintro _ _ _ _ _ _ _ _ _ i ⟨a,b,rfl,k⟩;have c:=Pr.u30 i;refine⟨_,(ao (aJ (du (cL c) (aL xZ y8 zo) zo))),?_⟩;walk_at "q";walk_at "";exact My.of gb.refl k
abbrev cZ:List ap:=["works","task"]
theorem qx:fY cZ cZ (aA (yY 15)):=aZ
theorem qy {f:ah} (g:G3 K mg "apart_from" (yY 15) cZ f y) (B:Bl mg):R8 P w K mg base 1 "apart_from" (yY 15) cZ Qs:=by
 refine c6 g qx ?_;rintro _ A _ s H _ _ H3 _ L ⟨⟨tk,m,AC,j⟩,t,rfl,R,k⟩;have c:=Pr.u30 L;refine⟨_,(ao (aJ (bx rfl (b6 15 cZ ["word","one","other","task"] 3 [1]) (bN (aK zD y8 au)) (λX C s H S U=>⟨(bH (n:=3) rfl (aF (aB 0 (n7 ["word","one","other","task"])) (aF (aB 1 (n7 ["word","one","other","task"])) (aF (aB 2 (n7 ["word","one","other","task"])) bh)))),(dR (BG.pt (dw (aU (cL c) y8 cT) (dm (aU (cL c) zo z4))))),zt⟩)))),?_⟩;walk_at "q";walk_at "h";have O:AC.length<=12:=R.ps;walk_at "";walk_at "c";refine cP AW AC (λA v Z H=>H=H3/\v=((A.filter λp=>decide (p.1=("apart":ap))&&decide (p.2.1=t)).map (·.2.2)).map yy/\∃x u q:Option T,Z=[x,u,q,ab (.str t)]) ⟨rfl,rfl,af,af,af,rfl⟩ ?_ ?_
 .rintro v Z H ⟨rfl,rfl,x,u,q,rfl⟩;refine⟨zC,?_,λp I=>My.of gb.refl (k p I)⟩;rw[d_,d_];exact U_ (DA _ _) yT
 rintro A ⟨w,a,b⟩ B v Z H N e ⟨rfl,rfl,x,u,q,rfl⟩ o;have J:A.length<=12:=by have:=Q_ aT e;simp only[b_,j_] at this;omega
 have V:((A.filter λp=>decide (p.1=("apart":ap))&&decide (p.2.1=t)).map (·.2.2)).length<=12:=by rw[d_];exact U_ (DA _ _) J
 walk_at "t";have G:g8 (w="apart"/\a=t->N (((A.filter λp=>decide (p.1=("apart":ap))&&decide (p.2.1=t)).map (·.2.2)).map yy++[yy b]) [ab (.str w),ab (.str a),ab (.str b),ab (.str t)] H):=⟨λh=>o _ _ _ ⟨rfl,by rw[Ki];simp [h],_,_,_,rfl⟩⟩;have D:g8 (¬(w="apart"/\a=t)->N (((A.filter λp=>decide (p.1=("apart":ap))&&decide (p.2.1=t)).map (·.2.2)).map yy) [ab (.str w),ab (.str a),ab (.str b),ab (.str t)] H):=⟨λh=>o _ _ _ ⟨rfl,by rw[Ki];simp [h],_,_,_,rfl⟩⟩;generalize ((A.filter λp=>decide (p.1=("apart":ap))&&decide (p.2.1=t)).map (·.2.2))=F at *;clear o k e;simp only[AW];walk_at "";walk_at "t";by_cases d:w="apart"
 .simp only[d,EU,if_true];by_cases l:a=t
  .simp only[l,EU,if_true];have:=G.out ⟨d,l⟩;rw[d,l] at this;exact⟨yT,this⟩
  simp only[l,ER,H_,Y_];have:=D.out λz=>l z.2;rw[d] at this;exact this
 simp only[d,ER,H_,Y_];exact D.out λz=>d z.1
abbrev pO:List ap:=["works","number","tasks","left","task"]
theorem OG:fY pO ["works","number"] (aA (yY 2)):=aZ
theorem wM {f:ah} (g:G3 K mg "tasks_of" (yY 2) ["works","number"] f C) (B:Bl mg):R8 P w K mg base 1 "tasks_of" (yY 2) ["works","number"] Jh:=by
 refine c6 g OG ?_;rintro _ A q _ H _ _ H3 _ I ⟨⟨tk,c,AC,b⟩,n,rfl,O,n0,S,k⟩;have m:=Pr.u30 I;refine⟨_,(ak (aG 2 OG.nd (bI aj))
   (ak (aG 3 OG.nd zo)
   (ak (aV x_ rfl (bN (aK zD y8 au)) (aB 4 OG.nd) (ak (bD (aU (cL m) (aL dX z4 au) au) (ao (bM (cW J_ R_ S_ bB zt (aa (aK zD AD au) aj)))) aW)
    (ao (aG 3 OG.nd (aL eZ z4 au)))))
   (ao (aJ (bu b7 rfl B.tuple_ bT (aa zt aj))))))),?_⟩
 walk_at "q";walk_at "h";have R:tk.length<=8:=O.t8;walk_at "";refine⟨yT,λp F=>?_⟩;refine m6 (λr Z H=>∃(A B:List (ap × Int × List ap)) (v:Option T),tk=A++B/\r=B.map AE/\H=eH H3 p (.lst ((AB (A.map (·.1)) n).map yy))/\Z=[ab (yA [yA (tk.map AE),yA (c.map AG),yA (AC.map AW),yA (b.map yy)]),ab (.int n),ab (.ref p),ab (.int (n / 2^A.length)),v]) ⟨[],tk,af,rfl,rfl,rfl,ze⟩ ?_ ?_
 .rintro Z H ⟨A,B,v,j,e,rfl,rfl⟩;have L:B=[]:=MG.mp e.symm;subst L;rw[X_] at j;subst j;clear e;walk_at "t";walk_at "";exact My.of (gb.new F) k
 rintro x r Z H N ⟨A,B,v,j,e,rfl,rfl⟩ z;cases B with
 |nil=>cases e
 |cons t B =>
 rw[z_,LV] at e;obtain⟨rfl,rfl⟩:=e;have M:A.length+1<=8:=by have:=Q_ aT j;simp only[b_,j_] at this;omega
 have d:=vV (A.map (·.1)) [t.1] n;simp only[AB,d_] at d;have u:=Aw (A.map (·.1)) n;rw[d_] at u;have l:n / 2^A.length / 2=n / 2^(A++[t]).length:=by rw[b_,E_,FU,kg (Int.le_of_lt (Int.pow_pos y6))]
 have a:∀v,N [ab (yA [yA (tk.map AE),yA (c.map AG),yA (AC.map AW),yA (b.map yy)]),ab (.int n),ab (.ref p),ab (.int (n / 2^A.length / 2)),v] (eH H3 p (.lst ((AB (A.map (·.1)++[t.1]) n).map yy))):=λv=>by rw[l];exact z _ _ ⟨A++[t],B,v,by rw[j];simp,rfl,ze,rfl⟩
 rw[d] at a;replace a:=g8.mk a;obtain⟨nm,o,G⟩:=t;walk_at "t";clear z j k d l;simp only[AE,sT];walk_at "";try simp only[true_and]
 refine⟨y6,?_⟩;by_cases D:n / 2^A.length%2=1
 .simp only[D,if_true,EU] at a |-;refine⟨yT,?_⟩;have y:=a.out (ab (yA [yy nm,yv o,yA (G.map yy)]));rw[v_] at y;exact⟨⟨y6,Ap⟩,y⟩
 simp only[D,Y_,ER,H_,X_] at a |-;exact⟨⟨y6,Ap⟩,a.out _⟩
abbrev iG:List ap:=["works","beat","many","table","stands","evens"]
theorem P7:fY iG ["works","beat","many"] (aA (yY 30)):=aZ
theorem qz {f:ah} (g:G3 K mg "even_table" (yY 30) ["works","beat","many"] f fd) (B:Bl mg) (I_Walk:Fh K l ["works","beat","rules","whole"]) (I:NJ P w K mg base l 5 "Walk" ["self","works","beat"] (MP l)) (c:R8 P w K mg base 5 "evens_by_stands" (yY 29) ["walk","many"] (Vo l)) (v:R8 P w K mg base 1 "tasks_of" (yY 2) ["works","number"] Jh):R8 P w K mg base 7 "even_table" (yY 30) ["works","beat","many"] Zb:=by
 refine c6 g P7 ?_;rintro _ A _ s H _ _ H3 _ hr ⟨W,eG,m,rfl,hW,t5,hm,kk⟩;have hu1:=Pr.u1 hr;refine⟨_,(ak (aG 3 P7.nd (bI aj))
   (ak (aV x_ rfl (Gb rfl B.enumerate_ (aH c hr rfl (aa (tW I (hr.mono y6) rfl (aa y8 (aa zo aj))) (aa zt aj)))) (bH (n:=2) rfl (aF (aB 4 P7.nd) (aF (aB 5 P7.nd) bh))) (ao (bM (cW J_ i9 i8 Ce z4 (aa (bx rfl (b6 30 iG ["done","stands","works","evens"] 1 [4,0,5]) (bJ (aQ (Lq hr) rfl B.sorted_ rH (aa AI aj))) (λcl ZO s H C0 fp=>⟨(aB 0 (n7 ["done","stands","works","evens"])),bG,(bc (aa zo (aa (aH v hr rfl (aa zt (aa y8 aj))) (aa (aK zD (jX hu1 z4 y8) au) aj))))⟩)) aj)))))
   (ao (aJ z4)))),?_⟩
 walk_at "q";walk_at "h";have t8:=hW.t8;have r8:=hW.r8;have t32:zd W<=32:=KW (n:=2) y6 t5;have k':=g8.mk kk;have L:=g8.mk hW;clear kk hW;walk_at "s";refine⟨y6,λt hpt=>?_⟩;walk_at "n";refine aq λR1 hR1=>?_;walk_at "";intro a ha;have gt0:eH H3 t (.lst []) t=ab (.lst []):=aC;have nta:t≠a:=aR gt0 ha;refine⟨a,W,eG,rfl,L.out,aC,λH4 kp hw=>⟨rfl,?_⟩⟩;have sb4:gb (eH H3 t (.lst [])) H4:=λb u r=>kp b u (aR r ha) (by rw[aD (aR r ha)];exact r);refine⟨a,W,eG,m,rfl,L.out,hw,hm,λH5 p as q sb2 hl gp hs gq=>?_⟩;have sb5:=sb4.trans sb2;have D:=sb5 _ _ gt0;have sb3:∀b u,H3 b=ab u->H5 b=ab u:=λb u r=>sb5 b u (by rw[aD (aR r hpt)];exact r);clear sb4 sb2 hw kp nta gt0 sb5 ha;rw[<- hl] at gq;have gp':H5 p=ab (.lst ((as++[q]).map yB)):=by rw[gp,v_];rfl
 have hen:∀(j:Nat) (b:ah),(as++[q])[j]?=ab b->_:=λj b r=>Zp hs gq r;have C:(as++[q]).length=m+1:=by rw[b_,hl];rfl
 clear gp hs gq hl;generalize as++[q]=bs at *;have npt:p≠t:=Nl gp' D λz=>by have:=Q_ aT (O3.lst.inj z);rw[d_,C] at this;cases this
 have U:=g8.mk D;clear D;walk_at "";have D:=U.out;clear U;refine ji yB bs (λA Z H=>∃(v4 v5:Option T),Z=[ab W.enc,ab (.int eG),ab (.int (m:Int)),ab (.ref t),v4,v5]/\(∀b u,b≠t->H5 b=ab u->H b=ab u)/\H t=ab (.lst (j8 W eG A.length))) ⟨_,_,rfl,λ_ _ _ h=>h,D⟩ ?_ ?_
 .rintro Z H ⟨v4,v5,rfl,kb,gt⟩;refine⟨.inl (kb p _ npt gp'),?_⟩;rw[C] at gt;walk_at "n";walk_at "";refine My.of (λb u r=>?_) (k'.out t hpt);by_cases e:b=t
  .subst e;rw[aC] at r;rw[gt,<- r]
  rw[aD e] at r;exact kb b u e (sb3 _ _ r)
 rintro A x B Z H N e ⟨v4,v5,rfl,kb,gt⟩ hN;refine⟨.inl (kb p _ npt gp'),?_⟩;have hx:bs[A.length]?=ab x:=by rw[e,M_ (l_ _),pz];rfl
 have hA:A.length<m+1:=by have:=Q_ aT e;rw[C,b_,j_] at this;omega
 obtain⟨u,J,hsi,hdg,hnl⟩:=hen A.length x hx;have nxt:x≠t:=λz=>by rw[z,D] at J;exact hnl _ (T_ J).symm
 have gu:=kb x u nxt J;have hE:=(iU (W:=W) (eG:=eG) (show A.length<=W.row.length by omega)).eok L.out;have dl:(dI AH (AM W eG A.length)).length<64:=by rw[yJ];have:=hE.len;omega
 have S:∀d∈GH W ((AM W eG A.length).map (·.1)),d<zd W/\∃fs,cX (d:Int) (dI AH (AM W eG A.length))=ab (.tup [.int ((bK d (AM W eG A.length)).getD (0,[])).1,.tup fs]):=λd hd=>by unfold GH at hd;obtain⟨V,M⟩:=D_.mp hd;obtain⟨e,he,rfl⟩:=k_.mp (DB M);rw[jk,nH hE.nd (show (e.1,e.2)∈_ from he)];exact⟨K_.mp V,_,rfl⟩
 have klen:=Iv W ((AM W eG A.length).map (·.1));have hdu:j8 W eG (A.length+1)=j8 W eG A.length++(GH W ((AM W eG A.length).map (·.1))).map λd=>Md W A.length d ((bK d (AM W eG A.length)).getD (0,[])).1:=by unfold j8;rw[sC,mB];simp [N0]
 have dlen:(j8 W eG A.length).length<=9*32:=by unfold j8;rw[List.length_flatMap];have:=Bf (λk=>(N0 W k (AM W eG k)).length) 32 (λk=>by unfold N0;rw[d_];exact U_ (Iv _ _) t32) (ae A.length);rw[m_] at this;omega
 have eks:∀us:List Int,us.Perm ((dI AH (AM W eG A.length)).map (·.1))->us.Pairwise (λx y=>GO.kle x y)->us=_:=λus V M=>Vu hE.nd (λe he=>(hE.lt e he).1) V M;have fN:g8 (∀v4 v5 H',(∀b u,b≠t->H5 b=ab u->H' b=ab u)->H' t=ab (.lst (j8 W eG A.length++(GH W ((AM W eG A.length).map (·.1))).map λd=>Md W A.length d ((bK d (AM W eG A.length)).getD (0,[])).1))->N [ab W.enc,ab (.int eG),ab (.int (m:Int)),ab (.ref t),v4,v5] H'):=⟨λv4 v5 H' V M=>hN _ _ ⟨_,_,rfl,V,by rw[b_,E_,hdu];exact M⟩⟩;clear hN hdu hE hnl J hen hR1 e k' C;have O:=g8.mk eks;clear eks;walk_at "";refine⟨zC,⟨zC,zC⟩,by first | trivial | exact dl,λus V M X G=>?_⟩;have eus:=O.out us V M;subst eus;rw[L_];clear O V M hsi dl;generalize GH W ((AM W eG A.length).map (·.1))=R at *;generalize AM W eG A.length=E1 at *;generalize j8 W eG A.length=D0 at *;have nts:t≠X:=aR gt G;have gu8:eH H X (.lst (R.map (yv ∘ λ(d:Nat)=>(d:Int)))) x=ab u:=(gb.new G) _ _ gu;have gt8:eH H X (.lst (R.map (yv ∘ λ(d:Nat)=>(d:Int)))) t=ab (.lst D0):=(gb.new G) _ _ gt;have gs8:eH H X (.lst (R.map (yv ∘ λ(d:Nat)=>(d:Int)))) X=ab (.lst (R.map (yv ∘ λ(d:Nat)=>(d:Int)))):=aC;have Y:∀b u,b≠t->H5 b=ab u->eH H X (.lst (R.map (yv ∘ λ(d:Nat)=>(d:Int)))) b=ab u:=λb u r h=>(gb.new G) _ _ (kb b u r h);generalize eH H X (.lst (R.map (yv ∘ λ(d:Nat)=>(d:Int))))=H8 at gu8 gt8 gs8 Y |-;clear gu gt kb G;walk_at "c";refine bO (yv ∘ λ(d:Nat)=>(d:Int)) (λd=>Md W A.length d ((bK d E1).getD (0,[])).1) R [ab (.int (A.length:Int)),ab W.enc,ab (.ref x)] (.inl gs8) yT (λd hd Q' hq=>?_) (λpn hpn=>?_)
 .obtain⟨hd1,fs,hd2⟩:=S d hd;have hq':=g8.mk hq;clear hq fN S gt8 gs8 Y;simp only[Function.comp];walk_at "";refine⟨W,(d:Int),rfl,L.out,yT,?_,?_⟩
  .unfold zd at hd1;exact_mod_cast hd1
  walk_at "";exact⟨y6,hq'.out⟩
 have gt9:=(gb.new (o:=.lst (R.map λd=>Md W A.length d ((bK d E1).getD (0,[])).1)) hpn) _ _ gt8;rw[gt9,Oi];refine⟨by rw[d_];omega,fN.out _ _ _ (λb u r h=>?_) ?_⟩
 .rw[aD r];exact (gb.new hpn) _ _ (Y b u r h)
 rw[aC]
abbrev cu:List ap:=["works","dealing"]
theorem pP:fY cu cu (aA (yY 45)):=aZ
theorem pQ {f:ah} (g:G3 K mg "tasks_fault" (yY 45) cu f n) (B:Bl mg) (b:R8 P w K mg base 1 "number_fault" (yY 37) cu YW) (a:R8 P w K mg base 2 "strange_fault" (yY 38) cu Dp) (c:R8 P w K mg base 2 "twice_fault" (yY 39) ["dealing"] Qm) (d:R8 P w K mg base 2 "lost_fault" (yY 40) cu Dp):R8 P w K mg base 3 "tasks_fault" (yY 45) cu Dp:=by
 refine c6 g pP ?_;rintro _ _ _ _ _ _ _ _ _ j ⟨W,D,rfl,m,o,l⟩;refine⟨_,(ao (aJ (jD (aH b j rfl (aa y8 (aa zo aj))) (jD (aH a j rfl (aa y8 (aa zo aj))) (jD (aH c j rfl (aa zo aj)) (lr (aH d j rfl (aa y8 (aa zo aj))))))))),?_⟩;walk_at "q";walk_at "h";have q:=g8.mk l;clear l;have e:=g8.mk o;have i:=g8.mk m;clear m o;walk_at "";refine⟨W,D,rfl,e.out.rw,?_⟩;try dsimp only
 show _;refine⟨W,D,rfl,i.out,e.out,?_⟩;refine⟨W,D,rfl,i.out,e.out,?_⟩;exact⟨W,D,rfl,i.out,e.out,My.of gb.refl q.out⟩
abbrev dZ:List ap:=["works","beat","dealing"]
theorem wN:fY dZ dZ (aA (yY 46)):=aZ
theorem wO {f:ah} (g:G3 K mg "fault_of" (yY 46) dZ f q) (B:Bl mg) (c:R8 P w K mg base 3 "tasks_fault" (yY 45) ["works","dealing"] Dp) (a:R8 P w K mg base 2 "order_fault" (yY 41) ["works","dealing"] Dq) (d:R8 P w K mg base 2 "pair_fault" (yY 42) ["works","dealing"] Dq) (i:R8 P w K mg base 2 "kind_fault" (yY 43) ["works","dealing"] Dq) (e:R8 P w K mg base 3 "beat_fault" (yY 44) dZ M8):R8 P w K mg base 4 "fault_of" (yY 46) dZ M8:=by
 refine c6 g wN ?_;rintro _ _ _ _ _ _ _ _ _ m ⟨W,eG,D,rfl,p,r,t,o⟩;refine⟨_,(ao (aJ (jD (aH c m rfl (aa y8 (aa zt aj))) (jD (aH a m rfl (aa y8 (aa zt aj))) (jD (aH d m rfl (aa y8 (aa zt aj))) (jD (aH i m rfl (aa y8 (aa zt aj))) (lr (aH e m rfl (aa y8 (aa zo (aa zt aj))))))))))),?_⟩;walk_at "q";walk_at "h";have v:=g8.mk o;clear o;have k:=g8.mk r;have j:=g8.mk p;have l:=g8.mk t;clear p r t;walk_at "";refine⟨W,D,rfl,j.out,k.out,?_⟩;refine⟨W,eG,D,rfl,j.out,k.out,l.out,?_⟩;refine⟨W,eG,D,rfl,j.out,k.out,l.out,?_⟩;refine⟨W,eG,D,rfl,j.out,k.out,l.out,?_⟩;exact⟨W,eG,D,rfl,j.out,k.out,l.out,My.of gb.refl v.out⟩
abbrev iI:List ap:=["works","dealing","names","text"]
theorem Se:fY iI ["works","dealing"] (aA (yY 38)):=aZ
theorem lM {f:ah} (g:G3 K mg "strange_fault" (yY 38) ["works","dealing"] f G) (B:Bl mg) (a:R8 P w K mg base 1 "names_of" (yY 23) ["tasks"] Mv) (b:R8 P w K mg base 1 "texts_of" (yY 35) ["dealing"] Vi):R8 P w K mg base 2 "strange_fault" (yY 38) ["works","dealing"] Dp:=by
 refine c6 g Se ?_;rintro _ A _ s H _ _ H3 _ n ⟨W,D,rfl,y,u,z⟩;have d:=Pr.u31 n;refine⟨_,(ak (aG 2 Se.nd (aH a n rfl (aa (aK zD y8 au) aj)))
   (ak (aV x_ rfl (bJ (aH b n rfl (aa zo aj))) (aB 3 Se.nd) (ao (bD (aU (oM d) z4 zt rfl) (ao (aJ (bc (aa cT (aa z4 aj))))) aW)))
   (ao (aJ cG)))),?_⟩
 walk_at "q";walk_at "h";have U:=g8.mk z;clear z;have L:=y.t8;have Y:=u.f8 y;have j:=g8.mk u.st;clear y u;walk_at "s";refine⟨W.tasks,rfl,L,λp F=>?_⟩;walk_at "n";refine aq λV l=>?_;walk_at "";refine⟨D,rfl,yT,λq k=>?_⟩;have I:gb H3 (eH (eH H3 p (.lst ((W.tasks.map (·.1)).map yy))) q (.lst (D.flatten.map yy))):=(gb.new F).trans (gb.new k);have O:eH (eH H3 p (.lst ((W.tasks.map (·.1)).map yy))) q (.lst (D.flatten.map yy)) p=ab (.lst ((W.tasks.map (·.1)).map yy)):=(gb.new (o:=.lst (D.flatten.map yy)) k) _ _ aC;have m:eH (eH H3 p (.lst ((W.tasks.map (·.1)).map yy))) q (.lst (D.flatten.map yy)) q=ab (.lst (D.flatten.map yy)):=aC;generalize eH (eH H3 p _) q _=S at I O m |-;clear F k;generalize W.tasks.map (·.1)=ns at *;walk_at "";refine aN yy D.flatten (λA Z H=>(∃v:Option T,Z=[ab W.enc,ab (.tup (D.map sT)),ab (.ref p),v])/\H=S) ⟨⟨_,rfl⟩,rfl⟩ ?_ ?_
 .rintro Z H ⟨⟨v,rfl⟩,rfl⟩;refine⟨.inl m,?_⟩;walk_at "n";walk_at "";exact My.of I U.out
 rintro A x B Z H N e ⟨⟨v,rfl⟩,rfl⟩ C;have J:=fc ns;have c:x∈ns:=j.out x (by rw[e];simp);have r:=g8.mk λv=>C _ H ⟨⟨v,rfl⟩,rfl⟩;clear C e l;refine⟨.inl m,?_⟩;walk_at "";refine⟨rfl,zC,?_⟩;rw[YH,y9 (by simp [c])];exact r.out _
abbrev ju:List ap:=["dealing","ahead","task"]
theorem SV:fY ju ["dealing"] (aA (yY 39)):=aZ
theorem pR {f:ah} (g:G3 K mg "twice_fault" (yY 39) ["dealing"] f S) (B:Bl mg) (a:R8 P w K mg base 1 "texts_of" (yY 35) ["dealing"] Vi):R8 P w K mg base 2 "twice_fault" (yY 39) ["dealing"] Qm:=by
 refine c6 g SV ?_;rintro _ A _ s H _ _ H3 _ V ⟨W,D,rfl,X,G,M⟩;have m:=Pr.u1 V;refine⟨_,(ak (aG 1 SV.nd m7)
   (ak (aV x_ rfl (bJ (aH a V rfl (aa y8 aj))) (aB 2 SV.nd) (ak (bD (oU m zt zo) (ao (aJ (bc (aa cT (aa zt aj))))) aW)
    (ao (jR m zo zt eO))))
   (ao (aJ cG)))),?_⟩
 walk_at "q";walk_at "h";have k':=g8.mk M;clear M;have f8:=G.f8 X;have J:=g8.mk G.nd;clear X G;walk_at "s";intro p R;walk_at "n";refine aq λR1 d=>?_;walk_at "";refine⟨D,rfl,yT,λq n=>?_⟩;have k:p≠q:=aR aC n;generalize I:D.flatten=xs at *;have t:H3 q=af:=by rw[aD (aS k)] at n;exact n
 have r:∀o:O3,eH (eH (eH H3 p (.dct [])) q (.lst (xs.map yy))) p o q=ab (.lst (xs.map yy)):=λo=>by rw[aD (aS k)];exact aC
 have Y:∀o:O3,gb H3 (eH (eH (eH H3 p (.dct [])) q (.lst (xs.map yy))) p o):=λo b u h=>by rw[aD (aR h R),aD (aR h t),aD (aR h R)];exact h
 have C:eH (eH H3 p (.dct [])) q (.lst (xs.map yy))=eH (eH (eH H3 p (.dct [])) q (.lst (xs.map yy))) p (.dct (dB [])):=by
  funext b;by_cases U:b=p
  .subst U;rw[aC,aD k,aC];rfl
  rw[aD U]
 have L:=r (.dct (dB []));rw[<- C] at L;have j:=g8.mk d;have l:=g8.mk C;clear d C;walk_at "";rw[l.out];clear l;generalize eH (eH H3 p (.dct [])) q (.lst (xs.map yy))=H5 at *;refine aN yy xs (λA Z H=>(∃v:Option T,Z=[ab (.tup (D.map sT)),ab (.ref p),v])/\H=eH H5 p (.dct (dB A))) ⟨⟨_,rfl⟩,rfl⟩ ?_ ?_
 .rintro Z H ⟨⟨v,rfl⟩,rfl⟩;refine⟨.inl (r _),?_⟩;obtain⟨⟨d⟩⟩:=j;subst d;walk_at "";exact My.of (Y _) k'.out
 rintro A x B Z H N e ⟨⟨v,rfl⟩,rfl⟩ O;have hlA:A.length<8:=by have:=Q_ aT e;simp only[b_,j_] at this;omega
 have c:x∉A:=λz=>by have:=J.out;rw[e,L8] at this;exact this.2.2 x z x n_ rfl
 have d1:=Qh x A;have d2:=Vg A;have d3:=Vf c;have y:=g8.mk λv=>O _ _ ⟨⟨v,rfl⟩,rfl⟩;clear O e j I L;refine⟨.inl (r _),?_⟩;walk_at "";exact⟨yT,y.out _⟩
abbrev km:List ap:=["works","dealing","stands","name"]
theorem SE:fY km ["works","dealing"] (aA (yY 40)):=aZ
theorem qC {f:ah} (g:G3 K mg "lost_fault" (yY 40) ["works","dealing"] f M) (B:Bl mg) (a:R8 P w K mg base 1 "stands_of" (yY 36) ["dealing"] Mu) (b:R8 P w K mg base 1 "names_of" (yY 23) ["tasks"] Mv):R8 P w K mg base 2 "lost_fault" (yY 40) ["works","dealing"] Dp:=by
 refine c6 g SE ?_;rintro _ A _ s H _ _ H3 _ t ⟨W,D,rfl,d,C,I⟩;have G:=Pr.u1 t;refine⟨_,(ak (aG 2 SE.nd (aH a t rfl (aa zo aj)))
   (ak (aV x_ rfl (bJ (aH b t rfl (aa (aK zD y8 au) aj))) (aB 3 SE.nd) (ao (bD (lA G z4 zt) (ao (aJ (bc (aa cT (aa z4 aj))))) aW)))
   (ao (aJ cG)))),?_⟩
 walk_at "q";walk_at "h";have k':=g8.mk I;clear I;have S:=d.t8;have f8:=C.f8 d;have j:=g8.mk C;have X:=g8.mk d;clear d C;walk_at "s";refine⟨D,rfl,yT,λp L=>?_⟩;have y:eH H3 p (.dct (dN (kD D) (fD D))) p=ab (.dct (dN (kD D) (fD D))):=aC;have m:gb H3 (eH H3 p (.dct (dN (kD D) (fD D)))):=gb.new L;generalize eH H3 p (.dct (dN (kD D) (fD D)))=F at m y |-;have lk:g8 (∀n∈W.tasks.map (·.1),aP n (dN (kD D) (fD D))=ab (.int (fD D n:Int))):=⟨λn R=>eN (Sz.mpr (j.out.al n R))⟩;clear L;walk_at "n";refine aq λR1 l=>?_;walk_at "";refine⟨W.tasks,rfl,S,λq k=>?_⟩;have c:gb H3 (eH F q (.lst ((W.tasks.map (·.1)).map yy))):=m.trans (gb.new k);have r:eH F q (.lst ((W.tasks.map (·.1)).map yy)) q=ab (.lst ((W.tasks.map (·.1)).map yy)):=aC;have O:=(gb.new (o:=.lst ((W.tasks.map (·.1)).map yy)) k) _ _ y;generalize eH F q (.lst ((W.tasks.map (·.1)).map yy))=V at c r O |-;clear k y m;walk_at "";refine aN yy (W.tasks.map (·.1)) (λA Z H=>(∃v:Option T,Z=[ab W.enc,ab (.tup (D.map sT)),ab (.ref p),v])/\H=V) ⟨⟨_,rfl⟩,rfl⟩ ?_ ?_
 .rintro Z H ⟨⟨v,rfl⟩,rfl⟩;refine⟨.inl r,?_⟩;walk_at "n";walk_at "";exact My.of c k'.out
 rintro A x B Z H N e ⟨⟨v,rfl⟩,rfl⟩ J;have d1:=lk.out x (by rw[e];simp);have u:=g8.mk λv=>J _ H ⟨⟨v,rfl⟩,rfl⟩;clear J e l;refine⟨.inl r,?_⟩;walk_at "";try rw[y9 ze]
 exact u.out _
abbrev jw:List ap:=["works","dealing","stands","one","other"]
theorem Pc:fY jw ["works","dealing"] (aA (yY 41)):=aZ
theorem pU {f:ah} (g:G3 K mg "order_fault" (yY 41) ["works","dealing"] f F) (B:Bl mg) (a:R8 P w K mg base 1 "stands_of" (yY 36) ["dealing"] Mu):R8 P w K mg base 2 "order_fault" (yY 41) ["works","dealing"] Dq:=by
 refine c6 g Pc ?_;rintro _ A _ s H _ _ H3 _ d ⟨W,eG,D,rfl,u,r,I,v⟩;have c:=Pr.u1 d;refine⟨_,(ak (aG 2 Pc.nd (aH a d rfl (aa zo aj)))
   (ak (aV x_ rfl (bN (aK zD y8 au)) (bH (n:=2) rfl (aF (aB 3 Pc.nd) (aF (aB 4 Pc.nd) bh))) (ao (bD (aU vg (cD c zt z4) (cD c zt AD)) (ao (aJ (bc (aa cT (aa z4 (aa AD aj)))))) aW)))
   (ao (aJ cG)))),?_⟩
 walk_at "q";walk_at "h";have U:=g8.mk v;clear v;have d:=g8.mk I.ord;clear I;have f8:=r.f8 u;have j:=g8.mk r;have t:=g8.mk u;clear u r;walk_at "s";refine⟨D,rfl,yT,λp C=>?_⟩;have O:eH H3 p (.dct (dN (kD D) (fD D))) p=ab (.dct (dN (kD D) (fD D))):=aC;have G:gb H3 (eH H3 p (.dct (dN (kD D) (fD D)))):=gb.new C;generalize eH H3 p (.dct (dN (kD D) (fD D)))=S at G O |-;have J:g8 (∀n∈W.tasks.map (·.1),aP n (dN (kD D) (fD D))=ab (.int (fD D n:Int))):=⟨λn L=>eN (Sz.mpr (j.out.al n L))⟩;clear C;walk_at "n";refine aq λV l=>?_;walk_at "";refine aN AG W.orders (λA Z H=>(∃v3 b:Option T,Z=[ab W.enc,ab (.tup (D.map sT)),ab (.ref p),v3,b])/\H=S) ⟨⟨_,_,rfl⟩,rfl⟩ ?_ ?_
 .rintro Z H ⟨⟨v3,b,rfl⟩,rfl⟩;walk_at "t";walk_at "n";walk_at "";exact My.of G U.out
 rintro A ⟨x,y⟩ B Z H N e ⟨⟨v3,b,rfl⟩,rfl⟩ z;have k:(x,y)∈W.orders:=by rw[e];simp
 have q:=t.out.oo _ k;have l1:=J.out x q.2.1;have Y:=J.out y q.2.2;have ho:fD D x<=fD D y:=d.out _ k;have m:=g8.mk λv3 b=>z _ H ⟨⟨v3,b,rfl⟩,rfl⟩;clear z e l k q;walk_at "t";simp only[AG];walk_at "";walk_at "t";rw[y9 (by rw[q_];omega)];exact m.out _ _
abbrev kE:List ap:=["works","dealing","stands","word","one","other"]
theorem OP:fY kE ["works","dealing"] (aA (yY 42)):=aZ
theorem qD {f:ah} (g:G3 K mg "pair_fault" (yY 42) ["works","dealing"] f J) (B:Bl mg) (a:R8 P w K mg base 1 "stands_of" (yY 36) ["dealing"] Mu):R8 P w K mg base 2 "pair_fault" (yY 42) ["works","dealing"] Dq:=by
 refine c6 g OP ?_;rintro _ A t s H _ _ H3 _ c ⟨W,eG,D,rfl,C,u,O,F⟩;have b:=Pr.u30 c;have k:=Pr.u1 c;refine⟨_,(ak (aG 2 OP.nd (aH a c rfl (aa zo aj)))
   (ak (aV x_ rfl (bN (aK zD y8 au)) (bH (n:=3) rfl (aF (aB 3 OP.nd) (aF (aB 4 OP.nd) (aF (aB 5 OP.nd) bh)))) (ao (bD (aU (jO b) (du (cL b) (cD k zt AD) (cD k zt AI)) (du (cL b) z4 cT)) (ao (aJ (bc (aa z4 (aa AD (aa AI aj)))))) aW)))
   (ao (aJ cG)))),?_⟩
 walk_at "q";walk_at "h";have k':=g8.mk F;clear F;have c:=g8.mk O.pai;clear O;have f8:=u.f8 C;have l:=g8.mk u;have v:=g8.mk C;clear C u;walk_at "s";refine⟨D,rfl,yT,λp I=>?_⟩;have V:eH H3 p (.dct (dN (kD D) (fD D))) p=ab (.dct (dN (kD D) (fD D))):=aC;have L:gb H3 (eH H3 p (.dct (dN (kD D) (fD D)))):=gb.new I;generalize eH H3 p (.dct (dN (kD D) (fD D)))=H4 at L V |-;have R:g8 (∀n∈W.tasks.map (·.1),aP n (dN (kD D) (fD D))=ab (.int (fD D n:Int))):=⟨λn S=>eN (Sz.mpr (l.out.al n S))⟩;clear I;walk_at "n";refine aq λR1 o=>?_;walk_at "";refine aN AW W.pairs (λA Z H=>(∃v3 j d:Option T,Z=[ab W.enc,ab (.tup (D.map sT)),ab (.ref p),v3,j,d])/\H=H4) ⟨⟨_,_,_,rfl⟩,rfl⟩ ?_ ?_
 .rintro Z H ⟨⟨v3,j,d,rfl⟩,rfl⟩;walk_at "t";walk_at "n";walk_at "";exact My.of L k'.out
 rintro A ⟨z,x,y⟩ B Z H N e ⟨⟨v3,j,d,rfl⟩,rfl⟩ G;have m:(z,x,y)∈W.pairs:=by rw[e];simp
 have q:=v.out.pp _ m;have l1:=R.out x q.2.2.1;have l2:=R.out y q.2.2.2;have M:fD D x=fD D y↔z="with":=c.out _ m;have r:=g8.mk λv3 j d=>G _ H ⟨⟨v3,j,d,rfl⟩,rfl⟩;clear G e o m q;walk_at "t";have ed:decide (((fD D x:Nat):Int)=((fD D y:Nat):Int))=decide (z="with"):=by rw[MI,<- M];omega
 clear M;simp only[AW];walk_at "";walk_at "t";generalize decide (z=("with":ap))=X at *;cases X <;> exact r.out _ _ _
abbrev iH:List ap:=["works","dealing","kinds","stand","tasks","task"]
theorem OQ:fY iH ["works","dealing"] (aA (yY 43)):=aZ
theorem qF {f:ah} (g:G3 K mg "kind_fault" (yY 43) ["works","dealing"] f fd) (B:Bl mg) (a:R8 P w K mg base 1 "may_be_done" (yY 13) ["kinds","kind"] Ji):R8 P w K mg base 2 "kind_fault" (yY 43) ["works","dealing"] Dq:=by
 refine c6 g OQ ?_;rintro _ A _ s H _ _ H3 _ hr ⟨W,eG,D,rfl,u,J,hR,V⟩;have U:=Pr.u1 hr;refine⟨_,(ak (aG 2 OQ.nd (bu (K6 rfl) rfl B.dict_ Mr (aa (bx rfl (b6 43 iH ["task"] 1 []) (bN (aK zD y8 au)) (λcl ZO s H C0 fp=>⟨(aB 0 (n7 ["task"])),bG,(bc (aa (aK zD y8 au) (aa (aK zD y8 au) aj)))⟩)) aj)))
   (ak (aV x_ rfl (oX rfl B.enumerate_ zo) (bH (n:=2) rfl (aF (aB 3 OQ.nd) (aF (aB 4 OQ.nd) bh))) (ao (aV x_ rfl (bN AD) (aB 5 OQ.nd) (ao (bD (gZ (cJ (aH a hr rfl (aa (cD U zt AI) (aa (aK zD (aK zD y8 au) z4) aj))))) (ao (aJ (bc (aa cT (aa AI (aa z4 aj)))))) aW)))))
   (ao (aJ cG)))),?_⟩
 walk_at "q";walk_at "h";have k':=g8.mk V;clear V;have t8:=u.t8;have hdr:=J.rw;have c:g8 (∀s∈D,∀n∈s,n∈W.tasks.map (·.1)):=⟨λs S=>(J.in S).2⟩;have hk:g8 (∀k s,D[k]?=ab s->∀n∈s,iJ (C2 W.tasks n) (W.row.getD k "")=ag):=⟨λk s e n d=>by
  obtain⟨t,z,rfl⟩:=k_.mp (c.out s (EW e) n d)
  rw[Aq u.nd z]
  exact hR.kin k s e t z d⟩
 have r:=g8.mk u.nd;clear J u hR;refine aq λR0 L=>?_;walk_at "";walk_at "c";refine bO AE (λt=>yA [.str t.1,sT t.2.2]) W.tasks [] trivial yT (λt z Q' hq=>?_) (λpc o=>?_)
 .have G:=g8.mk hq;clear hq k' L;simp only[AE];walk_at "";exact⟨y6,G.out⟩
 have M:tR (W.tasks.map λt=>yA [.str t.1,sT t.2.2])=ab (kN W.tasks):=vB (λt:ap × Int × List ap=>(t.1,sT t.2.2)) W.tasks;walk_at "";refine⟨by unfold kN;rw[L_];exact r.out,λp x=>?_⟩;have v:H3 p=af:=(cA x).2;generalize F:eH (eH H3 pc _) p (.dct (kN W.tasks))=R;have g1:R p=ab (.dct (kN W.tasks)):=by rw[<- F];exact aC
 have sb:gb H3 R:=by rw[<- F];exact (gb.new o).trans (gb.new x)
 clear F x M o v;walk_at "n";refine aq λR1 y=>?_;walk_at "";refine ji sT D (λA Z H=>(∃v3 q b:Option T,Z=[ab W.enc,ab (.tup (D.map sT)),ab (.ref p),v3,q,b])/\H=R) ⟨⟨_,_,_,rfl⟩,rfl⟩ ?_ ?_
 .rintro Z H ⟨⟨v3,q,b,rfl⟩,rfl⟩;walk_at "t";walk_at "n";walk_at "";exact My.of sb k'.out
 rintro A s B Z H N e ⟨⟨v3,q,b,rfl⟩,rfl⟩ Y;have hA:A.length<W.row.length:=by have:=Q_ aT e;simp only[b_,j_] at this;omega
 have O:D[A.length]?=ab s:=by rw[e,M_ (l_ _)];simp
 have S:g8 (∀n∈s,n∈W.tasks.map (·.1)/\iJ (C2 W.tasks n) (W.row.getD A.length "")=ag):=⟨λn d=>⟨c.out s (EW O) n d,hk.out _ s O n d⟩⟩;have x1:=yI hA;have m:=g8.mk λv3 q b=>Y _ H ⟨⟨v3,q,b,rfl⟩,rfl⟩;clear Y e y O hk c;walk_at "t";simp only[sT];walk_at "";try walk_at "t"
 refine aN yy s (λC Z H'=>(∃b:Option T,Z=[ab W.enc,ab (.tup (D.map sT)),ab (.ref p),ab (.int (A.length:Int)),ab (.tup (s.map yy)),b])/\H'=H) ⟨⟨_,rfl⟩,rfl⟩ ?_ ?_
 .rintro Z H ⟨⟨b,rfl⟩,rfl⟩;exact⟨zC,m.out _ _ _⟩
 rintro C n E' Z H N2 X ⟨⟨b,rfl⟩,rfl⟩ j;obtain⟨m1,m2⟩:=S.out n (by rw[X];simp);have l1:=Ao m1;have l:=g8.mk λb=>j _ H ⟨⟨b,rfl⟩,rfl⟩;clear j X m;walk_at "t";walk_at "";refine⟨C2 W.tasks n,W.row.getD A.length "",rfl,?_⟩;rw[m2];walk_at "";exact l.out _
abbrev kI:List ap:=["works","beat","dealing","stand","load"]
theorem To:fY kI ["works","beat","dealing"] (aA (yY 44)):=aZ
theorem qG {f:ah} (g:G3 K mg "beat_fault" (yY 44) ["works","beat","dealing"] f q) (B:Bl mg) (a:R8 P w K mg base 2 "loads_of" (yY 34) ["works","dealing"] Vd):R8 P w K mg base 3 "beat_fault" (yY 44) ["works","beat","dealing"] M8:=by
 refine c6 g To ?_;rintro _ A _ s H _ _ H3 _ y ⟨W,eG,D,rfl,l,r,t,o⟩;refine⟨_,(ak (aV x_ rfl (oX rfl B.enumerate_ (aH a y rfl (aa y8 (aa zt aj)))) (bH (n:=2) rfl (aF (aB 3 To.nd) (aF (aB 4 To.nd) bh))) (ao (bD (aU vg AD zo) (ao (aJ (bc (aa cT (aa z4 aj))))) aW)))
   (ao (aJ cG))),?_⟩
 walk_at "q";walk_at "h";have F:=g8.mk o;clear o;have v:=l.t8;have u:D.length<=8:=U_ r.rw l.r8;have x:g8 (∀s∈D,ld W.tasks s<=eG):=⟨λs C=>by rw[nA];exact t.bea s C⟩;clear r l t;refine aq λG m=>?_;walk_at "";refine⟨W,D,rfl,v,u,?_⟩;walk_at "";rw[L_];refine ji (yv ∘ ld W.tasks) D (λA Z H=>(∃v3 d:Option T,Z=[ab W.enc,ab (.int eG),ab (.tup (D.map sT)),v3,d])/\H=H3) ⟨⟨_,_,rfl⟩,rfl⟩ ?_ ?_
 .rintro Z H ⟨⟨v3,d,rfl⟩,rfl⟩;walk_at "t";walk_at "n";walk_at "";exact My.of gb.refl F.out
 rintro A s B Z H N e ⟨⟨v3,d,rfl⟩,rfl⟩ p;have c:=x.out s (by rw[e];simp);have j:=g8.mk λv3 d=>p _ H ⟨⟨v3,d,rfl⟩,rfl⟩;clear p e m;walk_at "t";simp only[Function.comp];walk_at "";try walk_at "t"
 rw[y9 (by rw[q_];omega)];exact j.out _ _
abbrev fH:List ap:=["works","tasks"]
theorem yU:fY fH fH (aA (yY 33)):=aZ
theorem yV {f:ah} (g:G3 K mg "load_of" (yY 33) fH f o) (B:Bl mg):R8 P w K mg base 1 "load_of" (yY 33) fH YC:=by
 refine c6 g yU ?_;rintro _ _ _ s H _ _ H3 Q u ⟨⟨tk,b,AC,c⟩,ns,rfl,l,k⟩;have a:=Pr.u31 u;refine⟨_,(ao (aJ (aQ (lu rfl) rfl B.sum_ lw (aa (bx rfl (b6 33 fH ["name","length","kinds","tasks"] 3 [1]) (bN (aK zD y8 au)) (λC m s H D z=>⟨(bH (n:=3) rfl (aF (aB 0 (n7 ["name","length","kinds","tasks"])) (aF (aB 1 (n7 ["name","length","kinds","tasks"])) (aF (aB 2 (n7 ["name","length","kinds","tasks"])) bh)))),(dR (aU (q9 a) y8 z4 rfl)),zo⟩)) aj)))),?_⟩;walk_at "q";walk_at "h";have q:Q (.int (ld tk ns)) H3:=k;clear k;replace l:tk.length<=8:=l;walk_at "";walk_at "c";refine oY (λt:ap × Int × List ap=>.str t.1) (λt=>.int t.2.1) (λt=>.tup (t.2.2.map yy)) (λt=>.int t.2.1) (λt=>di am (.str t.1) (ns.map yy)) tk [ab (.tup (ns.map yy))] trivial yT (λt y v d=>?_) (λt y _ v d=>d) ?_
 .clear q;walk_at "";exact⟨rfl,fc ns,by first | trivial | exact d⟩
 intro p r;have e:zv ((tk.filter (λt=>di am (.str t.1) (ns.map yy))).map (λt=>yv t.2.1))=ab ((tk.filter (λt=>di am (.str t.1) (ns.map yy))).map (·.2.1)):=by rw[<- cN,L_];rfl
 rw[e,iu];exact My.of (gb.new r) q
abbrev d7:List ap:=["works","dealing"]
theorem wQ:fY d7 d7 (aA (yY 34)):=aZ
theorem wR {f:ah} (g:G3 K mg "loads_of" (yY 34) d7 f l) (B:Bl mg) (a:R8 P w K mg base 1 "load_of" (yY 33) ["works","tasks"] YC):R8 P w K mg base 2 "loads_of" (yY 34) d7 Vd:=by
 refine c6 g wQ ?_;rintro q _ _ s H _ _ H3 Q p ⟨⟨tk,c,AC,b⟩,D,rfl,d,t,k⟩;refine⟨_,(ao (aJ (bu b7 rfl B.tuple_ bT (aa (bx rfl (b6 34 d7 ["tasks","works"] 1 [0]) (bN zo) (λz m s H v y=>⟨(aB 0 (n7 ["tasks","works"])),bG,(aH a p rfl (aa zo (aa y8 aj)))⟩)) aj)))),?_⟩;walk_at "q";walk_at "h";have n:Q (.tup ((D.map (ld tk)).map yv)) H3:=k;clear k;replace d:tk.length<=8:=d;walk_at "";walk_at "c";refine bO sT (λns=>.int (ld tk ns)) D [ab (yA [yA (tk.map AE),yA (c.map AG),yA (AC.map AW),yA (b.map yy)])] trivial yT (λns r x o=>?_) (λu j=>?_)
 .exact⟨⟨tk,c,AC,b⟩,ns,rfl,d,o⟩
 walk_at "";rw[L_] at n;exact My.of (gb.new j) n
abbrev pW:List ap:=["dealing","texts","tasks"]
theorem SH:fY pW ["dealing"] (aA (yY 35)):=aZ
theorem wU {f:ah} (g:G3 K mg "texts_of" (yY 35) ["dealing"] f j) (B:Bl mg):R8 P w K mg base 1 "texts_of" (yY 35) ["dealing"] Vi:=by
 refine c6 g SH ?_;rintro n A _ s H _ _ H3 _ t ⟨D,rfl,u,k⟩;refine⟨_,(ak (aG 1 SH.nd (bI aj))
   (ak (aV x_ rfl (bN y8) (aB 2 SH.nd) (ao (bM (cW J_ i9 i8 yg zo (aa zt aj)))))
   (ao (aJ zo)))),?_⟩
 walk_at "q";walk_at "h";have l:=g8.mk k;clear k;walk_at "s";refine⟨y6,λp m=>?_⟩;walk_at "n";refine aq λr c=>?_;walk_at "";refine aN sT D (λA Z H=>∃v:Option T,Z=[ab (.tup (D.map sT)),ab (.ref p),v]/\H=eH H3 p (.lst (A.flatten.map yy))) ⟨_,rfl,rfl⟩ ?_ ?_
 .rintro Z H ⟨v,rfl,rfl⟩;walk_at "t";walk_at "n";walk_at "";exact My.of gb.refl (l.out p m)
 rintro A s B Z H N e ⟨v,rfl,rfl⟩ d;have z:A.flatten.length+s.length<=1000:=by have:=Q_ (λx=>x.flatten.length) e;simp only[wg,b_] at this;omega
 have q:(A++[s]).flatten.map yy=A.flatten.map yy++s.map yy:=ze
 have a:=g8.mk d;clear d e l c;walk_at "t";simp only[sT];walk_at "";refine⟨by first | trivial | exact⟨zC,zC⟩,?_⟩;exact⟨yT,a.out _ _ ⟨_,rfl,by rw[q]⟩⟩
abbrev mH:List ap:=["dealing","stands","stand","tasks","task"]
theorem N4:fY mH ["dealing"] (aA (yY 36)):=aZ
theorem uF {f:ah} (g:G3 K mg "stands_of" (yY 36) ["dealing"] f z) (B:Bl mg):R8 P w K mg base 1 "stands_of" (yY 36) ["dealing"] Mu:=by
 refine c6 g N4 ?_;rintro _ A q s H _ _ H3 _ J ⟨D,rfl,Y,k⟩;have r:=Pr.u1 J;refine⟨_,(ak (aG 1 N4.nd m7)
   (ak (aV x_ rfl (oX rfl B.enumerate_ y8) (bH (n:=2) rfl (aF (aB 2 N4.nd) (aF (aB 3 N4.nd) bh))) (ao (aV x_ rfl (bN z4) (aB 4 N4.nd) (ao (jR r zo AD zt)))))
   (ao (aJ zo)))),?_⟩
 walk_at "q";walk_at "h";have F:=g8.mk k;clear k;walk_at "s";intro p I;walk_at "n";refine aq λO m=>?_;walk_at "";refine ji sT D (λA Z H=>∃(o v3 a:Option T),Z=[ab (.tup (D.map sT)),ab (.ref p),o,v3,a]/\H=eH H3 p (.dct (dN (kD A) (fD A)))) ⟨_,_,_,rfl,rfl⟩ ?_ ?_
 .rintro Z H ⟨o,v3,a,rfl,rfl⟩;walk_at "t";walk_at "n";walk_at "";exact My.of gb.refl (F.out p I)
 rintro A s B Z H N e ⟨o,v3,a,rfl,rfl⟩ y;have hs:A.flatten.length+s.length<=1000:=by have:=Q_ (λx=>x.flatten.length) e;simp only[wg,b_] at this;omega
 have t:=Ms A s;have v:=Am A s;have W:=Ve A;have j:=g8.mk y;have b:=g8.mk t;have l:=g8.mk v;clear y e F m t v;walk_at "t";simp only[sT];walk_at "";try walk_at "t"
 refine aN yy s (λC Z H=>∃(a:Option T),Z=[ab (.tup (D.map sT)),ab (.ref p),ab (.int (A.length:Int)),ab (.tup (s.map yy)),a]/\H=eH H3 p (.dct (dN (EG (kD A) C) (mR A.length (fD A) C)))) ⟨_,rfl,rfl⟩ ?_ ?_
 .rintro Z H ⟨a,rfl,rfl⟩;exact⟨zC,j.out _ _ ⟨_,_,_,rfl,by rw[b.out,l.out]⟩⟩
 rintro C n U Z H N2 u ⟨a,rfl,rfl⟩ c;have S:C.length<s.length:=by have:=Q_ aT u;simp only[b_,j_] at this;omega
 have G:=Mt (EG (kD A) C) (mR A.length (fD A) C) n A.length;rw[<- HW,<- HX] at G;have X:=HR (EG (kD A) C) (mR A.length (fD A) C);have V:=CB C (kD A);have d:=g8.mk c;clear c j u b l;walk_at "t";walk_at "";exact⟨yT,d.out _ _ ⟨_,rfl,rfl⟩⟩
abbrev cY:List ap:=["works","dealing"]
theorem mV:fY cY cY (aA (yY 37)):=aZ
theorem mW {f:ah} (g:G3 K mg "number_fault" (yY 37) cY f c) (B:Bl mg):R8 P w K mg base 1 "number_fault" (yY 37) cY YW:=by
 refine c6 g mV ?_;rintro _ _ _ _ _ _ _ _ _ _ ⟨W,D,rfl,d,b⟩;refine⟨_,(ak (bD (aU vg (aQ b8 rfl B.len_ cg (aa zo aj)) (aQ b8 rfl B.len_ cg (aa (aK zD y8 au) aj))) (ao (aJ (bc (aa cT (aa (aQ b8 rfl B.len_ cg (aa zo aj)) aj))))) aW)
   (ao (aJ cG))),?_⟩
 walk_at "q";walk_at "h";have i:=g8.mk b;clear b;walk_at "";rw[y9 (by simpa using d)];exact My.of gb.refl i.out
abbrev mJ:List ap:=["works","beat","many","walk","evens","even"]
theorem P4:fY mJ ["works","beat","many"] (aA (yY 31)):=aZ
theorem uG {f:ah}{V:de} (g:G3 K mg "most_even" (yY 31) ["works","beat","many"] f V) (B:Bl mg) (j:Fh K c ["works","beat","rules","whole"]) (k:NJ P w K mg base c 5 "Walk" ["self","works","beat"] (MP c)) (d:R8 P w K mg base 5 "evens_by_stands" (yY 29) ["walk","many"] (Vo c)) (e:F8 P w K mg base c 2 "dealing_of" ["self","fillings"] (Vm c)):R8 P w K mg base 7 "most_even" (yY 31) ["works","beat","many"] YQ:=by
 refine c6 g P4 ?_;rintro _ _ _ s _ E _ H3 _ x ⟨W,eG,m,rfl,z,U,S⟩;have C:=Pr.u1 x;refine⟨_,(ak (aG 3 P4.nd (tW k (x.mono y6) rfl (aa y8 (aa zo aj))))
   (ak (aG 4 P4.nd (aK zD (aH d x rfl (aa z4 (aa zt aj))) (oW au)))
   (ak (bD (jE C (fW j z4) AD) (ao (aJ cG)) aW)
   (ak (aG 5 P4.nd (jX C AD (fW j z4)))
   (ao (aJ (bc (aa (aK zD AI au) (aa (jg e (x.mono y6) z4 (aa (aK zD AI au) aj)) aj))))))))),?_⟩
 walk_at "q";walk_at "h";have O:=g8.mk S;clear S;have t1:=j5 W;walk_at "s";intro a R;refine⟨a,W,eG,rfl,z,aC,λH4 Y L=>⟨rfl,?_⟩⟩;have X:gb H3 H4:=λb u I=>Y b u (aR I R) (by rw[aD (aR I R)];exact I);clear Y R;walk_at "n";walk_at "s";refine⟨a,W,eG,m,rfl,z,L,U,λH5 p as q n hl gp hs gq=>?_⟩;have D:=L.sub n;have y:=X.trans n;clear n X L hs;have x1:AA (as.map yB++[yB q]) (-1)=ab (yB q):=uO _ _;walk_at "";walk_at "n";obtain⟨Z,gw,_⟩:=D.ex;have f4:=pI (W:=W) (eG:=eG) (p:=Z);have lm:=rZ (W:=W) (eG:=eG) (p:=Z) (m:="dealing_of") Ap;have r:=jk AH (zd W - 1) (AM W eG m);have ec:((zd W - 1:Nat):Int)=(zd W:Int) - 1:=yT
 rw[ec] at r;have l:=O.out;unfold EH at l;have o:=iU (W:=W) (eG:=eG) U;have x:=z.r8;refine aq λR2 G=>?_;cases F:bK (zd W - 1) (AM W eG m) with
 |none=>rw[F] at r l;rw[fA] at r;have M:=g8.mk l;clear O l G o;walk_at "";simp only[nL,FB,if_true];exact My.of y M.out
 |some v =>
 obtain⟨_,t,J⟩:=(o.eok z).lt _ (dJ F);have hb4:v.2.length<=m:=t;clear t;rw[F] at r l;rw[FF] at r;simp only[AH] at r;have M:=g8.mk l;clear O l o F;generalize AM W eG m=E at *;walk_at "";simp only[QN,E9,H_,Y_];walk_at "n";walk_at "s";walk_at "n";walk_at "";refine⟨by first | trivial | exact lm,a,W,eG,v.2,rfl,z,D,by show v.2.length<=8;omega,J,?_⟩;try walk_at ""
 exact⟨y6,My.of y M.out⟩
theorem VQ (e:Z7 X k tk) (d:Z7 X v a):Z7 X (.List [.Dict [ab k] [v] b] c) (zr (sZ (jW tk a) zq)):=bI (aa (rF e d) aj)
theorem XA (i:Nat) {x:ap}{b a f g:kc}{k v:Expr}{tk c:zS} (e:X.N.Nodup) (m:Z7 X k tk) (j:Z7 X v c) (l:X.N[i]?=ab x) (d:HM X.env.scope x) (h:X.fn x=ag\/X.env.scope.names.lookup x=ab .local):D3 X (.Assign [.Name x a] (.List [.Dict [ab k] [v] f] g) b) (uY (zr (sZ (jW tk c) zq)) (eX i)):=aG _ e (VQ m j) l d rfl h
abbrev gH:List ap:=["walk","many","steps","stand"]
theorem Sb:fY gH ["walk","many"] (aA (yY 29)):=aZ
theorem jJ {f:ah} (g:G3 K mg "evens_by_stands" (yY 29) ["walk","many"] f fd) (B:Bl mg) (c:R8 P w K mg base 4 "evens_behind" (yY 28) ["walk","stand","evens"] (YM C_Walk)):R8 P w K mg base 5 "evens_by_stands" (yY 29) ["walk","many"] (Vo C_Walk):=by
 refine c6 g Sb ?_;rintro _ A _ s H _ _ H3 _ hr ⟨a,W,eG,m,rfl,X,hw,hm,kk⟩;refine⟨_,(@ak _ _ _ _ _ (@XA _ 2 _ _ _ _ _ _ _ _ _ Sb.nd au (bc (aa au (aa (bc aj) aj))) rfl (by first | exact hG rfl | exact e4 rfl) (by first | exact .inl rfl | exact .inr rfl | assumption))
   (ak (aV x_ rfl (aX rfl B.range_ (aa zo aj)) (aB 3 Sb.nd) (ao (bM (cW J_ R_ S_ bB zt (aa (aH c hr rfl (aa y8 (aa z4 (aa (aK zD zt z4) aj)))) aj)))))
   (ao (aJ zt)))),?_⟩
 walk_at "q";walk_at "h";have k':=g8.mk kk;clear kk;have r8:W.row.length<=8:=X.r8;walk_at "s";intro k F;refine⟨y6,y6,zC,y6,λp z=>?_⟩;have e0:([(0,yA [yv 0,yA []])]:List (Int × T))=dI AH (AM W eG 0):=rfl;rw[e0] at z |-;have n0:k≠p:=aR aC z;have V:H3 p=af:=by rw[aD (aS n0)] at z;exact z
 have x:gb H3 (eH (eH H3 k (.dci (dI AH (AM W eG 0)))) p (.lst [yB k])):=(gb.new F).trans (gb.new z);have v:eH (eH H3 k (.dci (dI AH (AM W eG 0)))) p (.lst [yB k]) p=ab (.lst (([]:List ah).map yB++[yB k])):=aC;have t:eH (eH H3 k (.dci (dI AH (AM W eG 0)))) p (.lst [yB k]) k=ab (.dci (dI AH (AM W eG 0))):=by rw[aD n0];exact aC
 generalize eH (eH H3 k (.dci (dI AH (AM W eG 0)))) p (.lst [yB k])=H4 at x v t |-;clear e0 z n0;walk_at "n";refine aq λR1 R=>?_;walk_at "";refine⟨zC,yT,yT,?_⟩;rw[fX];refine aN (λ(j:Nat)=>yv (j:Int)) (ae m) (λA Z H=>∃(l:List ah) (q:ah) (v3:Option T),Z=[ab (.ref a),ab (.int (m:Int)),ab (.ref p),v3]/\gb H3 H/\H3 q=af/\l.length=A.length/\H p=ab (.lst (l.map yB++[yB q]))/\Vn W eG H l/\H q=ab (.dci (dI AH (AM W eG A.length)))) ⟨[],k,_,rfl,x,F,rfl,v,(λj a e=>by simp at e),t⟩ ?_ ?_
 .rintro Z H ⟨l,q,v3,rfl,D,hq,J,C,Y,y⟩;walk_at "t";rw[m_] at J y;walk_at "n";walk_at "";exact My.of gb.refl (k'.out H p l q D J C Y y)
 rintro A j B Z H N e ⟨l,q,v3,rfl,D,hq,J,C,Y,y⟩ hN;walk_at "t";have hA:A.length<m:=by have:=Q_ aT e;simp only[b_,j_,m_] at this;omega
 have hj:j=A.length:=by
  have h1:(ae m)[A.length]?=ab j:=by rw[e,M_ (l_ _)];simp
  rw[CI hA] at h1;exact (T_ h1).symm
 subst hj;have x1:AA (l.map yB++[yB q]) (A.length:Int)=ab (yB q):=bQ (by rw[M_ (by rw[d_];omega),d_,J];simp);have S:=g8.mk hN;clear hN e k' R x v t;walk_at "";refine⟨⟨zC,zC⟩,a,q,W,eG,A.length,A.length,AM W eG A.length,rfl,X,hw.sub D,yT,yT,(iU yT).eok X,y,λo M r=>?_⟩;have I:p≠q:=Nl C y ze;have G:p≠M:=aR C r;have O:q≠M:=aR y r;have g1:eH (eH H q (.dif o (dI AH (AM W eG A.length)))) M (.dci (dI AH (QP W eG A.length (AM W eG A.length)))) p=ab (.lst (l.map yB++[yB q])):=by rw[aD G,aD I];exact C
 try dsimp only
 rw[g1,Oh];refine⟨by rw[b_,d_];simp;omega,S.out _ _ ⟨l++[q],M,_,rfl,λb u d=>?_,cM D r,by rw[b_,b_,J];rfl,?_,λi b d=>?_,?_⟩⟩
 .rw[aD (aR d V),aD (aR (D b u d) r),aD (aR d hq)];exact D b u d
 .rw[aC,v_];rfl
 .by_cases hi:i<l.length
  .rw[FV hi] at d;obtain⟨ob,L⟩:=Y i b d;refine⟨ob,?_⟩;rw[aD (Nl L C ze),aD (aR L r),aD (Nl L y ze)];exact L
  rw[M_ yT] at d;have h0:i - l.length=0:=by
   cases hz:i - l.length with
   |zero=>rfl
   |succ n=>rw[hz] at d;simp at d
  rw[h0] at d;simp only[KA,Na] at d;subst d;refine⟨o,?_⟩;rw[aD (aS I),aD O,aC,show i=A.length by omega]
 rw[aD (aS G),aC,b_];rfl
abbrev iZ:List ap:=["walk","stand","evens","behind","done","even","filling","least","onward"]
theorem LY:fY iZ ["walk","stand","evens"] (aA (yY 28)):=aZ
theorem mX {f:ah} (g:G3 K mg "evens_behind" (yY 28) ["walk","stand","evens"] f fd) (B:Bl mg) (I_Walk:Fh K d ["works","beat","rules","whole"]) (r:F8 P w K mg base d 3 "fillings_at" ["self","stand","done"] (Vl d)) (x:F8 P w K mg base d 2 "load_at" ["self","number"] (Qk d)):R8 P w K mg base 4 "evens_behind" (yY 28) ["walk","stand","evens"] (YM d):=by
 refine c6 g LY ?_;rintro _ A _ s H E _ H3 _ hr ⟨a,q,W,eG,k,n,E,rfl,hW,hw,hk,hn,hE,hq,kk⟩;have U:=Pr.u1 hr;refine⟨_,(ak (aG 3 LY.nd vH)
   (ak (aV x_ rfl (vI zt) (bH (n:=2) rfl (aF (aB 4 LY.nd) (aF (aB 5 LY.nd) bh))) (ao (aV x_ rfl (bJ (jg r (hr.mono y6) y8 (aa zo (aa AD aj)))) (aB 6 LY.nd) (ak (aG 7 LY.nd (aL bf (aK zD AI au) (aL La (jg x (hr.mono y6) y8 (aa BU aj)) au)))
     (ak (aG 8 LY.nd (aL bf AD BU))
     (ao (bD (BG.pt (lV (jE U BN z4) (lq (aU vf BO (aK zD (jX U z4 BN) au))))) (ao (GZ U z4 BN (bc (aa BO (aa (aL bf (aK zD AI au) (bc (aa BU aj))) aj))))) aW)))))))
   (ao (aJ z4)))),?_⟩
 walk_at "q";walk_at "h";have k':=g8.mk kk;clear kk;have t2:=nG hW;have hE':=g8.mk hE;clear hE;walk_at "s";intro j hpb;have G:q≠j:=aR hq hpb;walk_at "n";refine aq λR1 hR1=>?_;have gq:eH H3 j (.dci []) q=ab (.dci (dI AH E)):=by rw[aD G];exact hq
 walk_at "";intro o;rw[YL];have hw0:CF d W eG (eH H3 q (.dif o (dI AH E))) a:=hw.frz hq;have g0:eH H3 q (.dif o (dI AH E)) q=ab (.dif o (dI AH E)):=aC;have n0:eH H3 q (.dif o (dI AH E)) j=af:=by rw[aD (aS G)];exact hpb
 have R:CO j (eH H3 q (.dif o (dI AH E))) (eH (eH H3 j (.dci [])) q (.dif o (dI AH E))):=λb u hb h=>by
  by_cases e:b=q
  .subst e;rw[aC] at h |-;exact h
  rw[aD e] at h |-;rw[aD hb];exact h
 have gb0:eH (eH H3 j (.dci [])) q (.dif o (dI AH E)) j=ab (.dci (dI AH [])):=by rw[aD (aS G),aC];rfl
 have k2:=g8.mk (k'.out o j hpb);generalize eH (eH H3 j (.dci [])) q (.dif o (dI AH E))=H4 at R gb0 |-;generalize eH H3 q (.dif o (dI AH E))=H0 at *;clear k' gq hq hw;refine aN SZ E (λA Z H=>∃(v4 v5 I J v:Option T),Z=[ab (.ref a),ab (.int (k:Int)),ab (.ref q),ab (.ref j),v4,v5,I,J,v]/\CO j H0 H/\H j=ab (.dci (dI AH (A.foldl (MV W eG k) [])))/\GY W (n+1) (A.foldl (MV W eG k) [])) ⟨_,_,_,_,_,rfl,R,gb0,⟨KS,λ_ z=>(nomatch z)⟩⟩ ?_ ?_
 .rintro Z H ⟨v4,v5,I,J,v,rfl,D,M,_⟩;refine⟨D q _ G g0,?_⟩;walk_at "n";walk_at "";refine My.of (λb u hb=>?_) k2.out;by_cases e:b=j
  .subst e;rw[aC] at hb;rw[M,<- hb];rfl
  rw[aD e] at hb;exact D b u e hb
 rintro A e B Z H N eE ⟨v4,v5,I,J,v,rfl,D,M,hB⟩ hN;refine⟨D q _ G g0,?_⟩;obtain⟨ed,el,et⟩:=hE'.out.lt e (by rw[eE];simp);have l:(A++[e]).foldl (MV W eG k) []=MV W eG k (A.foldl (MV W eG k) []) e:=by rw[JA];rfl
 have hN':=g8.mk hN;clear hN eE hR1 k2 R gb0;rw[l] at hN';generalize A.foldl (MV W eG k) []=B0 at *;clear l;simp only[SZ];walk_at "";have y:=D.wlk n0 hw0;obtain⟨pw,gw,_⟩:=y.ex;have lm:=rZ (W:=W) (eG:=eG) (p:=pw) (m:="fillings_at") Ap;walk_at "t";try rw[gw,Ha]
 refine⟨lm,a,W,eG,k,e.1,rfl,hW,y,hk,ed,λO Y=>?_⟩;have npf:j≠O:=aR M Y;have flen:(AZ W eG k e.1).length<=256:=U_ (DA _ _) (by rw[m_];exact t2);have kb1:CO j H0 (eH H O (.lst ((AZ W eG k e.1).map bF))):=D.new Y;have gb1:eH H O (.lst ((AZ W eG k e.1).map bF)) j=ab (.dci (dI AH B0)):=by rw[aD npf];exact M
 have X:eH H O (.lst ((AZ W eG k e.1).map bF)) O=ab (.lst ((AZ W eG k e.1).map bF)):=aC;generalize eH H O (.lst ((AZ W eG k e.1).map bF))=H5 at kb1 gb1 X |-;clear D M y gw lm Y;try walk_at ""
 refine aN bF (AZ W eG k e.1) (λA2 Z H=>∃(I J v:Option T),Z=[ab (.ref a),ab (.int (k:Int)),ab (.ref q),ab (.ref j),ab (.int (e.1:Int)),ab (AH e.2),I,J,v]/\CO j H0 H/\H O=ab (.lst ((AZ W eG k e.1).map bF))/\H j=ab (.dci (dI AH (A2.foldl (stp W e.1 e.2) B0)))/\GY W (n+1) (A2.foldl (stp W e.1 e.2) B0)) ⟨_,_,_,rfl,kb1,X,gb1,hB⟩ ?_ ?_
 .rintro Z H ⟨I,J,v,rfl,D,gf,M,L⟩;refine⟨.inl gf,?_⟩;exact hN'.out _ _ ⟨_,_,_,_,_,rfl,D,M,L⟩
 rintro A2 f B2 Z H N eF ⟨I,J,v,rfl,D,gf,M,L⟩ F';refine⟨.inl gf,?_⟩;have hf:f∈AZ W eG k e.1:=by rw[eF];simp
 have hft:=(GU.mp hf).1;have hon:=ug hW ed hf;have l:(A2++[f]).foldl (stp W e.1 e.2) B0=stp W e.1 e.2 (A2.foldl (stp W e.1 e.2) B0) f:=by rw[JA];rfl
 have hB3:=L.stp hW ed el et hf;have hlen:=L.len;have F:=g8.mk F';clear F' eF hN' kb1 X gb1 hB;rw[l] at F;generalize A2.foldl (stp W e.1 e.2) B0=C at *;clear l;have y:=D.wlk n0 hw0;obtain⟨pw,gw,_⟩:=y.ex;have lm:=rZ (W:=W) (eG:=eG) (p:=pw) (m:="load_at") Ap;have ldl:=uh hW (pk W f);have cp:Pu (cB W.tasks (pk W f)) 2:=⟨rfl,iV ldl.1 ldl.2⟩;have S:g8 (∀(I J v:Option T) (H':gV),CO j H0 H'->H' O=ab (.lst ((AZ W eG k e.1).map bF))->H' j=ab (.dci (dI AH (stp W e.1 e.2 C f)))->N [ab (.ref a),ab (.int (k:Int)),ab (.ref q),ab (.ref j),ab (.int (e.1:Int)),ab (AH e.2),I,J,v] H'):=⟨λI J v H' h1 h2 h3=>F.out _ _ ⟨I,J,v,rfl,h1,h2,h3,hB3⟩⟩;clear F hB3;simp only[AH,bF];walk_at "s";refine⟨by first | trivial | exact lm,a,W,eG,f,rfl,hW,y,hft,?_⟩;refine⟨cp,?_⟩;show q8 (yv e.2.1) (yv (A5 W f^2)) H _;rw[Fi];clear y gw lm cp ldl;walk_at "n";walk_at "s";rw[show (e.1:Int)+(f:Int)=((e.1+f:Nat):Int) by push_cast;rfl];walk_at "n";have lk:=jk AH (e.1+f) C;have pt:=Ie AH (e.1+f) (e.2.1+A5 W f^2,e.2.2++[f]) C;have dl:=yJ AH C;have hst:stp W e.1 e.2 C f=match bK (e.1+f) C with
   |none=>AX (e.1+f) (e.2.1+A5 W f^2,e.2.2++[f]) C
   |some u=>if e.2.1+A5 W f^2<u.1 then AX (e.1+f) (e.2.1+A5 W f^2,e.2.2++[f]) C else C:=rfl
 have et2:AH (e.2.1+A5 W f^2,e.2.2++[f])=.tup [.int (e.2.1+A5 W f^2),.tup (e.2.2.map bF++[.int (f:Int)])]:=by unfold AH;rw[v_];rfl
 rw[et2] at pt;have yes:g8 (stp W e.1 e.2 C f=AX (e.1+f) (e.2.1+A5 W f^2,e.2.2++[f]) C->∀v,N [ab (.ref a),ab (.int (k:Int)),ab (.ref q),ab (.ref j),ab (.int (e.1:Int)),ab (AH e.2),ab (.int (f:Int)),ab (.int (e.2.1+A5 W f^2)),v] (eH H j (.dci (qp ((e.1+f:Nat):Int) (.tup [.int (e.2.1+A5 W f^2),.tup (e.2.2.map bF++[.int (f:Int)])]) (dI AH C))))):=⟨λz v=>S.out _ _ _ _ D.put (by rw[aD (aS npf)];exact gf) (by rw[aC,z,<- pt])⟩;have no:g8 (stp W e.1 e.2 C f=C->∀v,N [ab (.ref a),ab (.int (k:Int)),ab (.ref q),ab (.ref j),ab (.int (e.1:Int)),ab (AH e.2),ab (.int (f:Int)),ab (.int (e.2.1+A5 W f^2)),v] H):=⟨λz v=>S.out _ _ _ _ D gf (by rw[z];exact M)⟩;clear S pt et2;generalize e.2.1+A5 W f^2=V at *;have t:=g8.mk hst;clear hst;simp only[AH] at yes no;cases el2:bK (e.1+f) C with
 |none=>rw[el2] at lk t;rw[fA] at lk;walk_at "";exact⟨yT,yT,yT,yT,yes.out t.out _⟩
 |some u =>
 rw[el2] at lk t;rw[FF] at lk;simp only[AH] at lk;walk_at "";by_cases c:V<u.1
 .have hz:=t.out;simp only[c,if_true] at hz;simp only[c,EU,if_true];exact⟨yT,yT,yT,yT,yes.out hz _⟩
 have hz:=t.out;simp only[c,Y_] at hz;simp only[c,ER,H_,Y_];exact no.out hz _
abbrev kJ:List ap:=["works","many","loads","low","high","middle"]
theorem LD:fY kJ ["works","many"] (aA (yY 52)):=aZ
theorem qH {f:ah} (g:G3 K mg "least_beat" (yY 52) ["works","many"] f G) (B:Bl mg) (b:R8 P w K mg base 1 "loads_rising" (yY 51) ["works"] Qo) (a:R8 P w K mg base 7 "dealing_to" (yY 49) ["works","beat","many"] Y8):R8 P w K mg base 8 "least_beat" (yY 52) ["works","many"] Qp:=by
 refine c6 g LD ?_;rintro _ _ _ s H _ _ _ _ u ⟨W,m,rfl,y,Y,F,C⟩;refine⟨_,(ak (aG 2 LD.nd (aH b u rfl (aa y8 aj)))
   (ak (bD (aU mq (aH a u rfl (aa y8 (aa (aK zD zt (oW au)) (aa zo aj)))) cG) (ao (aJ cG)) aW)
   (ak (aG 3 LD.nd au)
   (ak (aG 4 LD.nd (aL oG (aQ b8 rfl B.len_ cg (aa zt aj)) au))
   (ak (jN x_ (aU vf z4 AD) (ak (aG 5 LD.nd (aL eZ (aL bf z4 AD) au))
    (ao (bD (aU mq (aH a u rfl (aa y8 (aa (aK zD zt AI) (aa zo aj)))) cG) (ao (aG 3 LD.nd (aL bf AI au))) (ao (aG 4 LD.nd AI))))))
   (ao (aJ (aK zD zt z4)))))))),?_⟩
 walk_at "q";walk_at "h";have t:=g8.mk C;clear C;walk_at "s";refine⟨W,rfl,y,Y,λO p us I hne hl gp=>?_⟩;walk_at "n";obtain⟨j,ej⟩:∃j,j+1=us.length:=⟨us.length - 1,yT⟩;have L:j<us.length:=yT
 have VO:AA (us.map yv) (-1)=ab (.int us[j]):=by have D:=PM j us;rw[PR L,e7 yT] at D;have M:=Q_ (wr yv) D;rw[v_] at M;rw[<- M];exact uO _ _
 walk_at "s";refine⟨W,us[j],m,rfl,y,F,?_⟩;rcases Qq W us[j] m with o | ⟨xs,o⟩
 .rw[o,zi (show D5 .non=ag from rfl)];exact My.of gb.refl (t.out O .non I (.inl rfl))
 rw[o,y9 (show ¬D5 (.tup xs)=ag from B_)];clear o VO;walk_at "n";walk_at "s";walk_at "n";walk_at "s";walk_at "n";rw[show ((us.length:Int) - 1)=(j:Int) by omega];refine aq λR4 r=>?_;refine⟨λn Z H=>∃(e k:Nat) (N:Option T),Z=[ab W.enc,ab (.int (m:Int)),ab (.ref p),ab (.int (e:Int)),ab (.int (k:Int)),N]/\H=O/\k<us.length/\e<=k/\n=k - e,⟨_,0,j,_,rfl,rfl,L,yT,rfl⟩,?_⟩;rintro n Z H ⟨e,k,N,rfl,rfl,J,U,rfl⟩;obtain⟨d,z⟩:∃d:Nat,d=(e+k) / 2:=⟨_,rfl⟩;have S:((e:Int)+(k:Int)) / 2=(d:Int):=yT
 have N9:∀i (h:i<us.length),AA (us.map yv) (i:Int)=ab (.int us[i]):=λi h=>bQ (by rw[u_,g_ h];rfl);have l:=r;clear r;by_cases c:e<k
 .have q:d<us.length:=yT
  have R:e<=d:=yT
  have hd2:d<k:=yT
  clear z;have UK:=N9 d q;have V:zE ((e:Int)+(k:Int)) 2:=⟨yT,Ap⟩;have c':decide ((e:Int)<(k:Int))=ag:=N_ yT;clear N9 t l;walk_at "";refine⟨by first | trivial | exact V,W,us[d],m,rfl,y,F,?_⟩;rcases Qq W us[d] m with o | ⟨xs,o⟩
  .rw[o,zi (show D5 .non=ag from rfl)];exact⟨k - (d+1),yT,d+1,k,_,by push_cast;rfl,rfl,J,yT,rfl⟩
  rw[o,y9 (show ¬D5 (.tup xs)=ag from B_)];exact⟨d - e,yT,e,d,_,rfl,rfl,q,yT,rfl⟩
 obtain rfl:e=k:=by omega
 have c':decide ((e:Int)<(e:Int))=am:=I_ yT;have UK:=N9 e J;have x:=g8.mk (t.out H (.int us[e]) I (.inr ⟨_,rfl⟩));clear N9 t S z;walk_at "";obtain⟨l⟩:=l;subst l;try dsimp only
 walk_at "";exact My.of gb.refl x.out
abbrev gB:List ap:=["works","loads","name","length","kinds"]
theorem Me:fY gB ["works"] (aA (yY 51)):=aZ
theorem mY {f:ah}{V:de}(g:G3 K mg "loads_rising" (yY 51) ["works"] f V) (B:Bl mg):R8 P w K mg base 1 "loads_rising" (yY 51) ["works"] Qo:=by
 refine c6 g Me ?_;rintro _ A _ s H _ _ H3 _ _ ⟨W,rfl,hW,h5,S⟩;refine⟨_,(ak (aG 1 Me.nd (bI (aa au aj)))
   (ak (aV x_ rfl (bN (aK zD y8 au)) (bH (n:=3) rfl (aF (aB 2 Me.nd) (aF (aB 3 Me.nd) (aF (aB 4 Me.nd) bh)))) (ao (aG 1 Me.nd (aL bf zo (bx rfl (b6 51 gB ["load","length"] 1 [3]) (bJ zo) (λcl X s H C0 fp=>⟨(aB 0 (n7 ["load","length"])),bG,(aL bf y8 zo)⟩))))))
   (ao (aJ (Dc rfl rfl B.sorted_ rfl B.set_ zo))))),?_⟩
 walk_at "q";walk_at "h";have Y:=g8.mk S;clear S;walk_at "s";refine⟨y6,λm l=>?_⟩;have d:gb H3 (eH H3 m (.lst [yv 0])):=gb.new l;have O:eH H3 m (.lst [yv 0]) m=ab (.lst (([0]:List Int).map yv)):=aC;generalize eH H3 m (.lst [yv 0])=H4 at d O |-;clear l;walk_at "n";refine aq λR1 J=>?_;walk_at "";refine aN AE W.tasks (λA Z H=>∃(q:ah) (c:List Int) (j v3 k:Option T),Z=[ab W.enc,ab (.ref q),j,v3,k]/\gb H3 H/\0<c.length/\c.length<=2^A.length/\H q=ab (.lst (c.map yv))) ⟨m,[0],_,_,_,rfl,d,y6,y6,O⟩ ?_ ?_
 .rintro Z H ⟨q,c,j,v3,k,rfl,L,t,hl,v⟩;walk_at "t";have I:2^W.tasks.length<=2^5:=KW y6 h5;walk_at "n";walk_at "";refine⟨yT,λus G p hp=>?_⟩;have h1:=lF (G.1.imp λ{a b} (z:a<b)=>(show a≠b by omega)) λx hx=>(G.2 x).mp hx;have h0:0<us.length:=by obtain⟨i,hi,_⟩:=L9 ((G.2 c[0]).mpr (C6 t));omega
  exact My.of gb.refl (Y.out _ p us (L.trans (gb.new hp)) h0 yT aC)
 rintro A ⟨x,C,ks⟩ B Z H N e ⟨q,c,j,v3,k,rfl,L,t,hl,v⟩ U;walk_at "t";have hA:A.length<5:=by have:=Q_ aT e;simp only[b_,j_] at this;omega
 have I:2^A.length<=2^5:=KW y6 yT;have r:g8 (∀(y:ah) (H':gV) j v3 k,gb H3 H'->H' y=ab (.lst (c.map yv++(c.map (·+C)).map yv))->N [ab W.enc,ab (.ref y),j,v3,k] H'):=⟨λy H' j v3 k s1 s2=>U _ _ ⟨y,c++c.map (·+C),j,v3,k,rfl,s1,by rw[b_];omega,by rw[b_,b_,d_,E_,Iy];omega,by rw[s2,v_]⟩⟩;clear U e Y J d O;simp only[AE];walk_at "";walk_at "t";walk_at "c";refine bO yv (λi=>yv (i+C)) c [ab (.int C)] (.inl v) yT (λi hi Q' o=>?_) (λpc u=>?_)
 .have F:=g8.mk o;clear o r;walk_at "";exact F.out
 have D:q≠pc:=aR v u;rw[aD D,v,lz];refine⟨by rw[d_,d_];omega,λpq M=>?_⟩;exact r.out pq _ _ _ _ ((L.trans (gb.new u)).trans (gb.new M)) (by rw[aC,L_];rfl)
theorem WC (i:Nat) {x:ap}{b a f:kc}{k v:Expr}{tk c:zS} (e:X.N.Nodup) (l:Z7 X k tk) (h:Z7 X v c) (j:X.N[i]?=ab x) (d:HM X.env.scope x) (g:X.fn x=ag\/X.env.scope.names.lookup x=ab .local):D3 X (.Assign [.Name x a] (.Dict [ab k] [v] f) b) (uY (jW tk c) (eX i)):=aG _ e (rF l h) j d rfl g
abbrev kO:List ap:=["works","beat","many","walk","ways","stand"]
theorem OW:fY kO ["works","beat","many"] (aA (yY 49)):=aZ
theorem qI {f:ah} (g:G3 K mg "dealing_to" (yY 49) ["works","beat","many"] f fd) (B:Bl mg) (l:Fh K c ["works","beat","rules","whole"]) (t:NJ P w K mg base c 5 "Walk" ["self","works","beat"] (MP c)) (d:R8 P w K mg base 5 "ways_behind" (yY 48) ["walk","stand","ways"] (Y7 c)) (k:F8 P w K mg base c 2 "dealing_of" ["self","fillings"] (Vm c)):R8 P w K mg base 7 "dealing_to" (yY 49) ["works","beat","many"] Y8:=by
 refine c6 g OW ?_;rintro _ A _ s H E _ H3 _ U ⟨W,eG,m,rfl,F,hm,kk⟩;have S:=Pr.u1 U;refine⟨_,(ak (aG 3 OW.nd (tW t (U.mono y6) rfl (aa y8 (aa zo aj))))
   (@ak _ _ _ _ _ (@WC _ 4 _ _ _ _ _ _ _ _ OW.nd au (bc aj) rfl (by first | exact hG rfl | exact e4 rfl) (by first | exact .inl rfl | exact .inr rfl | assumption))
   (ak (aV x_ rfl (aX rfl B.range_ (aa zt aj)) (aB 5 OW.nd) (ao (aG 4 OW.nd (aH d U rfl (aa z4 (aa AI (aa AD aj)))))))
   (ak (bD (jE S (fW l z4) AD) (ao (aJ cG)) aW)
   (ao (aJ (jg k (U.mono y6) z4 (aa (jX S AD (fW l z4)) aj)))))))),?_⟩
 walk_at "q";walk_at "h";have X:=g8.mk kk;clear kk;have t1:=j5 W;have r8:W.row.length<=8:=F.r8;walk_at "s";intro a ha;refine⟨a,W,eG,rfl,F,aC,λY kp D=>⟨rfl,?_⟩⟩;have n:gb H3 Y:=λb u I=>kp b u (aR I ha) (by rw[aD (aR I ha)];exact I);clear kp ha;walk_at "n";walk_at "s";intro O y;refine⟨y6,zC,?_⟩;have e0:([(0,yA [])]:List (Int × T))=dI AV (DD W eG 0):=rfl;rw[e0];have z:gb H3 (eH Y O (.dci (dI AV (DD W eG 0)))):=n.trans (gb.new y);have C:=D.sub (gb.new (o:=.dci (dI AV (DD W eG 0))) y);have r:eH Y O (.dci (dI AV (DD W eG 0))) O=ab (.dci (dI AV (DD W eG 0))):=aC;have hq3:=cM n y;generalize eH Y O (.dci (dI AV (DD W eG 0)))=H5 at z r C |-;clear e0 y n D;walk_at "n";refine aq λR2 hR2=>?_;walk_at "";refine⟨zC,yT,yT,?_⟩;rw[fX];refine aN (λ(j:Nat)=>yv (j:Int)) (ae m) (λA Z H=>∃(q:ah) (v5:Option T),Z=[ab W.enc,ab (.int eG),ab (.int (m:Int)),ab (.ref a),ab (.ref q),v5]/\gb H3 H/\H3 q=af/\CF c W eG H a/\H q=ab (.dci (dI AV (DD W eG A.length)))) ⟨O,_,rfl,z,hq3,C,r⟩ ?_ ?_
 .rintro Z H ⟨q,v5,rfl,n,hq,D,R⟩;walk_at "t";rw[m_] at R;walk_at "n";obtain⟨pw,gw,_⟩:=D.ex;have f4:=pI (W:=W) (eG:=eG) (p:=pw);have lm:=rZ (W:=W) (eG:=eG) (p:=pw) (m:="dealing_of") Ap;have L:=jk AV (zd W - 1) (DD W eG m);have ec:((zd W - 1:Nat):Int)=(zd W:Int) - 1:=yT
  rw[ec] at L;have G:=X.out;unfold OV at G;have J:=Sc (W:=W) (eG:=eG) F hm;clear z C r;refine aq λR3 hR3=>?_;cases V:bK (zd W - 1) (DD W eG m) with
  |none=>rw[V] at L G;rw[fA] at L;have k3:=g8.mk G;clear X G hR3 J;walk_at "";simp only[nL,FB,if_true];exact My.of n k3.out
  |some v =>
  obtain⟨_,M,hb3⟩:=(J.wok F).lt _ (dJ V);have hb4:v.length<=m:=M;clear M;rw[V] at L G;rw[FF] at L;simp only[AV] at L;have k3:=g8.mk G;clear X G J V;generalize DD W eG m=E at *;walk_at "";simp only[QN,E9,H_,Y_];walk_at "n";walk_at "";refine⟨by first | trivial | exact lm,a,W,eG,v,rfl,F,D,yT,hb3,?_⟩;exact My.of n k3.out
 rintro A j B Z H N e ⟨q,v5,rfl,n,hq,D,R⟩ hN;walk_at "t";have hA:A.length<m:=by have:=Q_ aT e;simp only[b_,j_,m_] at this;omega
 have hj:j=A.length:=by
  have h1:(ae m)[A.length]?=ab j:=by rw[e,M_ (l_ _)];simp
  rw[CI hA] at h1;exact (T_ h1).symm
 subst hj;have hN':=g8.mk hN;clear hN e X hR2 z C r;walk_at "";refine⟨a,q,W,eG,A.length,A.length,DD W eG A.length,rfl,F,D,yT,yT,(Sc F yT).wok F,R,λo p2 x=>?_⟩;have nq2:q≠p2:=aR R x;have hwf:=D.frz (o:=.dif o (dI AV (DD W eG A.length))) R;refine hN'.out _ _ ⟨p2,_,rfl,λb u I=>?_,cM n ?_,hwf.sub (gb.new (by rw[aD (aS nq2)];exact x)),?_⟩
 .rw[aD (aR (n b u I) ?_),aD (aR I hq)]
  .exact n b u I
  exact x
 .exact x
 rw[aC,b_];rfl
abbrev jx:List ap:=["walk","stand","ways","behind","done","fillings","filling"]
theorem OU:fY jx ["walk","stand","ways"] (aA (yY 48)):=aZ
theorem pX {f:ah} (g:G3 K mg "ways_behind" (yY 48) ["walk","stand","ways"] f fd) (B:Bl mg) (I_Walk:Fh K c ["works","beat","rules","whole"]) (j:F8 P w K mg base c 4 "greatest_at" ["self","stand","done"] (Y6 c)):R8 P w K mg base 5 "ways_behind" (yY 48) ["walk","stand","ways"] (Y7 c):=by
 refine c6 g OU ?_;rintro _ A _ s H E _ H3 _ hr ⟨a,q,W,eG,k,n,E,rfl,hW,hw,hk,hn,hE,hq,kk⟩;refine⟨_,(ak (aG 3 OU.nd vH)
   (ak (aV x_ rfl (vI zt) (bH (n:=2) rfl (aF (aB 4 OU.nd) (aF (aB 5 OU.nd) bh))) (ao (aV x_ rfl (bJ (jg j (hr.mono y6) y8 (aa zo (aa AD aj)))) (aB 6 OU.nd) (ao (bM (K9 z4 (aL bf AD BU) (aL bf AI (bc (aa BU aj)))))))))
   (ao (aJ z4)))),?_⟩
 walk_at "q";walk_at "h";have k':=g8.mk kk;clear kk;have t2:=nG hW;have hE':=g8.mk hE;clear hE;walk_at "s";intro l Y;have y:q≠l:=aR hq Y;walk_at "n";refine aq λR1 hR1=>?_;have gq:eH H3 l (.dci []) q=ab (.dci (dI AV E)):=by rw[aD y];exact hq
 walk_at "";intro o;rw[Y4];have hw0:CF c W eG (eH H3 q (.dif o (dI AV E))) a:=hw.frz hq;have g0:eH H3 q (.dif o (dI AV E)) q=ab (.dif o (dI AV E)):=aC;have n0:eH H3 q (.dif o (dI AV E)) l=af:=by rw[aD (aS y)];exact Y
 have J:CO l (eH H3 q (.dif o (dI AV E))) (eH (eH H3 l (.dci [])) q (.dif o (dI AV E))):=λb u hb h=>by
  by_cases e:b=q
  .subst e;rw[aC] at h |-;exact h
  rw[aD e] at h |-;rw[aD hb];exact h
 have S:eH (eH H3 l (.dci [])) q (.dif o (dI AV E)) l=ab (.dci (dI AV [])):=by rw[aD (aS y),aC];rfl
 have k2:=g8.mk (k'.out o l Y);generalize eH (eH H3 l (.dci [])) q (.dif o (dI AV E))=H4 at J S |-;generalize eH H3 q (.dif o (dI AV E))=H0 at *;clear k' gq hq hw;refine aN Sn E (λA Z H=>∃(v4 v5 r:Option T),Z=[ab (.ref a),ab (.int (k:Int)),ab (.ref q),ab (.ref l),v4,v5,r]/\CO l H0 H/\H l=ab (.dci (dI AV (A.foldl (MO W eG k) [])))/\IJ W (n+1) (A.foldl (MO W eG k) [])) ⟨_,_,_,rfl,J,S,⟨KS,λ_ z=>(nomatch z)⟩⟩ ?_ ?_
 .rintro Z H ⟨v4,v5,r,rfl,v,F,_⟩;refine⟨v q _ y g0,?_⟩;walk_at "n";walk_at "";refine My.of (λb u hb=>?_) k2.out;by_cases e:b=l
  .subst e;rw[aC] at hb;rw[F,<- hb];rfl
  rw[aD e] at hb;exact v b u e hb
 rintro A e B Z H N eE ⟨v4,v5,r,rfl,v,F,hB⟩ hN;refine⟨v q _ y g0,?_⟩;obtain⟨ed,el,et⟩:=hE'.out.lt e (by rw[eE];simp);have d:(A++[e]).foldl (MO W eG k) []=MO W eG k (A.foldl (MO W eG k) []) e:=by rw[JA];rfl
 have R:=g8.mk hN;clear hN eE hR1 k2 J S;rw[d] at R;generalize A.foldl (MO W eG k) []=B0 at *;clear d;simp only[Sn];walk_at "";have X:=v.wlk n0 hw0;obtain⟨pw,gw,_⟩:=X.ex;have lm:=rZ (W:=W) (eG:=eG) (p:=pw) (m:="greatest_at") Ap;walk_at "t";try rw[gw,Ha]
 refine⟨lm,a,W,eG,k,e.1,rfl,hW,X,hk,ed,λI M=>?_⟩;have npf:l≠I:=aR F M;have flen:(CU W eG k e.1).length<=256:=by have:=ut bW (AZ W eG k e.1);have h2:(AZ W eG k e.1).length<=256:=U_ (DA _ _) (by rw[m_];exact t2);unfold CU;rw[CH];omega
 have O:CO l H0 (eH H I (.lst ((CU W eG k e.1).map bF))):=v.new M;have U:eH H I (.lst ((CU W eG k e.1).map bF)) l=ab (.dci (dI AV B0)):=by rw[aD npf];exact F
 have L:eH H I (.lst ((CU W eG k e.1).map bF)) I=ab (.lst ((CU W eG k e.1).map bF)):=aC;generalize eH H I (.lst ((CU W eG k e.1).map bF))=H5 at O U L |-;clear v F X gw lm M;try walk_at ""
 refine aN bF (CU W eG k e.1) (λA2 Z H=>∃(r:Option T),Z=[ab (.ref a),ab (.int (k:Int)),ab (.ref q),ab (.ref l),ab (.int (e.1:Int)),ab (AV e.2),r]/\CO l H0 H/\H I=ab (.lst ((CU W eG k e.1).map bF))/\H l=ab (.dci (dI AV (A2.foldl (jo e.1 e.2) B0)))/\IJ W (n+1) (A2.foldl (jo e.1 e.2) B0)) ⟨_,rfl,O,L,U,hB⟩ ?_ ?_
 .rintro Z H ⟨r,rfl,v,gf,F,C⟩;refine⟨.inl gf,?_⟩;exact R.out _ _ ⟨_,_,_,rfl,v,F,C⟩
 rintro A2 f B2 Z H N eF ⟨r,rfl,v,gf,F,C⟩ F';refine⟨.inl gf,?_⟩;have hf:f∈AZ W eG k e.1:=ul (by rw[eF];simp);have d:(A2++[f]).foldl (jo e.1 e.2) B0=jo e.1 e.2 (A2.foldl (jo e.1 e.2) B0) f:=by rw[JA];rfl
 have hB3:=C.stp hW ed el et hf;have hlen:=C.len;have x:=g8.mk F';clear F' eF R O L U hB;rw[d] at x;generalize A2.foldl (jo e.1 e.2) B0=G at *;clear d;have D:g8 (∀(r:Option T) (H':gV),CO l H0 H'->H' I=ab (.lst ((CU W eG k e.1).map bF))->H' l=ab (.dci (dI AV (jo e.1 e.2 G f)))->N [ab (.ref a),ab (.int (k:Int)),ab (.ref q),ab (.ref l),ab (.int (e.1:Int)),ab (AV e.2),r] H'):=⟨λr H' h1 h2 h3=>x.out _ _ ⟨r,rfl,h1,h2,h3,hB3⟩⟩;clear x hB3;have lk:=jk AV (e.1+f) G;have pt:=Ie AV (e.1+f) (e.2++[f]) G;have dl:=yJ AV G;have V:AV (e.2++[f])=.tup (e.2.map bF++[.int (f:Int)]):=by unfold AV;rw[v_];rfl
 have ec:((e.1+f:Nat):Int)=(e.1:Int)+(f:Int):=by push_cast;rfl
 rw[V,ec] at pt;rw[ec] at lk;have hst:jo e.1 e.2 G f=match bK (e.1+f) G with
   |none=>AX (e.1+f) (e.2++[f]) G
   |some _=>G:=rfl
 have t:=g8.mk hst;clear hst;try simp only[AV,bF] at pt
 simp only[AV,bF];cases el2:bK (e.1+f) G with
 |none =>
  rw[el2] at lk t;rw[fA] at lk;have yes:=g8.mk (λr=>D.out r _ v.put (by rw[aD (aS npf)];exact gf) (by rw[aC,t.out,<- pt]));try simp only[AV,bF] at yes
  clear D pt V;walk_at "";exact⟨zC,yT,yT,yT,yes.out _⟩
 |some u =>
 rw[el2] at lk t;rw[FF] at lk;have no:=g8.mk (λr=>D.out r H v gf (by rw[t.out];exact F));try simp only[AV,bF] at no
 clear D pt V;walk_at "";exact⟨zC,yT,yT,yT,no.out _⟩
abbrev cR:List ap:=["self","stand","done"]
theorem pY:fY cR cR (aA (BD 26 2)):=aZ
theorem pZ {f:ah} (g:GM K c "greatest_at" "Walk.greatest_at" (BD 26 2) cR f x) (B:Bl mg) (r:Fh K c ["works","beat","rules","whole"]) (i:R8 P w K mg base 2 "greatest_numbers" (yY 19) ["numbers"] Y5) (j:F8 P w K mg base c 3 "fillings_at" cR (Vl c)):F8 P w K mg base c 4 "greatest_at" cR (Y6 c):=by
 refine⟨g.cls,f,x,g.mt,g.b,?_⟩;refine LN g.fn pY (λts H Q h=>?_) (λJ A u s H E ts H3 Q y h=>?_)
 .obtain⟨a,W,eG,k,d,rfl,_⟩:=h;rfl
 obtain⟨a,W,eG,k,d,rfl,C,z,O,G,v⟩:=h;refine⟨_,(ao (aJ (aH i y rfl (aa (jg j (y.mono y6) y8 (aa zo (aa zt aj))) aj)))),?_⟩;walk_at "q";walk_at "h";have L:=g8.mk v;clear v;have N:=nG C;obtain⟨M,R,_⟩:=z.ex;have F:=rZ (W:=W) (eG:=eG) (p:=M) (m:="fillings_at") Ap;walk_at "";refine⟨by first | trivial | exact F,a,W,eG,k,d,rfl,C,z,O,G,λD t=>?_⟩;have l:(AZ W eG k d).length<=256:=U_ (DA _ _) (by rw[m_];exact N);refine⟨D,AZ W eG k d,rfl,aC,l,λp I=>?_⟩;have n:gb H3 (eH H3 D (.lst ((AZ W eG k d).map bF))):=gb.new t;refine My.of ?_ (L.out p (cM n I));intro b o q;by_cases e:b=p
 .subst e;rw[aC] at q |-;exact q
 rw[aD e] at q |-;exact n b o q
abbrev dG:List ap:=["numbers","greatest","number"]
theorem RY:fY dG ["numbers"] (aA (yY 19)):=aZ
theorem jq {f:ah} (g:G3 K mg "greatest_numbers" (yY 19) ["numbers"] f Y) (B:Bl mg) (c:R8 P w K mg base 1 "has_all" (yY 17) ["number","part"] wL):R8 P w K mg base 2 "greatest_numbers" (yY 19) ["numbers"] Y5:=by
 refine c6 g RY ?_;rintro _ A _ s H _ _ H3 _ hr ⟨a,fs,rfl,S,hl,k⟩;refine⟨_,(ak (aG 1 RY.nd (bI aj))
   (ak (aV x_ rfl (Tv rfl B.reversed_ y8) (aB 2 RY.nd) (ao (bD (gZ (cJ (aQ (Ti rfl) rfl B.any_ RG (aa (bx rfl (b6 19 dG ["other","number"] 1 [2]) (bJ zo) (λcl ZO s H C0 fp=>⟨(aB 0 (n7 ["other","number"])),bG,(aH c hr rfl (aa y8 (aa zo aj)))⟩)) aj)))) (ao (bM (cW J_ R_ S_ bB zo (aa zt aj)))) aW)))
   (ao (aJ (Gm rfl rfl B.list_ rfl B.reversed_ zo))))),?_⟩
 walk_at "q";walk_at "h";walk_at "s";refine⟨yT,λF C=>?_⟩;walk_at "n";have t:gb H3 (eH H3 F (.lst [])):=gb.new C;have J:eH H3 F (.lst []) F=ab (.lst ((CS bW []).map bF)):=aC;generalize eH H3 F (.lst [])=H1 at t J;try dsimp only
 refine aq λR1 L=>?_;have V:=t _ _ S;walk_at "";rw[<- Mb];refine aN bF fs.reverse (λA Z H=>∃(q:ah) (v:Option T),Z=[ab (.ref a),ab (.ref q),v]/\gb H3 H/\H3 q=af/\H q=ab (.lst ((CS bW A.reverse).map bF))) ⟨F,af,rfl,t,C,J⟩ ?_ ?_
 .rintro Z H ⟨q,v,rfl,y,d,D⟩;refine⟨.inl (y _ _ S),?_⟩;walk_at "n";rw[l7] at D;clear J V;walk_at "";intro p X;have R:H3 p=af:=by
   cases e:H3 p with
   |none=>rfl
   |some o=>rw[y _ _ e] at X;cases X
  rw[<- Mb];refine My.of ?_ (k p R);intro b o l;by_cases e:b=p
  .subst e;rw[aC] at l |-;exact l
  rw[aD e] at l |-;exact y b o l
 rintro A n B Z H N e ⟨q,v,rfl,y,d,D⟩ W;refine⟨.inl (y _ _ S),?_⟩;have hA:A.length+1<=256:=by have:=Q_ aT e;simp only[b_,j_,CH] at this;omega
 have r:=g8.mk W;have x:CS bW (A++[n]).reverse=if (CS bW A.reverse).any (λg=>bW g n) then CS bW A.reverse else CS bW A.reverse++[n]:=by rw[List.reverse_append];rfl
 have gl:=ut bW A.reverse;rw[CH] at gl;clear W e k L J V;generalize CS bW A.reverse=G at *;walk_at "";walk_at "c";refine bO bF (λg=>T.bl (bW g n)) G [ab (bF n)] (.inl D) yT (λg hg Q' M=>?_) (λI u=>?_)
 .clear r;walk_at "";exact⟨(g:Int),(n:Int),rfl,M⟩
 have z:q≠I:=aR D u;have bm:(G.map λg=>T.bl (bW g n))=(G.map λg=>bW g n).map T.bl:=by rw[L_];rfl
 have g2:eH H I (.lst ((G.map λg=>bW g n).map T.bl)) q=ab (.lst (G.map bF)):=by rw[aD z];exact D
 have j:gb H3 (eH H I (.lst ((G.map λg=>bW g n).map T.bl))):=y.trans (gb.new u);rw[bm,oR,iu];generalize eH H I (.lst ((G.map λg=>bW g n).map T.bl))=H5 at g2 j;have U:(G.map λg=>bW g n).any id=G.any λg=>bW g n:=by rw[pV];rfl
 rw[U];cases l:G.any λg=>bW g n
 .rw[l] at x;simp only[H_,Y_] at x;clear U bm u z;simp only[FB,if_true];walk_at "";refine⟨⟨zC,zC⟩,yT,r.out _ _ ⟨q,_,rfl,?_,d,?_⟩⟩
  .intro b o m;by_cases e:b=q
   .subst e;rw[d] at m;cases m
   rw[aD e];exact j b o m
  rw[aC,x,v_];rfl
 rw[l] at x;simp only[if_true] at x;simp only[E9,H_,Y_];exact r.out _ _ ⟨q,_,rfl,j,d,by rw[x];exact g2⟩
abbrev p7:List ap:=["self","works","beat"]
theorem Np:fY p7 p7 (aA (BD 26 0)):=aZ
theorem Nq {f:ah} (g:GI K mg c "Walk" "Walk.__init__" (BD 26 0) p7 f Y) (B:Bl mg) (d:Fh K c ["works","beat","rules","whole"]) (j:R8 P w K mg base 4 "rules_of" (yY 16) ["works"] Qt) (i:R8 P w K mg base 1 "number_of" (yY 1) ["works","tasks"] Jg) (l:R8 P w K mg base 1 "names_of" (yY 23) ["tasks"] Mv):NJ P w K mg base c 5 "Walk" p7 (MP c):=by
 refine⟨g.at_,f,Y,g.mk_,g.b,?_⟩;refine LN g.fn Np (λts H Q h=>?_) (λcdv A S s H E ts H3 Q R h=>?_)
 .obtain⟨a,W,eG,rfl,_⟩:=h;rfl
 obtain⟨a,W,eG,rfl,V,ha,k⟩:=h;refine⟨_,(ak (tV d y8 zo)
   (ak (tV d y8 zt)
   (ak (tV d y8 (aH j R rfl (aa zo aj)))
   (ao (tV d y8 (aH i R rfl (aa zo (aa (aH l R rfl (aa (aK zD zo au) aj)) aj)))))))),?_⟩
 walk_at "q";walk_at "h";have k':=g8.mk k;clear k;walk_at "s";have g1:eH H3 a (.ins c (dU "works" W.enc [])) a=ab (.ins c [("works",W.enc)]):=aC;refine⟨y6,?_⟩;have y:∀b o,b≠a->H3 b=ab o->eH H3 a (.ins c (dU "works" W.enc [])) b=ab o:=λb o m e=>by rw[aD m];exact e
 generalize eH H3 a (.ins c (dU "works" W.enc []))=X at g1 y |-;walk_at "n";walk_at "s";refine⟨y6,?_⟩;have t:dU "beat" (yv eG) [("works",W.enc)]=[(("works":ap),W.enc),(("beat":ap),.int eG)]:=by unfold dU;rw[y9 Ap];rfl
 rw[t];have G:eH X a (.ins c [("works",W.enc),("beat",.int eG)]) a=ab (.ins c [("works",W.enc),("beat",.int eG)]):=aC;have r:∀b o,b≠a->H3 b=ab o->eH X a (.ins c [("works",W.enc),("beat",.int eG)]) b=ab o:=λb o m e=>by rw[aD m];exact y b o m e
 generalize eH X a (.ins c [("works",W.enc),("beat",.int eG)])=J at G r |-;clear g1 y t;walk_at "n";walk_at "s";refine⟨W,rfl,V,λp N=>?_⟩;have u:a≠p:=aR G N;have M:eH J p (.lst (W.tasks.map (B5 W (W.tasks.map (·.1))))) p=ab (.lst (W.tasks.map (B5 W (W.tasks.map (·.1))))):=aC;have g4:eH J p (.lst (W.tasks.map (B5 W (W.tasks.map (·.1))))) a=ab (.ins c [("works",W.enc),("beat",.int eG)]):=by rw[aD u];exact G
 have v:∀b o,b≠a->H3 b=ab o->eH J p (.lst (W.tasks.map (B5 W (W.tasks.map (·.1))))) b=ab o:=λb o m e=>by rw[aD (aR (r b o m e) N)];exact r b o m e
 generalize eH J p (.lst (W.tasks.map (B5 W (W.tasks.map (·.1)))))=F at M g4 v |-;clear G r N;walk_at "";refine⟨y6,?_⟩;have t:dU "rules" (yB p) [("works",W.enc),("beat",.int eG)]=[(("works":ap),W.enc),(("beat":ap),.int eG),(("rules":ap),.ref p)]:=by unfold dU;rw[y9 Ap];unfold dU;rw[y9 Ap];rfl
 rw[t];have C:eH F a (.ins c [("works",W.enc),("beat",.int eG),("rules",.ref p)]) a=ab (.ins c [("works",W.enc),("beat",.int eG),("rules",.ref p)]):=aC;have L:eH F a (.ins c [("works",W.enc),("beat",.int eG),("rules",.ref p)]) p=ab (.lst (W.tasks.map (B5 W (W.tasks.map (·.1))))):=by rw[aD (aS u)];exact M
 have n:∀b o,b≠a->H3 b=ab o->eH F a (.ins c [("works",W.enc),("beat",.int eG),("rules",.ref p)]) b=ab o:=λb o m e=>by rw[aD m];exact v b o m e
 generalize eH F a (.ins c [("works",W.enc),("beat",.int eG),("rules",.ref p)])=I at C L n |-;clear M g4 v t;walk_at "n";walk_at "";refine⟨W.tasks,rfl,V.t8,λq D=>?_⟩;have O:a≠q:=aR C D;have U:p≠q:=aR L D;try dsimp only
 refine⟨W,_,W.tasks.map (·.1),rfl,V,.inr ⟨q,rfl,aC⟩,?_⟩;have ew:y3 (W.tasks.map (·.1)) (W.tasks.map (·.1))=(zd W:Int) - 1:=by have h1:=lJ (W:=W) (A:=nm W) λx hx=>hx;have h2:=j5 W;rw[cI];show ((bU (nm W) (nm W):Nat):Int)=_;rw[h1];omega
 rw[ew];have g7:eH I q (.lst ((W.tasks.map (·.1)).map yy)) a=ab (.ins c [("works",W.enc),("beat",.int eG),("rules",.ref p)]):=by rw[aD O];exact C
 have Z:eH I q (.lst ((W.tasks.map (·.1)).map yy)) p=ab (.lst (W.tasks.map (B5 W (W.tasks.map (·.1))))):=by rw[aD U];exact L
 have z:∀b o,b≠a->H3 b=ab o->eH I q (.lst ((W.tasks.map (·.1)).map yy)) b=ab o:=λb o m e=>by rw[aD (aR (n b o m e) D)];exact n b o m e
 generalize eH I q (.lst ((W.tasks.map (·.1)).map yy))=H8 at g7 Z z |-;clear C L n D;walk_at "";refine⟨y6,?_⟩;have t:dU "whole" (yv ((zd W:Int) - 1)) [("works",W.enc),("beat",.int eG),("rules",.ref p)]=EM W eG p:=by unfold dU;rw[y9 Ap];unfold dU;rw[y9 Ap];unfold dU;rw[y9 Ap];rfl
 rw[t];exact My.of gb.refl (k'.out _ (λb o m e=>by rw[aD m];exact z b o m e) ⟨p,aC,by rw[aD (aS u)];exact Z⟩)
abbrev gK:List ap:=["self","stand","done","kind","left"]
theorem Si:fY gK ["self","stand","done"] (aA (BD 26 1)):=aZ
theorem p8 {f:ah} (g:GM K l "fillings_at" "Walk.fillings_at" (BD 26 1) ["self","stand","done"] f Y) (B:Bl mg) (j:Fh K l ["works","beat","rules","whole"]) (m:R8 P w K mg base 2 "parts_of" (yY 25) ["number"] Qj) (c:R8 P w K mg base 2 "is_filling_number" (yY 18) ["rules","beat","kind","done","number"] Qu):F8 P w K mg base l 3 "fillings_at" ["self","stand","done"] (Vl l):=by
 refine⟨g.cls,f,Y,g.mt,g.b,?_⟩;refine LN g.fn Si (λts H Q h=>?_) (λcdv A M s H E ts H3 Q hr h=>?_)
 .obtain⟨a,W,eG,k,d,rfl,_⟩:=h;rfl
 obtain⟨a,W,eG,k,d,rfl,C,hw,hk,S,U⟩:=h;refine⟨_,(ak (bD (aU WK zo (aQ b8 rfl B.len_ cg (aa (aK zD (fW j y8) au) aj))) (ao (aJ (bI aj))) aW)
   (ak (aG 3 Si.nd (aK zD (aK zD (fW j y8) au) zo))
   (ak (aG 4 Si.nd (aH m hr rfl (aa (aL oG (fW j y8) zt) aj)))
   (ao (aJ (bx rfl (bz (n0:=(aA (BD 26 1)).names) (N:=gK) (N':=["number","kind","done","self"]) (nt:=1) (cap:=[3,2,0]) rfl rfl Ap) (bJ AD) (λcl Z s H C0 fp=>⟨(aB 0 (n7 ["number","kind","done","self"])),(dR (cJ (aH c hr rfl (aa (fW j z4) (aa (fW j z4) (aa zo (aa zt (aa y8 aj)))))))),y8⟩))))))),?_⟩
 walk_at "q";walk_at "h";have k':=g8.mk U;clear U;have t2:=nG C;have t1:=j5 W;obtain⟨p,J,I⟩:=hw.ex;have f1:=wy (W:=W) (eG:=eG) (p:=p);have f2:=MN (W:=W) (eG:=eG) (p:=p);have f3:=wz (W:=W) (eG:=eG) (p:=p);have f4:=pI (W:=W) (eG:=eG) (p:=p);have x1:=yI hk;have O:=g8.mk J;have R:=g8.mk I;generalize EM W eG p=fs at *;walk_at "s";rw[I_ yT,y9 B_];walk_at "n";walk_at "s";walk_at "n";walk_at "s";refine⟨zd W - 1 - d,by rw[show ((zd W - 1 - d:Nat):Int)=(zd W:Int) - 1 - (d:Int) by omega],yT,λpl r=>?_⟩;have n1:a≠pl:=aR J r;have n2:p≠pl:=aR I r;have y:=Di (W:=W) (eG:=eG) (k:=k) C S;have hlen:(wu (zd W - 1 - d)).length<=256:=by unfold wu;exact U_ (DA _ _) (by rw[m_];omega)
 have z:∀i∈wu (zd W - 1 - d),i<zd W:=λi D=>by have:=K_.mp (D_.mp D).1;omega
 generalize wu (zd W - 1 - d)=t at *;have n:gb H3 (eH H3 pl (.lst (t.map bF))):=gb.new r;have h1:=n _ _ O.out;have X:=n _ _ R.out;have V:eH H3 pl (.lst (t.map bF)) pl=ab (.lst (t.map bF)):=aC;generalize eH H3 pl (.lst (t.map bF))=H4 at n h1 X V |-;clear J I x1 f1 f4 n1 n2 r;walk_at "n";have x:=g8.mk z;have v:=g8.mk y;clear z y;walk_at "";walk_at "c";refine dz (still:=bZ pl (t.map bF)) (H:=H4) bF bF (JU W eG k d) t [ab (.str (W.row.getD k "")),ab (.int (d:Int)),ab (.ref a)] (.inl V) yT ?c1 ?c2 ?c3
 case c2=>exact λi D _ Q' u=>u
 case c1 =>
  intro i D Q' u
  have G:=x.out i D
  have L:=g8.mk u
  clear k' u
  simp only[bF]
  walk_at ""
  refine⟨W,p,eG,W.row.getD k "",pk W d,pk W i,?_,C,X,?_⟩
  ·
   rw[Vk C S,Vk C G]
  ·
   exact L.out
 case c3 =>
  intro q u
  rw[v.out]
  refine My.of ?_ (k'.out q (cM n u))
  intro b o F
  by_cases e:b=q
  ·
   subst e;rw[aC] at F |-;exact F
  ·
   rw[aD e] at F |-;exact n b o F
abbrev fJ:List ap:=["self","number"]
theorem yW:fY fJ fJ (aA (BD 26 3)):=aZ
theorem yX {f:ah} (g:GM K c "load_at" "Walk.load_at" (BD 26 3) fJ f r) (B:Bl mg) (j:Fh K c ["works","beat","rules","whole"]) (d:R8 P w K mg base 1 "has_all" (yY 17) ["number","part"] wL):F8 P w K mg base c 2 "load_at" fJ (Qk c):=by
 refine⟨g.cls,f,r,g.mt,g.b,?_⟩;refine LN g.fn yW (λts H Q h=>?_) (λG A m s H E ts H3 Q D h=>?_)
 .obtain⟨a,W,eG,i,rfl,_⟩:=h;rfl
 obtain⟨a,W,eG,i,rfl,x,I,z,o⟩:=h;refine⟨_,(ao (aJ (aQ (lu rfl) rfl B.sum_ lw (aa (bx rfl (bz (n0:=(aA (BD 26 3)).names) (N:=fJ) (N':=["rule","number"]) (nt:=1) (cap:=[1]) rfl rfl Ap) (bJ (fW j y8)) (λV v s H M S=>⟨(aB 0 (n7 ["rule","number"])),(dR (cJ (aH d D rfl (aa zo (aa (aK zD y8 au) aj))))),(aK zD y8 au)⟩)) aj)))),?_⟩;walk_at "q";walk_at "h";have n:=g8.mk o;clear o;have L:W.tasks.length<=8:=x.t8;obtain⟨p,O,C⟩:=I.ex;have U:=wz (W:=W) (eG:=eG) (p:=p);generalize EM W eG p=R at *;walk_at "";walk_at "c";refine dz (still:=bZ p (W.tasks.map (B5 W (W.tasks.map (·.1))))) (H:=H3) (B5 W (W.tasks.map (·.1))) (λt=>yv t.2.1) (λt=>decide (t.1∈pk W i)) W.tasks [ab (.int (i:Int))] (.inl C) yT ?c1 ?c2 ?c3
 case c1 =>
  intro t u F k
  have y:t.1∈W.tasks.map (·.1):=k_.mpr ⟨t,u,rfl⟩
  have J:decide (a5 (i:Int) (y3 (W.tasks.map (·.1)) [t.1])=y3 (W.tasks.map (·.1)) [t.1])=decide (t.1∈pk W i):=by
   rw[<- Vk x z,CA,q_,q_]
   exact ue y
  have l:=g8.mk k
  clear n k
  simp only[B5]
  walk_at ""
  refine⟨_,_,rfl,?_⟩
  rw[J]
  exact l.out
 case c2 =>
  intro t u _ F k
  clear n
  simp only[B5]
  walk_at ""
  try exact k
 case c3 =>
  intro q k
  have e:zv ((W.tasks.filter λt=>decide (t.1∈pk W i)).map λt=>yv t.2.1)=ab ((W.tasks.filter λt=>decide (t.1∈pk W i)).map (·.2.1)):=by
   rw[<- cN,L_];rfl
  rw[e,iu]
  exact My.of (gb.new k) n.out
abbrev c7:List ap:=["self","fillings"]
theorem qJ:fY c7 c7 (aA (BD 26 4)):=aZ
theorem qK {f:ah} (g:GM K c "dealing_of" "Walk.dealing_of" (BD 26 4) c7 f t) (B:Bl mg) (e:Fh K c ["works","beat","rules","whole"]) (d:R8 P w K mg base 1 "tasks_of" (yY 2) ["works","number"] Jh):F8 P w K mg base c 2 "dealing_of" c7 (Vm c):=by
 refine⟨g.cls,f,t,g.mt,g.b,?_⟩;refine LN g.fn qJ (λts H Q h=>?_) (λC A r s H E ts H3 Q z h=>?_)
 .obtain⟨a,W,eG,m,rfl,_⟩:=h;rfl
 obtain⟨a,W,eG,m,rfl,F,D,R,x,k⟩:=h;refine⟨_,(ao (aJ (bu b7 rfl B.tuple_ bT (aa (bx rfl (bz (n0:=(aA (BD 26 4)).names) (N:=c7) (N':=["filling","self"]) (nt:=1) (cap:=[0]) rfl rfl Ap) (bN zo) (λU u s H I O=>⟨(aB 0 (n7 ["filling","self"])),bG,(aH d z rfl (aa (fW e zo) (aa y8 aj)))⟩)) aj)))),?_⟩;walk_at "q";walk_at "h";have v:=g8.mk k;clear k;obtain⟨p,M,J⟩:=D.ex;have G:=wy (W:=W) (eG:=eG) (p:=p);generalize EM W eG p=S at *;walk_at "";walk_at "c";refine bO (still:=cC) (H:=H3) bF (λi=>sT (pk W i)) m [ab (.ref a)] trivial yT ?c1 ?c2
 case c1 =>
  intro i y L l
  have n:=x i y
  have j:((2^W.tasks.length:Nat):Int)=(2:Int)^W.tasks.length:=by push_cast;rfl
  have o:=g8.mk l
  clear v l
  simp only[bF]
  walk_at ""
  exact⟨W,(i:Int),rfl,F,Lc _,by rw[<- j];exact Int.ofNat_lt.mpr n,o.out⟩
 case c2 =>
  intro q l
  have k:=v.out
  rw[L_] at k
  walk_at ""
  exact My.of (gb.new l) k
abbrev jK:List ap:=["number","parts","worth"]
theorem NS:fY jK ["number"] (aA (yY 25)):=aZ
theorem wV {f:ah} (g:G3 K mg "parts_of" (yY 25) ["number"] f fd) (B:Bl mg) (c:R8 P w K mg base 1 "has_all" (yY 17) ["number","part"] wL):R8 P w K mg base 2 "parts_of" (yY 25) ["number"] Qj:=by
 refine c6 g NS ?_;rintro _ _ _ s H _ _ H3 _ hr ⟨N,rfl,hN,k⟩;refine⟨_,(ak (aG 1 NS.nd (bI (aa au aj)))
   (ak (aG 2 NS.nd au)
   (ak (jN x_ (aU Ew zt y8) (ak (bD (cJ (aH c hr rfl (aa y8 (aa zt aj)))) (ao (aG 1 NS.nd (aL bf zo (bx rfl (b6 25 jK ["part","worth"] 1 [2]) (bJ zo) (λcl ZO s H C0 fp=>⟨(aB 0 (n7 ["part","worth"])),bG,(aL bf y8 zo)⟩))))) aW)
    (ao (aG 2 NS.nd (aL ik zt au)))))
   (ao (aJ zo))))),?_⟩
 walk_at "q";walk_at "h";have k':=g8.mk k;clear k;walk_at "s";refine⟨y6,λI D=>?_⟩;have y:gb H3 (eH H3 I (.lst [yv 0])):=gb.new D;have Y:eH H3 I (.lst [yv 0]) I=ab (.lst (((ae (2^0)).filter (bW N)).map bF)):=by
  have h0:bW N 0=ag:=by rw[gQ];exact Nat.and_zero N
  rw[aC,show (ae (2^0))=[0] from rfl,LG,h0];rfl
 generalize eH H3 I (.lst [yv 0])=H4 at y Y |-;walk_at "n";walk_at "s";walk_at "n";refine aq λR2 V=>?_;refine⟨λm Z H=>∃(j:Nat) (q:ah),Z=[ab (.int (N:Int)),ab (.ref q),ab (.int ((2^j:Nat):Int))]/\gb H3 H/\H3 q=af/\H q=ab (.lst (((ae (2^j)).filter (bW N)).map bF))/\m=512 - 2^j/\(∀i,i+1=j->2^i<=N),⟨_,0,I,rfl,y,D,Y,rfl,(λi h=>by omega)⟩,?_⟩;rintro m Z H ⟨j,q,rfl,S,J,t,rfl,hj⟩;have X:2^j<=256:=by
  cases j with
  |zero=>decide
  |succ i =>
   have h1:=hj i rfl
   have h2:i<8:=by
    rcases gg i 8 with z | z
    ·
     exact z
    ·
     have:=KW (n:=2) y6 z
     omega
   exact U_ (KW y6 (show i+1<=8 by omega)) y6
 have hp:=sq (n:=j) (show 0<2 by decide);walk_at "";by_cases u:2^j<=N
 .have d:decide (((2^j:Nat):Int)<=(N:Int))=ag:=N_ (Int.ofNat_le.mpr u);rw[d,zi rfl];have hlen:(((ae (2^j)).filter (bW N))).length<=256:=U_ (DA _ _) (by rw[m_];exact X);have l:=Ib (N:=N) (k:=j);have e2:((2^j:Nat):Int)*2=((2^(j+1):Nat):Int):=by rw[Iy];push_cast;rfl
  have cm:Lv ((2^j:Nat):Int) 2:=.inl ⟨yT,yT⟩;have F:2^(j+1)=2^j*2:=by rw[Iy]
  have x:g8 (∀(M:ah) (H':gV),gb H3 H'->H3 M=af->H' M=ab (.lst (((ae (2^(j+1))).filter (bW N)).map bF))->∃m',m'<512 - 2^j/\∃(R:Nat) (q:ah),([ab (.int (N:Int)),ab (.ref M),ab (.int (((2^j:Nat):Int)*2))]:AJ)=[ab (.int (N:Int)),ab (.ref q),ab (.int ((2^R:Nat):Int))]/\gb H3 H'/\H3 q=af/\H' q=ab (.lst (((ae (2^R)).filter (bW N)).map bF))/\m'=512 - 2^R/\(∀i,i+1=R->2^i<=N)):=⟨λM H' s1 s2 s3=>⟨_,yT,j+1,M,by rw[e2],s1,s2,s3,rfl,λi hi=>by rw[show i=j by omega];exact u⟩⟩;clear hj V k' Y y e2 d F;generalize (ae (2^(j+1))).filter (bW N)=nx at *;generalize hcur:(ae (2^j)).filter (bW N)=a at *;refine⟨(N:Int),((2^j:Nat):Int),rfl,?_⟩;rw[show decide (a5 (N:Int) ((2^j:Nat):Int)=((2^j:Nat):Int))=bW N (2^j) from rfl];generalize 2^j=p at *;cases v:bW N p with
  |false=>rw[v] at l;simp only[H_,Y_,X_] at l;simp only[gJ,H_,Y_];rw[<- l] at t;exact⟨by first | trivial | exact cm,x.out q _ S J t⟩
  |true =>
  rw[v] at l;simp only[if_true] at l;try simp only[gJ,if_true]
  walk_at "c";rw[t,lX];refine bO bF (λi=>bF (i+p)) a [ab (.int (p:Int))] (.inl t) yT (λi hi Q' r=>?_) (λO C=>?_)
  .simp only[bF] at r |-;rw[show ((i+p:Nat):Int)=(i:Int)+(p:Int) by push_cast;rfl] at r;have W:=g8.mk r;clear r x;walk_at "";exact W.out
  have U:q≠O:=aR t C;rw[aD U,t,lz];refine⟨by rw[d_,d_];omega,λpq L=>?_⟩;have G:gb H3 (eH (eH H O (.lst (a.map λi=>bF (i+p)))) pq (.lst (a.map bF++a.map λi=>bF (i+p)))):=(S.trans (gb.new C)).trans (gb.new L);have h30:H3 pq=af:=cM (S.trans (gb.new C)) L;have gq:eH (eH H O (.lst (a.map λi=>bF (i+p)))) pq (.lst (a.map bF++a.map λi=>bF (i+p))) pq=ab (.lst (nx.map bF)):=by rw[aC,l,v_,L_];rfl
  generalize eH (eH H O (.lst (a.map λi=>bF (i+p)))) pq (.lst (a.map bF++a.map λi=>bF (i+p)))=H5 at G gq |-;exact⟨by first | trivial | exact cm,x.out pq _ G h30 gq⟩
 have d:decide (((2^j:Nat):Int)<=(N:Int))=am:=I_ (λz=>u (Int.ofNat_le.mp z));rw[d,y9 B_];rw[Ax yT] at t;walk_at "n";walk_at "";refine My.of ?_ (k'.out q J);intro b o v;by_cases e:b=q
 .subst e;rw[aC] at v;rw[t,v]
 rw[aD e] at v;exact S b o v
theorem wW:fY ["tasks"] ["tasks"] (aA (yY 23)):=aZ
theorem wX {f:ah} (g:G3 K mg "names_of" (yY 23) ["tasks"] f d) (B:Bl mg):R8 P w K mg base 1 "names_of" (yY 23) ["tasks"] Mv:=by
 refine c6 g wW ?_;rintro _ _ _ s H _ _ _ _ q ⟨tk,rfl,n,k⟩;refine⟨_,(ao (aJ (bx rfl (b6 23 ["tasks"] ["task"] 1 []) (bN y8) (λu c s H v o=>⟨(aB 0 (n7 ["task"])),bG,(aK zD y8 au)⟩)))),?_⟩;walk_at "q";walk_at "h";have e:=g8.mk k;clear k;walk_at "";walk_at "c";refine bO AE (λt=>yy t.1) tk [] trivial yT (λt p r m=>?_) (λl a=>?_)
 .clear e;simp only[AE];walk_at "";try exact m
 have:=e.out l a;rw[L_] at this;exact My.of gb.refl this
abbrev qb:List ap:=["works","rules","name","length","kinds","own","group","ahead","apart"]
theorem IB:fY qb ["works"] (aA (yY 16)):=aZ
theorem wY {f:ah} (g:G3 K mg "rules_of" (yY 16) ["works"] f X) (B:Bl mg) (d:R8 P w K mg base 1 "number_of" (yY 1) ["works","tasks"] Jg) (j:R8 P w K mg base 1 "apart_from" (yY 15) ["works","task"] Qs) (l:R8 P w K mg base 3 "ahead_of" (yY 11) ["works","task"] Zh) (m:R8 P w K mg base 3 "group_of" (yY 10) ["works","task"] Zg):R8 P w K mg base 4 "rules_of" (yY 16) ["works"] Qt:=by
 refine c6 g IB ?_;rintro _ A _ _ H _ _ H3 _ u ⟨⟨tk,c,AC,b⟩,rfl,r,k⟩;refine⟨_,(ak (aG 1 IB.nd (bI aj))
   (ak (aV x_ rfl (bN (aK zD y8 au)) (bH (n:=3) rfl (aF (aB 2 IB.nd) (aF (aB 3 IB.nd) (aF (aB 4 IB.nd) bh)))) (ak (aG 5 IB.nd (aH d u rfl (aa y8 (aa (bc (aa zt aj)) aj))))
    (ak (aG 6 IB.nd (aH d u rfl (aa y8 (aa (aH m u rfl (aa y8 (aa zt aj))) aj))))
    (ak (aG 7 IB.nd (aH d u rfl (aa y8 (aa (aH l u rfl (aa y8 (aa zt aj))) aj))))
    (ak (aG 8 IB.nd (aH d u rfl (aa y8 (aa (aH j u rfl (aa y8 (aa zt aj))) aj))))
    (ao (bM (cW J_ R_ S_ bB zo (aa (bc (aa AI (aa z4 (aa AD (aa BU (aa BO (aa BN aj))))))) aj)))))))))
   (ao (aJ zo)))),?_⟩
 walk_at "q";walk_at "h";have t8:tk.length<=8:=r.t8;walk_at "";refine⟨yT,λp D=>?_⟩;refine aN AE tk (λA Z H=>∃(G v3 O J C M S:Option T) (t:gV),Z=[ab (yA [yA (tk.map AE),yA (c.map AG),yA (AC.map AW),yA (b.map yy)]),ab (.ref p),G,v3,O,J,C,M,S]/\H=eH t p (.lst (A.map (B5 ⟨tk,c,AC,b⟩ (tk.map (·.1)))))/\gb H3 t/\H3 p=af) ⟨af,af,af,af,af,af,af,H3,rfl,rfl,gb.refl,D⟩ ?_ ?_
 .rintro Z H ⟨G,v3,O,J,C,M,S,t,rfl,rfl,R,_⟩;walk_at "t";walk_at "";refine My.of (λa o e=>?_) (k p D);by_cases h:a=p
  .subst h;rw[aC] at e |-;exact e
  rw[aD h] at e |-;exact R _ _ e
 rintro A ⟨nm,v,V⟩ B Z H N e ⟨G,v3,O,J,C,M,S,t,rfl,rfl,R,_⟩ U;have Y:A.length<=8:=by have:=Q_ aT e;simp only[b_,j_] at this;omega
 walk_at "t";have y:g8 (∀q,eH t p (.lst (A.map (B5 ⟨tk,c,AC,b⟩ (tk.map (·.1))))) q=af->N [ab (yA [yA (tk.map AE),yA (c.map AG),yA (AC.map AW),yA (b.map yy)]),ab (.ref p),ab (.str nm),ab (.int v),ab (sT V),ab (.int (y3 (tk.map (·.1)) [nm])),ab (.int (y3 (tk.map (·.1)) (gM ⟨tk,c,AC,b⟩ nm))),ab (.int (y3 (tk.map (·.1)) (jG ⟨tk,c,AC,b⟩ nm))),ab (.int (y3 (tk.map (·.1)) (j0 ⟨tk,c,AC,b⟩ nm)))] (eH (eH (eH t p (.lst (A.map (B5 ⟨tk,c,AC,b⟩ (tk.map (·.1)))))) q (.lst ((j0 ⟨tk,c,AC,b⟩ nm).map yy))) p (.lst (A.map (B5 ⟨tk,c,AC,b⟩ (tk.map (·.1)))++[B5 ⟨tk,c,AC,b⟩ (tk.map (·.1)) (nm,v,V)])))):=⟨λq z=>by
  obtain⟨F,x⟩:=cA z
  refine U _ _ ⟨_,_,_,_,_,_,_,eH t q (.lst ((j0 ⟨tk,c,AC,b⟩ nm).map yy)),rfl,?_,R.trans (gb.new x),D⟩
  rw[v_,Fq (aS F),zp]
  rfl⟩
 have L:(A.map (B5 ⟨tk,c,AC,b⟩ (tk.map (·.1)))).length<=8:=by rw[d_];exact Y
 generalize A.map (B5 ⟨tk,c,AC,b⟩ (tk.map (·.1)))=cur at y L;clear U e k Y;simp only[AE];walk_at "";refine⟨zC,yT,⟨tk,c,AC,b⟩,_,[nm],rfl,r,.inl rfl,?_⟩;walk_at "";refine⟨⟨tk,c,AC,b⟩,nm,rfl,r,?_⟩;try dsimp only
 refine⟨⟨tk,c,AC,b⟩,_,gM ⟨tk,c,AC,b⟩ nm,rfl,r,.inl rfl,?_⟩;walk_at "";refine⟨⟨tk,c,AC,b⟩,nm,rfl,r,?_⟩;try dsimp only
 refine⟨⟨tk,c,AC,b⟩,_,jG ⟨tk,c,AC,b⟩ nm,rfl,r,.inl rfl,?_⟩;walk_at "";refine⟨⟨tk,c,AC,b⟩,nm,rfl,r,λq z=>?_⟩;obtain⟨F,x⟩:=cA z;have n1':=aS F;try dsimp only
 refine⟨⟨tk,c,AC,b⟩,_,j0 ⟨tk,c,AC,b⟩ nm,rfl,r,.inr ⟨q,rfl,aC⟩,?_⟩;walk_at "";exact⟨⟨zC,zC⟩,yT,yT,y.out q z⟩
abbrev eY:List ap:=["rules","beat","kind","done","number","load","own","length","kinds","group","ahead","apart"]
theorem nJ:fY eY ["rules","beat","kind","done","number"] (aA (yY 18)):=aZ
theorem jb {f:ah} (g:G3 K mg "is_filling_number" (yY 18) ["rules","beat","kind","done","number"] f fd) (B:Bl mg) (b:R8 P w K mg base 1 "has_all" (yY 17) ["number","part"] wL) (d:R8 P w K mg base 1 "may_be_done" (yY 13) ["kinds","kind"] Ji):R8 P w K mg base 2 "is_filling_number" (yY 18) ["rules","beat","kind","done","number"] Qu:=by
 refine c6 g nJ ?_;rintro _ A _ _ H _ _ H3 Q L ⟨W,a,eG,c,D,S,rfl,hW,ha,k⟩;have O:=Pr.u30 L;refine⟨_,(ak (aG 5 nJ.nd au)
   (ak (aV x_ rfl (bJ y8) (bH (n:=6) rfl (aF (aB 6 nJ.nd) (aF (aB 7 nJ.nd) (aF (aB 8 nJ.nd) (aF (aB 9 nJ.nd) (aF (aB 10 nJ.nd) (aF (aB 11 nJ.nd) bh))))))) (ao (bD (cJ (aH b L rfl (aa AD (aa BU aj)))) (ak (bD (BG.pt (lV (cJ (aH b L rfl (aa z4 (aa BU aj)))) (lq (gZ (cJ (aH d L rfl (aa BN (aa zt aj)))))))) (ao (aJ eO)) aW)
     (ak (bD (BG.pt (lV (gZ (cJ (aH b L rfl (aa AD (aa E8 aj))))) (lq (gZ (cJ (aH b L rfl (aa (aL XC AD z4) (aa (v3 10) aj)))))))) (ao (aJ eO)) aW)
     (ak (bD (aU (jO O) (aL xZ AD (v3 11)) au) (ao (aJ eO)) aW)
     (ao (aG 5 nJ.nd (aL bf AI BO)))))) aW)))
   (ao (aJ (du Ew AI zo))))),?_⟩
 walk_at "q";walk_at "h";walk_at "";refine aN (B5 W (W.tasks.map (·.1))) W.tasks (λA Z H=>∃(y I G C m l:Option T),Z=[ab (.ref a),ab (.int eG),ab (.str c),ab (.int (y3 (W.tasks.map (·.1)) D)),ab (.int (y3 (W.tasks.map (·.1)) S)),ab (.int (cB A S)),y,I,G,C,m,l]/\H=H3/\(A.all λt=>!decide (t.1∈S)||LS W c D S t)=ag) ⟨af,af,af,af,af,af,rfl,rfl,rfl⟩ ?_ ?_
 .rintro Z H ⟨y,I,G,C,m,l,rfl,rfl,o⟩;refine⟨.inl ha,?_⟩;walk_at "";refine My.of gb.refl ?_;unfold yz at k;rw[o,ND] at k;exact k
 rintro A t B Z H N e ⟨y,I,G,C,m,l,rfl,rfl,o⟩ hN;refine⟨.inl ha,?_⟩;have J:t∈W.tasks:=by rw[e];simp
 have F:t.1∈W.tasks.map (·.1):=k_.mpr ⟨t,J,rfl⟩;have u:∀x∈gM W t.1,x∈W.tasks.map (·.1):=λx j=>(D_.mp j).1;have r:∀x∈jG W t.1,x∈W.tasks.map (·.1):=λx j=>(D_.mp j).1;have v:∀x∈j0 W t.1,x∈W.tasks.map (·.1):=λx j=>by obtain⟨p,hp,rfl⟩:=k_.mp j;exact (hW.pp p (D_.mp hp).1).2.2.2
 have b1:decide (a5 (y3 (W.tasks.map (·.1)) S) (y3 (W.tasks.map (·.1)) [t.1])=y3 (W.tasks.map (·.1)) [t.1])=decide (t.1∈S):=by rw[CA,q_,q_];exact ue F
 have b2:decide (a5 (y3 (W.tasks.map (·.1)) D) (y3 (W.tasks.map (·.1)) [t.1])=y3 (W.tasks.map (·.1)) [t.1])=decide (t.1∈D):=by rw[CA,q_,q_];exact ue F
 have b3:decide (a5 (y3 (W.tasks.map (·.1)) S) (y3 (W.tasks.map (·.1)) (gM W t.1))=y3 (W.tasks.map (·.1)) (gM W t.1))=@decide (∀x∈gM W t.1,x∈S) (ay _):=by rw[CA,q_,@q_ _ (ay _),gG];exact⟨λh x j=>h x (u x j) j,λh x _ j=>h x j⟩
 have b4:decide (a5 (eg (y3 (W.tasks.map (·.1)) S) (y3 (W.tasks.map (·.1)) D)) (y3 (W.tasks.map (·.1)) (jG W t.1))=y3 (W.tasks.map (·.1)) (jG W t.1))=@decide (∀x∈jG W t.1,x∈S++D) (ay _):=by rw[CA,q_,@q_ _ (ay _),Uy,gG];exact⟨λh x j=>h x (r x j) j,λh x _ j=>h x j⟩
 have b5:decide (a5 (y3 (W.tasks.map (·.1)) S) (y3 (W.tasks.map (·.1)) (j0 W t.1))=0)=@decide (∀x∈j0 W t.1,x∉S) (ay _):=by rw[CA,q_,@q_ _ (ay _),t6];exact⟨λh x j hs=>h x (v x j) ⟨hs,j⟩,λh x _ z=>h x z.2 z.1⟩
 have q:g8 (t.1∈S->LS W c D S t=am->My Q (.bl am) H):=⟨λh1 h2=>by
  refine My.of gb.refl ?_
  have e0:yz W eG c D S=am:=by
   unfold yz
   rw[Bool.and_eq_false_iff]
   refine .inl ?_
   rw[List.all_eq_false]
   exact⟨t,J,by simp [h1,h2]⟩
  rw[e0] at k
  exact k⟩
 have M:g8 (∀(y I G C m l:Option T),(t.1∈S->LS W c D S t=ag)->N [ab (.ref a),ab (.int eG),ab (.str c),ab (.int (y3 (W.tasks.map (·.1)) D)),ab (.int (y3 (W.tasks.map (·.1)) S)),ab (.int (cB A S+if t.1∈S then t.2.1 else 0)),y,I,G,C,m,l] H):=⟨λy I G C m l h=>hN _ _ ⟨y,I,G,C,m,l,by rw[yC],rfl,by
  rw[sK,o]
  by_cases z:t.1∈S
  ·
   simp [h z]
  ·
   simp [z]⟩⟩
 clear hN o k e u r v F J;obtain⟨nm,len,ks⟩:=t;dsimp only at *;generalize y3 (W.tasks.map (·.1)) D=nD at *;generalize y3 (W.tasks.map (·.1)) S=V at *;simp only[B5];generalize y3 (W.tasks.map (·.1)) [nm]=n1 at *;generalize y3 (W.tasks.map (·.1)) (gM W nm)=n2 at *;generalize y3 (W.tasks.map (·.1)) (jG W nm)=n3 at *;generalize y3 (W.tasks.map (·.1)) (j0 W nm)=n4 at *;unfold LS at q M;dsimp only at q M;generalize hc1:decide (nm∈D)=c1 at *;generalize Y:@decide (∀x∈gM W nm,x∈S) (ay _)=c3 at *;generalize R:@decide (∀x∈jG W nm,x∈S++D) (ay _)=c4 at *;generalize U:@decide (∀x∈j0 W nm,x∉S) (ay _)=c5 at *;clear hc1 Y R U;walk_at "";refine⟨zC,V,n1,rfl,?_⟩;rw[b1];by_cases hS:nm∈S
 .simp only[hS,EU,if_true,gJ,true_implies] at q M |-;refine⟨nD,n1,rfl,?_⟩;rw[b2];cases c1 with
  |true =>
   try simp only[gJ,if_true]
   exact q.out ze
  |false =>
  simp only[gJ,H_,Y_];refine⟨ks,c,rfl,?_⟩;generalize iJ ks c=c2 at *;cases c2 with
  |false=>simp only[gJ,FB,if_true];exact q.out ze
  |true =>
  simp only[gJ,E9,H_,Y_];refine⟨V,n2,rfl,?_⟩;rw[b3];cases c3 with
  |false=>simp only[gJ,FB,if_true];exact q.out ze
  |true =>
  simp only[gJ,E9,H_,Y_];refine⟨eg V nD,n3,rfl,?_⟩;rw[b4];cases c4 with
  |false=>simp only[gJ,FB,if_true];exact q.out ze
  |true =>
  simp only[gJ,E9,H_,Y_];try rw[b5]
  cases c5 with
  |false=>simp only[FB,if_true];exact q.out ze
  |true =>
  simp only[E9,H_,Y_];exact M.out _ _ _ _ _ _ ze
 simp only[hS,ER,H_,Y_,gJ,qf,false_implies] at q M |-;exact M.out _ _ _ _ _ _ (by first | trivial | simp)
end
def Jj (K:a3):Bool:=K.all λp=>!(p.2.cls==.type "list")
theorem Jk {K:a3} (e:K.lookup a=ab o):(a,o)∈K:=by
 induction K with
 |nil=>cases e
 |cons p r c =>
 obtain⟨b,u⟩:=p;rw[GS] at e;split at e
 .rename_i h;rw[eq_of_beq h,T_ e];exact n_
 exact A_ _ (c e)
theorem Dt {K:a3} (h:Jj K=ag) (e:K.lookup a=ab o):o.cls≠.type "list":=λz=>by
 have b:(a,o)∈K:=Jk e;have q:=W_.mp h (a,o) b;rw[z] at q;simp at q
theorem uc (h:us.length=n+1):∃(a:av) (r:List av),us=a::r/\r.length=n:=by
 cases us with
 |nil=>exact nomatch h
 |cons a r=>exact⟨a,r,rfl,Nat.succ.inj h⟩
theorem uz {us:List av}(h:us.length=0):us=[]:=MZ h
theorem Y3 (h:∀a:av,dc c ⟨[a],[]⟩=bE ([b].zip [a])) (us:List av) (e:us.length=1):dc c ⟨us,[]⟩=bE ([b].zip us):=by
 obtain⟨a,g,d,f⟩:=uc e;rw[d,uz f];exact h a
theorem RE {c f:ap} (h:∀a b:av,dc d ⟨[a,b],[]⟩=bE ([c,f].zip [a,b])) (us:List av) (e:us.length=2):dc d ⟨us,[]⟩=bE ([c,f].zip us):=by
 obtain⟨a,l,g,j⟩:=uc e;obtain⟨b,m,k,i⟩:=uc j;rw[g,k,uz i];exact h a b
theorem P9 {d i f:ap} (h:∀a b c:av,dc g ⟨[a,b,c],[]⟩=bE ([d,i,f].zip [a,b,c])) (us:List av) (e:us.length=3):dc g ⟨us,[]⟩=bE ([d,i,f].zip us):=by
 obtain⟨a,q,j,l⟩:=uc e;obtain⟨b,r,o,k⟩:=uc l;obtain⟨c,p,n,m⟩:=uc k;rw[j,o,n,uz m];exact h a b c
theorem YY {f j i k:ap} (h:∀c d b a:av,dc g ⟨[c,d,b,a],[]⟩=bE ([f,j,i,k].zip [c,d,b,a])) (us:List av) (e:us.length=4):dc g ⟨us,[]⟩=bE ([f,j,i,k].zip us):=by
 obtain⟨c,v,m,p⟩:=uc e;obtain⟨d,u,o,n⟩:=uc p;obtain⟨b,w,s,l⟩:=uc n;obtain⟨a,t,r,q⟩:=uc l;rw[m,o,s,r,uz q];exact h c d b a
theorem ZE (h:∀c f b a d:av,dc i ⟨[c,f,b,a,d],[]⟩=bE ([g,l,j,m,k].zip [c,f,b,a,d])) (us:List av) (e:us.length=5):dc i ⟨us,[]⟩=bE ([g,l,j,m,k].zip us):=by
 obtain⟨c,z,p,s⟩:=uc e;obtain⟨f,y,r,q⟩:=uc s;obtain⟨b,A,w,o⟩:=uc q;obtain⟨a,x,u,t⟩:=uc o;obtain⟨d,B,v,n⟩:=uc t;rw[p,r,w,u,v,uz n];exact h c f b a d
theorem WV (h:∀d g b a f c:av,dc k ⟨[d,g,b,a,f,c],[]⟩=bE ([i,n,l,o,m,j].zip [d,g,b,a,f,c])) (us:List av) (e:us.length=6):dc k ⟨us,[]⟩=bE ([i,n,l,o,m,j].zip us):=by
 obtain⟨d,D,s,w⟩:=uc e;obtain⟨g,C,v,t⟩:=uc w;obtain⟨b,E,q,r⟩:=uc t;obtain⟨a,B,y,x⟩:=uc r;obtain⟨f,F,A,p⟩:=uc x;obtain⟨c,G,u,z⟩:=uc p;rw[s,v,q,y,A,u,uz z];exact h d g b a f c
theorem VX {K:a3}{st:eB}{f:ah}{kV d g b e:av} (X:K.In h) (G:h.Ns bv n) (a:nsIn K bv x=ab (ab (.ref f))) (l:K.lookup f=ab ⟨q,p,.func (nv x x (cV st) (cH st) (aA st) .none kV d g i b e),m⟩) (c:rp K b x=ag) (k:kx K (.ref f)=ag) (o:∀(kV d g:av) (i:Option ah) (b e:av) (us:List av),us.length=j.length->dc (nv x x (cV st) (cH st) (aA st) .none kV d g i b e) ⟨us,[]⟩=bE (j.zip us)):
  G3 K n x st j f (nv x x (cV st) (cH st) (aA st) .none kV d g i b e) :=
 have F:=Eh (st:=st) l c k
 ⟨F,F.binds o,mg_of X G a⟩
theorem bL (i:Nat) (b:List ap) (x:ap) (f:ah) (m:ap) (t c:Nat) {K:a3} (X:K.In h) (G:h.Ns bv d) (g:∀(kV doc pm:av) (an:Option ah) (cdv ct:av) (us:List av),us.length=b.length->dc (nv x x (cV (yY i)) (cH (yY i)) (aA (yY i)) .none kV doc pm an cdv ct) ⟨us,[]⟩=bE (b.zip us):=by first | exact λ_ _ _ _ _ _=>Y3 λ_=>rfl | exact λ_ _ _ _ _ _=>RE λ_ _=>rfl | exact λ_ _ _ _ _ _=>P9 λ_ _ _=>rfl | exact λ_ _ _ _ _ _=>YY λ_ _ _ _=>rfl | exact λ_ _ _ _ _ _=>ZE λ_ _ _ _ _=>rfl | exact λ_ _ _ _ _ _=>WV λ_ _ _ _ _ _=>rfl) (a:nsIn K bv x=ab (ab (.ref f)):=by kernel_rfl) (l:K.lookup f=ab (fO i x m t c):=by kernel_rfl) (e:rp K (.ref c) x=ag:=by kernel_rfl) (k:kx K (.ref f)=ag:=by kernel_rfl):
  G3 K d x (yY i) b f (nv x x (cV (yY i)) (cH (yY i)) (aA (yY i)) .none .none .none (.str m t) af (.ref c) .none) :=
 VX X G a l e k g
theorem wZ {K:a3}(n q:ap) (st:eB) (f:ah) (m:ap) (t c:Nat) (l:K.lookup f=ab (fQ st n q m t c):=by kernel_rfl) (e:rp K (.ref c) q=ag:=by kernel_rfl) (k:kx K (.ref f)=ag:=by kernel_rfl):GT K n q st f (nv n q (cV st) (cH st) (aA st) .none .none .none (.str m t) af (.ref c) .none):=Eh l e k
theorem ah0 {l:PySem.W.OpenLaw} (X:(KK w.params).In h) (G:h.Ns bv mg) (hfa:mg "law"=ab (.ref fa)):
  ∃fd:de,(∀(s:aE) (v:av),qB s fd ⟨[v],[]⟩ [(DT,v)])/\∀base:cK,(KK w.params).In base->base.Ns bv mg->lW l.prog w (KK w.params) mg base 9 fa fd [DT] Bg:=by
 have F:∀{n:ap} {v:av},nsIn (KK w.params) bv n=ab (ab v)->mg n=ab v:=λe=>mg_of X G e;have ve:∀{n:ap},nsIn (KK w.params) bv n=ab af->mg n=af:=λe=>PySem.W.mg_none_of X G e;have e:=hfa.symm.trans (F (v:=.ref 425) AR);cases e;have B:Bl mg:=by constructor <;> exact ve AR
 refine⟨nv "law" "law" (cV (yY 72)) (cH (yY 72)) (aA (yY 72)) .none .none .none (.str AY 647) af (.ref 424) .none,λs v=>.of_eq rfl,λbase _ _=>?_⟩;have d:FO (KK w.params) 170:=⟨AR,AR,AR,AR⟩;have up:∀n∈(["works","beat","rules","whole"]:List ap),i5 (KK w.params) (.ref 170) n=ab af:=λn hn=>by simp only[o_,B8,B7] at hn;rcases hn with rfl | rfl | rfl | rfl <;> kernel_rfl
 have b:Fh (KK w.params) 170 ["works","beat","rules","whole"]:=⟨d,up⟩;have C:=wZ (K:=KK w.params) "__init__" "Walk.__init__" (BD 26 0) 145 Fm 359 144;have g_Walk:GI (KK w.params) mg 170 "Walk" "Walk.__init__" (BD 26 0) ["self","works","beat"] 145 _:=⟨⟨AR,AR,AR,AR⟩,C,C.binds λ_ _ _ _ _ _=>P9 λ_ _ _=>rfl,F (v:=.ref 170) AR⟩;have i:=wZ (K:=KK w.params) "fillings_at" "Walk.fillings_at" (BD 26 1) 150 Fm 359 149;have g_fillings_at:GM (KK w.params) 170 "fillings_at" "Walk.fillings_at" (BD 26 1) ["self","stand","done"] 150 _:=⟨d,i,i.binds λ_ _ _ _ _ _=>P9 λ_ _ _=>rfl,⟨AR,AR,AR⟩⟩;have j:=wZ (K:=KK w.params) "greatest_at" "Walk.greatest_at" (BD 26 2) 157 Fm 359 156;have g_greatest_at:GM (KK w.params) 170 "greatest_at" "Walk.greatest_at" (BD 26 2) ["self","stand","done"] 157 _:=⟨d,j,j.binds λ_ _ _ _ _ _=>P9 λ_ _ _=>rfl,⟨AR,AR,AR⟩⟩;have H:=wZ (K:=KK w.params) "load_at" "Walk.load_at" (BD 26 3) 162 Fm 359 161;have g_load_at:GM (KK w.params) 170 "load_at" "Walk.load_at" (BD 26 3) ["self","number"] 162 _:=⟨d,H,H.binds λ_ _ _ _ _ _=>RE λ_ _=>rfl,⟨AR,AR,AR⟩⟩;have m:=wZ (K:=KK w.params) "dealing_of" "Walk.dealing_of" (BD 26 4) 167 Fm 359 166;have g_dealing_of:GM (KK w.params) 170 "dealing_of" "Walk.dealing_of" (BD 26 4) ["self","fillings"] 167 _:=⟨d,m,m.binds λ_ _ _ _ _ _=>RE λ_ _=>rfl,⟨AR,AR,AR⟩⟩;have vx:=yL (P:=l.prog) (w:=w) (base:=base) (bL 54 [DT] "_law_numbers" 325 AY 647 324 X G) B;have a:=Ni (P:=l.prog) (w:=w) (base:=base) (bL 55 [At,BI] EA 332 AY 647 331 X G) B;have S:=uv (P:=l.prog) (w:=w) (base:=base) (bL 57 ["_law_size",LF,AF] "_law_free_name" 346 AY 647 345 X G) B;have D:=IV (bL 58 [At,Bi] "_law_names" 351 AY 647 350 X G) B a S;have Z:=Nj (bL 59 [At,IX] "_law_turn" 358 AY 647 357 X G) B a;have va:=yN (P:=l.prog) (w:=w) (base:=base) (bL 61 [Bi,FC] "_law_chained" 368 AY 647 367 X G) B;have v6:=IW (bL 62 [At,AF,Kk,"_law_lots"] "_law_pairs" 373 AY 647 372 X G) B (Ir Z) a va;have T:=qu (bL 63 [At,Kt,AF] "_law_some_kinds" 378 AY 647 377 X G) B (Ir Z) a;have wa:=Ja (bL 64 [At,"_law_row",AF,GE] "_law_kinds" 383 AY 647 382 X G) B a T;have O:=Iz (bL 56 [At,BI] "_law_great" 339 AY 647 338 X G) B a;have vj:=yM (bL 60 [At,Bi] "_law_lengths" 363 AY 647 362 X G) B a O
 have vk:=Jb (bL 65 [At,BI,"_law_stands"] "_law_works" 388 AY 647 387 X G) B D a (Ir Z) v6 wa vj;have Y:=mY (P:=l.prog) (w:=w) (base:=base) (bL 51 ["works"] "loads_rising" 311 "stationrow.beats" 627 310 X G) B;have z:=uE (P:=l.prog) (w:=w) (base:=base) (bL 1 ["works","tasks"] "number_of" 21 "stationrow.sets" 187 20 X G) B;have ua:=qy (P:=l.prog) (w:=w) (base:=base) (bL 15 ["works","task"] "apart_from" 90 HI 288 89 X G) B;have A:=kj (P:=l.prog) (w:=w) (base:=base) (bL 9 ["works","found","other"] "in_first_alone" 64 DL 211 63 X G) B;have u:=yO (P:=l.prog) (w:=w) (base:=base) (bL 5 ["links","start"] "reached" 42 DL 211 41 X G) B;have J:=wD (P:=l.prog) (w:=w) (base:=base) (bL 4 ["works"] "links_of" 35 DL 211 34 X G) B;have N:=wG (bL 7 ["works","task"] "led_from" 54 DL 211 53 X G) B u J;have y:=Ds (bL 6 ["works","task"] "led_to" 49 DL 211 48 X G) B u J;have vw:=wK (bL 11 ["works","task"] "ahead_of" 78 DL 211 77 X G) B A N y;have u3:=yQ (P:=l.prog) (w:=w) (base:=base) (bL 8 ["works","found","other"] "in_both" 59 DL 211 58 X G) B;have vb:=wI (bL 10 ["works","task"] "group_of" 71 DL 211 70 X G) B u3 y N
 have wb:=wY (bL 16 ["works"] "rules_of" 97 HI 288 96 X G) B z ua vw vb;have o:=wX (P:=l.prog) (w:=w) (base:=base) (bL 23 ["tasks"] "names_of" 126 "stationrow.texts" 351 125 X G) B;have k:=Nq g_Walk B b wb z o;have f:=yS (P:=l.prog) (w:=w) (base:=base) (bL 17 ["number","part"] "has_all" 104 HI 288 103 X G) B;have t:=jq (bL 19 ["numbers"] "greatest_numbers" 116 HI 288 115 X G) B f;have we:=wV (bL 25 ["number"] "parts_of" 131 Fm 359 130 X G) B f;have q:=pN (P:=l.prog) (w:=w) (base:=base) (bL 13 ["kinds","kind"] "may_be_done" 85 "stationrow.checks" 278 84 X G) B;have r:=jb (bL 18 ["rules","beat","kind","done","number"] "is_filling_number" 111 HI 288 110 X G) B f q;have p:=p8 g_fillings_at B b we r;have vl:=pZ g_greatest_at B b t p
 have wf:=pX (bL 48 ["walk","stand","ways"] "ways_behind" 299 "stationrow.dealt" 600 298 X G) B b vl
 have L:=wM (P:=l.prog) (w:=w) (base:=base) (bL 2 ["works","number"] "tasks_of" 28 "stationrow.sets" 187 27 X G) B;have x:=qK g_dealing_of B b L;have ui:=qI (bL 49 ["works","beat","many"] "dealing_to" 306 "stationrow.dealt" 600 305 X G) B b k wf x;have vu:=qH (bL 52 ["works","many"] "least_beat" 318 "stationrow.beats" 627 317 X G) B Y ui;have u8:=Nk (bL 66 [At,BE] "_law_beat" 393 AY 647 392 X G) B a O
 have vi:=Jc (P:=l.prog) (w:=w) (base:=base) (bL 67 [BE,"_law_at"] "_law_holds" 400 AY 647 399 X G) B;have u4:=Jd (bL 68 [BE,Bi] "_law_every" 405 AY 647 404 X G) B vi;have vv:=uD (bL 69 [At,BE] "_law_otherwise" 410 AY 647 409 X G) B D Z;have vt:=yX g_load_at B b f;have V:=mX (bL 28 ["walk","stand","evens"] "evens_behind" 181 KF 427 180 X G) B b p vt
 have c:=jJ (bL 29 ["walk","many"] "evens_by_stands" 188 KF 427 187 X G) B V;have vn:=uG (bL 31 ["works","beat","many"] "most_even" 200 KF 427 199 X G) B b k c x;have U:=mU (P:=l.prog) (w:=w) (base:=base) (bL 21 ["works"] "turned_about" 121 "stationrow.works" 343 120 X G) B;have R:=mW (P:=l.prog) (w:=w) (base:=base) (bL 37 ["works","dealing"] "number_fault" 231 BC 472 230 X G) B;have M:=wU (P:=l.prog) (w:=w) (base:=base) (bL 35 ["dealing"] "texts_of" 217 BC 472 216 X G) B;have E:=lM (bL 38 ["works","dealing"] "strange_fault" 238 BC 472 237 X G) B o M;have u7:=pR (bL 39 ["dealing"] "twice_fault" 245 BC 472 244 X G) B M;have g:=uF (P:=l.prog) (w:=w) (base:=base) (bL 36 ["dealing"] "stands_of" 224 BC 472 223 X G) B;have ub:=qC (bL 40 ["works","dealing"] "lost_fault" 252 BC 472 251 X G) B g o;have vr:=pQ (bL 45 ["works","dealing"] "tasks_fault" 285 BC 472 284 X G) B R E u7 ub;have v0:=pU (bL 41 ["works","dealing"] "order_fault" 259 BC 472 258 X G) B g;have uj:=qD (bL 42 ["works","dealing"] "pair_fault" 266 BC 472 265 X G) B g;have wc:=qF (bL 43 ["works","dealing"] "kind_fault" 271 BC 472 270 X G) B q;have uk:=yV (P:=l.prog) (w:=w) (base:=base) (bL 33 ["works","tasks"] "load_of" 205 BC 472 204 X G) B;have I:=wR (bL 34 ["works","dealing"] "loads_of" 210 BC 472 209 X G) B uk;have vy:=qG (bL 44 ["works","beat","dealing"] "beat_fault" 278 BC 472 277 X G) B I;have Q:=wO (bL 46 ["works","beat","dealing"] "fault_of" 292 BC 472 291 X G) B vr v0 uj wc vy;have vc:=Jf (bL 71 [BE,LO,IM,"_law_due"] "_law_right" 420 AY 647 419 X G) B Q I;have uu:=qw (P:=l.prog) (w:=w) (base:=base) (bL 70 [IM,AF] "_law_named_back" 415 AY 647 414 X G) B;have u2:=qz (bL 30 ["works","beat","many"] "even_table" 193 KF 427 192 X G) B b k c L;exact Vv (bL 72 [DT] "law" 425 AY 647 424 X G) B vx vk vu u8 a u4 vv vn U vc uu u2
theorem walk {l:PySem.W.OpenLaw}{K:nK->a3} (B:l.most=ab 63) (i:d.params.defaults=[]) (y:∀(w:bP) (h:cK),YP w h->(K w.params).In h) (j:∀w:bP,Jj (K w.params)=ag) (F:∀(w:bP) (mg:ap->Option av) (fa:ah) (h:cK),(K w.params).In h->h.Ns bv mg->mg d.name=ab (.ref fa) ->
   ∃fd:de,(∀(s:aE) (u:av),qB s fd ⟨[u],[]⟩ [(DT,u)])/\∀base:cK,(K w.params).In base->base.Ns bv mg->lW l.prog w (K w.params) mg base 9 fa fd [DT] Bg):
  xp q loose XP YP l.row.toRowW d [] (λf vs=>wl f vs):=by
 refine L2.ahf (n:=63) (k:=9) (x:=DT) (CX:=λ_=>Lo) (sp:=λw=>u9 (K w.params) Bg) B y6 i ⟨rfl,y6,y6,rfl⟩ y F (λw H a ns D J p=>?_) λ_ _ _ _ _ z=>z;refine⟨[.ref a],λb=>if b=a then ab (.rol (ns.map yv)) else af,λt _=>t=.bl ag,.cons .ofRef .nil,λb o e=>?_,⟨a,ns,rfl,zi rfl,D,λ_=>rfl⟩,λv H' t C _ _ r q=>?_⟩
 .dsimp only at e;by_cases g:b=a
  .rw[zi g] at e;cases e;subst g;rcases p with p | ⟨o,G,n,I,E,_⟩
   .refine⟨_,p,?_⟩;have:∀c:List Int,jj (K w.params) H (c.map yv) (c.map V.int):=λc=>by
     induction c with
     |nil=>exact .nil
     |cons m r A=>exact .cons .ofInt A
    exact this ns
   exact As E (Dt (j w) I)
  rw[y9 g] at e;cases e
 subst q;exact r.bl
end M
open PySem PySem.W PyProof.Rows
set_option maxRecDepth 100000 in
set_option maxHeartbeats 0 in
theorem PySem.Challenge.cw_stationrow_k93_whole_most_even_holds : PySem.Challenge.rw_stationrow_k93_whole_most_even.Holds :=
 M.zqH (M.walk (l:=PySem.Challenge.rw_stationrow_k93_whole_most_even) rfl rfl (λw h Y=>kIn_of Y) (λw=>by kernel_rfl) λw mg fa h KX G hmg=>M.ah0 KX G hmg)
