import PyProof.Rows.All
import PyProof.EqAt
import PyProof.EqKinds
import PyProof.TupleCall
import KE.KLam
import KE.KSortKey
import PyProof.NeKinds
import PyProof.StrWalks
import PyProof.Rows.SetFrom
import PyProof.WalksMore
import KE.KIntText
import PyProof.EnumMake
import PyProof.WalkInts
import PyProof.ReprRoads
import PyProof.ReprLen
import KE.KRevIter
import KE.KRevSl
import PyProof.StrCalls
import PyProof.Rows.StrFit
import KE.KDictOf
import PyProof.AttrMissHeap
import PyProof.DictItems
import KE.KDictLaws
import KE.KSortTup
import KE.KDictList
import PyProof.StrLawsTight
import PyProof.StrLawsNeg
import Open.Tree
import Wide.Line
import OpenK.KOwn
import KE.KFromBytes
import KE.KItem
import KE.KIsAll
import PySem.Challenge.RW_stationrow_k51_papers_told
open PySem renaming wpAny_bind→a_,wpAny_pure→i_,wpAny_call_entry→EH,wpAny_newObj_type→FB,wpAny_mono→CA,wpAny_holding→DU,wpAny_callSpecial?_slot→II,wpAny_truthy_bool→GO,wpAny_field→DS,wpAny_seqItems→Gc,wpAny_Call_Name_kw→Ll,sizeLine_eq→E8,wpAny_typeNameOfWhole_keyiter→Sz,wpAny_newList→IZ,wpAny_setField_rec→NV,wpAny_passesOwn→L8,wpAny_specialOf→LS,wpAny_pyIter_list→NG,wpAny_typeNameOf_keyiter→SD,wpAny_isInstance→Of,wpAny_getItem_str_slice→RE,codeAny_builtin→N3,wpAny_typeOf→LW,wpAny_attempt→NJ,call_meets→LA,tupleKind_room_in1→RH,wpAny_rule→LY,Addr→ae,sizeLine→am,Value→av,Str→aw,wpAny→ax,starEach→aE,model→aI,Shared→aT,compareOp→ba,Program→bb,World→bg,bootBuiltins→bi,cellsFrom→bm,mainGlobals→bo,cLine→br,eval→bt,behindInMarks→bP,binaryOp→ca,backTo→cf,Heap→cn,sysModules→cw,rawInt→cy,bindArgs→c8,attributeBase→da,IsPair→de,Around→dn,Builtin→dt,Obj→dP,Paired→dQ,foldedSetIterable→dS,FuncData→d4,assignEach→d5,swapsWith→eh,tupleKind→ej,NameKind→er,Stmt→ez,codeAny→eJ,sliceBounds→eP,getItem→eW,isSubtype_tuple_tuple→fb,builtinLookup_eq_fast→fe,holding→fh,wpAny_updateSeq_pair→fi,wpAny_pyIter_revIter→fm,IsZip→fA,wpAny_execs_nil→fF,pyNext→fI,post_val_or_str→fN,letOwnedTupleGo→fR,call→fT,Pos→gE,storedH→gL,codeAny_mono→gN,wpAny_tupleItemsOf→g5,wpAny_setField→g6,wpAny_pyIter_tuple→g9,wpAny_newTuple→hG,firstArgMember→hV,builtinsNs→h9,assign→ia,IsPart→iA,wpAny_sequenceKey→iX,wpAny_letGo→i3,wpAny_dictEntries→i4,keywordEach→i5,wpAny_standAt→jI,wpAny_onRaise→jS,wpAny_comprehension_free→j1,wpAny_Call_method0_late→kn,noFill_tuple_add→kr,wpAny_Assign_Subscript→kA,concat_meets→kG,collect→kH,Within→kM,wpAny_loadPart'→k9,wpAny_dictEpoch→la,typeLookup_type→lb,atKey→lc,Draws→lj,wpAny_notOrdered_dict→ln,wpAny_isTrue_Compare1→lp,wpAny_isOneOf_keyiter→lv,subscripted→lS,recursionLimit→lT,newFunctionEnv→l7,isCodeTable→l9,Params→mi,valueAt→mS,treeTable→mT,standAt→ng,pushCells→nh,callerA→nk,DictEntry→nv,pairTrees_cons_walk→ny,evalArgs_none→nz,wpAny_in_heap→nN,seq_tuple_add→nV,plainId_quiet→nX,evalPart_none→n9,wpAny_setItem_heap→oj,wpAny_load→om,wpAny_dictSet_heap→ot,typeLookup→ow,reduceHash→ox,pairTrees_nil_walk→oy,getattributeRaised→oz,checkCount→oC,call_reversed_list→oI,PlainAttrs→o0,wpAny_pyIter_slot→o3,wpAny_lt_int→pa,wpAny_assign_Name→pb,seqIndex_neg→pi,eqIsQuiet_byValue→pT,backToKw→pV,Keyword→qA,BindsTo→rc,wpAny_pyIter_zip→re,wpAny_forIn_list→rf,wpAny_execs_cons→rg,wpAny_eqBool_int→rh,wpAny_Dict_empty→ri,getMethod→rL,eqIsQuiet→rS,PassesOwn→r0,seqIndex_of→sk,pushCells_keeps→sA,importedModules→sC,spliced→tj,setItem→tm,ItemsOf→tw,wpAny_runValue→tF,wpAny_fieldsOf→tI,wpAny_call→tJ,wpAny_Name→tN,wpAny_Compare1→tP,typeIs_str→tS,typeIs_int→tT,isSubtype_type→t5,isSubtype_stop→t9,isInstance→uS,field→vE,defaultsOf→vF,closureFor→vS,callType_codes→vT,bindL→wt,bindC→wv,call→wP,IsTupleKey→xb,wpAny_handled→xi,swapsWithSole→xk,swappedStores→xo,nums_intItems→xp,intBits_le_64→xt,call_list_seq→xv,Arguments→xI,relabel→xS,pyIter→ya,newList→yb,cellOf→yy,Env→yA,typeOf→y3,revObj→y6,newExc→y7,putAt→zd,Tok→ze
open PySem.Heap renaming get?_push_of_some→b_,get?_push_size→l_,lt_size→y_,get?_update_ne→IM,size_push→JI,get?_update_other→P3,get?_update_self→P6,SameBut→db,size_update→ky,get?_push_ne→qV
open List renaming length_append→d_,getElem?_eq_getElem→e_,length_map→g_,mem_singleton→j_,getD_eq_getElem?_getD→k_,size_toArray→m_,length_cons→n_,mem_map→t_,mem_cons→v_,mem_append→x_,length_singleton→z_,mem_cons_self→A_,map_append→B_,getElem?_map→C_,length_range→D_,mem_cons_of_mem→E_,map_cons→I_,mem_append_right→J_,mem_filter→L_,map_map→N_,all_eq_true→V_,mem_range→Y_,getElem?_append_right→Z_,getElem?_eq_none→Ee,not_mem_nil→DI,length_filter_le→E6,append_nil→C9,mem_of_getElem?→E5,mem_append_left→FU,getElem?_range→FR,getElem?_eq_some_iff→IR,nodup_cons→EZ,length_nil→EW,getElem?_cons_succ→Mb,getElem_mem→FI,length_replicate→IQ,replicate_succ→HV,length_reverse→IG,length_take→F3,lookup_cons→F1,mem_flatMap→F8,find?_cons→F5,getElem?_cons_zero→OZ,forIn_cons→HC,filter_eq_nil_iff→LP,getElem?_append_left→NR,filter_append→LH,getElem_map→IN,sum_cons→GG,map_nil→IA,flatten_cons→LB,take_of_length_le→NY,filter_congr→KW,map_congr_left→Mo,pairwise_iff_getElem→OM,any_eq_true→LM,filter_cons→KS,eq_nil_of_length_eq_zero→QY,ext_getElem?→Na,flatMap_append→NS,nodup_nil→LJ,of_mem_zip→L0,append_assoc→N4,pairwise_map→NF,take_succ_eq_append_getElem→UE,map_eq_nil_iff→Pl,getElem?_replicate→Sr,length_drop→ND,cons_append→Q1,forIn_nil→MM,getElem?_set_self→Sf,zip_cons_cons→On,flatMap_singleton→SG,any_cons→M0,all_cons→MW,foldl_append→PR,getElem?_set_ne→P7,mem_iff_getElem→SE,take_length→OK,map_reverse→OA,getElem?_take_of_lt→TN,nil_append→SV,filterMap_map→Sk,range→ay,replicate→a3,length→a7,lookup→d3,map→e6,mem_of_mem_take→fy,length_dropLast→fz,foldl_cons→f8,filter_map→f_,dropLast_concat_getLast→gc,filterMap_cons→gI,drop_eq_getElem_cons→iO,reverse_perm→i9,reverse_cons→ja,map_drop→kf,getD→kx,drop_of_length_le→kQ,length_set→li,getElem?_reverse→lI,dropLast_eq_take→lP,range'→mr,pairwise_append→mv,getElem?_of_mem→mw,drop_zero→mx,reverse_append→nE,filterMap_some→nI,map_take→oa,nodup_append→qo,any_map→qq,any_eq_false→qr,all_map→qs,zipIdx_cons→r_,map_fst_zip→sd,drop_length→se,zipIdx_nil→sL,take_left'→sM,range_succ→sN,length_zip→sP,range_add→w9,foldl→w_,filterMap→xa,take_nil→xB
open Nat renaming le_refl→o_,ne_of_lt→H_,lt_of_lt_of_le→R_,le_trans→S_,ne_of_gt→B9,zero_le→B8,lt_irrefl→CU,lt_trans→CM,le_of_lt→D0,lt_of_le_of_lt→JU,lt_succ_self→HP,lt_succ_of_lt→IU,log2_le_self→ME,pow_le_pow_right→OF,not_lt→K0,testBit_and→f7,le_of_eq→gS,zero_add→kN,pow_succ→kP,min_eq_left→lh,le_succ→mm,eq_of_testBit_eq→mo,min_self→qc,lt_or_ge→qf,le_of_lt_succ→qh,add_comm→qk,min_eq_right→r6,le_add_right→r9,pow_pos→so,not_lt_zero→sK,testBit_or→wT,mod_lt→w4,add_assoc→xA
open Bool renaming false_eq_true→u_,and_eq_true→F_,false_ne_true→M_,eq_iff_iff→CC,not_true→Fm,not_false→I0,not_eq_true'→NO,true_and→Lu,false_and→LZ,or_eq_true→PH,false_or→ON,true→ag,false→ai,and_false→mM,or_false→og,and_true→oi,true_or→rb
open PySem.PassesOwn renaming never→G_
open PySem.F renaming plainAttrs_list→K_,slot_list_append→P_,type_list_append→Q_,slot_dict_keyiterator_next→PU,slot_tuple_iterator_next→Sl,args_tuple_add_2→TH,slot_list_getattribute→Tk,slot_tuple_hash→Q2,slot_dict_itemiterator_iter→eC,entry_tuple_add→eR,slot_tuple_add→e4,args_dict_keyiterator_next_1→fg,entry_dict_keyiterator_next→fE,slot_dict_setdefault→f6,slot_zip_next→gu,args_tuple_iterator_next_1→gv,entry_tuple_iterator_next→gT,type_list_reverse→iL,slot_list_reverse→iN,type_list_extend→ka,slot_list_extend→kb,slot_dict_items→kv,plainAttrs_dict→kw,args_object_init_3→mB,args_list_append_2→mE,entry_list_append→nL,slot_list_append→o1,args_zip_next_1→ra,typeCall_zip_2→sg,slot_dict_iter→si,entry_zip_next→sj,slot_tuple_eq→sR,slot_int_rmul→s0,newCall_zip_2→s9,entry_zip_new→s_
open Option.some renaming inj→O_,injEq→SA
open Int renaming emod_lt_of_pos→T_,emod_nonneg→X_,toNat_natCast→GS,natCast_nonneg→KU,pow_succ→Lv,ofNat_inj→OI,le_refl→N9,toNat→c_,ediv_ediv_of_nonneg→eS,one_mul→js,add_zero→kU,mul_zero→qB,mul_comm→qE,ediv_one→qS,ofNat→sf,mul_one→sx,mul_le_mul→xc
open PyProof.Rows renaming slot_tuple_getitem→IP,callWith_type1→MI,get?_update_seq→GN,listUpdate_at→ID,wpS_bind→FD,seqEpoch_at→MA,listItems_at→NC,wpS_pure→Ic,seqObj→a4,IntsAre→cS,pairsOf→ef,arrOf→ev,sortedHeap→eK,failedOf→fq,entry_list_sort→fS,entry_tuple_getitem→gx,slot_list_sort→hH,slicePart_none→hU,envOfC→hZ,args_tuple_getitem→ib,AllBare→jv,subscriptTail→j2,wpAny_notIn_heap→ki,subscriptTail_builtinR→kB,plain_sorted→kC,entry_sorted→kF,KeyOrd→kR,kind_sorted→l8,entry_proto_collect'→ma,args_list_sort→mf,tupleItemsOf_→nS,Subscript_→oQ,wpS_forRange→o2,keyKind'→pE,args_sorted1→p9,sortedAll→rj,entry_list_iadd'→rV,IsTup→sv,list_sort_plain→sB,wpS_get→tf,size_push'→t3,SortSt→wE,minRun'→yi,wpS_mono→yB,tail_any→yT
open Array renaming length_toList→E7,getElem?_eq_getElem→IE,getElem?_toList→MD,getD_eq_getD_getElem?→Pp,forIn_toList→Po,append_empty→iF,getElem?_eq_none→k5,size_zip→xh
open PySem.Paired renaming length→EO,snoc→KF
open PySem.Heap.SameBut renaming update→Lm
open Option renaming isSome_map→IJ,map_eq_some_iff→Pv,map_some→OV,some→ab,none→af,isSome_some→io,getD_none→r4,map_none→sF
open Classical renaming byContradiction→PM,propDecidable→ap
open PySem.SeqAt.EqAt renaming int_int→L5,str_int→oS,int_str→oT,same→sD
open PyProof.Rows.KeyOrd renaming kle_refl→KG,kle_of_klt→OP,kle_trans→ff,kle_antisymm→nK
open PySem.Calls renaming spliced_cons→NE,callWith_builtin→SI,spliced_nil→OY,call_function_entry→SO,Name_function_global→iE,evalArgs_plain→mI
open PySem.Obj renaming data_mapFields→Si,mapSeq→a9,isFreed_of_fields→ly,cls_mapFields→qa,mapFields→xz
open Sum.inl renaming inj→Nd
open Sum.inr renaming inj→NW
open PySem.Value renaming ref→aS,none→bp,int→c9,bool→dA,type→eM,builtin→j3,str→nr,float→sm,isStrOf→xw
open PySem.W renaming Frag→a5,emptyDict→eu,kia_one→eI,findIn→hY,kas_ask→i6,instObj→i7,SharedT→ku,keepIn→kD,plainGet_of→l6,cellsFrom_some→me,tabObj→mh,absHeap→nn,fnOf→oB,callWith_K→oP,plainGet→pu,kat_cons→pS,methodObj→rp,hasDictIn→rq,codeIn→rX,kla_obj→tr,kitx_tuple→t4,openEnds→wx,CodeHd→wS,WalkO→xy,plainOver→xC,kitx_list→xD,kitx_dict→xE,takerIn→xL,lookIn→yk,kat_yes→yn,kat_no→yv,handedIn→yY,tabObj→y4,kla_fn→y8,CodeHd→y9
open Ne renaming symm→a6
open PySem.Builtin renaming bitAnd→a8,bitOr→cE,bitNot→e9
open Sum renaming inr→bv,inl→cK
open PySem.Builtin.Str renaming occurrences→bE
open PySem.Builtin.SmallTypes renaming nextOf→bS,ownedTupleIsFree→cq,ownedTupleHandOut→eB
open PySem.Builtin.Slice renaming slicePlaces→bX,sliceAdjust→cp,sliceApplied→dL,sliceFields→iS
open PySem.Builtin.Tuple renaming tupleExact→b9,tupleItemsOf→dE,tupleHashOf→iP
open Pure renaming pure→ce
open PySem.Builtin.List renaming listExtendWith→ci,listTooLong→d6,listUpdate→eT,listSameRef→kg,listItems→kX
open PySem.Str renaming ofString→cr
open ForInStep renaming yield→cv
open True renaming intro→cx
open False renaming elim→df
open PySem.NameKind renaming free→dy,cell→eD
open Or renaming inr→e5,inl→im
open Prod renaming ext→fw
open PySem.Txt renaming slice→gX,slice_le→kK
open PyProof.Rows.SortSt renaming mk'→ic
open PySem.SeqAt renaming EqAt→ii
open Prod.mk renaming inj→i8,injEq→kc
open List.Pairwise renaming nil→jp
open PySem.W.Looks renaming of_pure→ke
open PySem.Around renaming under→k6,under_plainId→mN,frames_deeper→mP
open StateT renaming run_pure→lf
open List.cons renaming inj→oe,injEq→sQ
theorem AQ{p:Prop}(h:p:=by decide +kernel):p:=h
theorem Bi{p:Prop}(h:p:=by kernel_rfl):p:=h
theorem zo{p:Prop}(h:p:=by omega):p:=h
theorem zC{p:Prop}(h:p:=by decide):p:=h
theorem Ap{p:Prop}(h:p:=by simp):p:=h
open True renaming intro→AD
abbrev z3:=@if_pos
abbrev zD:=@if_neg
noncomputable abbrev AL:=@absurd
abbrev h_:=@decide_eq_true_iff
abbrev p_:=@decide_eq_true
abbrev q_:=@decide_eq_false
abbrev U_:=@congrArg
abbrev W_:=@if_false
abbrev EB:=@beq_eq_false_iff_ne
abbrev ED:=@decide_false
abbrev Mc:=@decide_eq_false_iff_not
abbrev Fu:=@decide_true
abbrev E1:=@beq_iff_eq
abbrev DJ:=@or_false
abbrev Lc:=@decide_eq_decide
abbrev MU:=@of_decide_eq_true
abbrev Sj:=@bne_self_eq_false
abbrev So:=@decide_eq_true_eq
open PySem.W (Frag InstAt LeftO callWith_K cellsFrom_some codeIn emptyDict findIn fnOf handedIn hasDictIn instObj isFn kHook kIn_of keepIn kia_one kitOne kitx_dict kitx_list kitx_tuple lookIn makesIn methodObj mg_of mroIn nsIn plainGet plainGet_of plainOver recOk takerIn typeIn xlAt)
noncomputable section
open PySem PySem.Spec PyProof.Rows
set_option Elab.async false
set_option compiler.extract_closed false
set_option bootstrap.genMatcherCode false
set_option genSizeOf false
set_option genInjectivity false
set_option linter.all false
set_option maxRecDepth 100000
set_option maxHeartbeats 4000000
abbrev ξ.{u}:=@List.{u}
abbrev ζ.{u}:=@Option.{u}
namespace L2
noncomputable def dw (s:ez):xI:=match s with
 |.FunctionDef _ a _ _ _ _ _ _ _ _=>a
 |_=>{ posonlyargs:=[],args:=[],vararg:=af,kwonlyargs:=[],kw_defaults:=[],kwarg:=af,defaults:=[]}
noncomputable def cP (s:ez):ξ ez:=match s with
 |.FunctionDef _ _ b _ _ _ _ _ _ _=>b
 |_=>[]
noncomputable def aB (s:ez):Scope:=match s with
 |.FunctionDef _ _ _ _ _ _ a _ _ _=>a
 |_=>{ kind:=.function,names:=[],isGenerator:=ai,isCoroutine:=ai}
end L2
namespace M
open L2
noncomputable def alZ (ns:ξ aw) (f:aw->Nat) (m:Nat):ξ (ξ aw):=(ay m).map λk=>ns.filter λn=>decide (f n=k)
noncomputable def zw (i:Nat):ez:=PySem.Challenge.pw_stationrow_k51_papers_told.main.body.getD i (.Pass ⟨0,0,0,0⟩)
noncomputable def O2:ez->ξ ez
 |.ClassDef _ _ _ a _ _ _ _ _ _ _=>a
 |_=>[]
noncomputable def Cb (i j:Nat):ez:=(O2 (zw i)).getD j (.Pass ⟨0,0,0,0⟩)
noncomputable def qv:bb:={ PySem.Challenge.pw_stationrow_k51_papers_told with main:={ PySem.Challenge.pw_stationrow_k51_papers_told.main with body:=([1,2,3,4,5,6,7,8,10,12,14,15,17,18,19,20,21,23,24,26,27,29,30,31,32,33,34,35,36,37,38,39,40,41,43,44,45,46,47,48,49,50,51,52,53,54,55,56,57,58,59,60,61,62,63,64,65,66,67,68,69,70]:ξ Nat).map zw}}
noncomputable def en (P:mi) (n:aw) (t:Nat) (v:av):nv:=⟨PyData.keyHash P n,.str n t,v⟩
noncomputable def cO (n:aw) (c:Nat) (b:Bool) (a j l k:Nat):dP:=⟨.type "code",af,.fields #[.str n a,.str n (a+1),.str "/claim/cut.py" (a+2),.int l 0,.int k 0,.int 0 0,.int 0 0,.int 3 0,.ref (c - (bif b then 5 else 3)),.bool ag,.int 181 0,.ref (c - (bif b then 4 else 2)),.none,bif b then .ref (c - 3) else .none,bif b then .ref (c - 2) else .none,.ref (c - 1),.int j 0,.int l 0,.str "/claim/cut.py" (j+1)],#[]⟩
noncomputable def fO (i:Nat) (n m:aw) (t c:Nat):dP:=⟨.type "function",af,.func (oB n n (dw (zw i)) (cP (zw i)) (aB (zw i)) .none .none .none (.str m t) af (.ref c) .none),#[]⟩
noncomputable abbrev AK:aw:="_law_works_here"
noncomputable abbrev Bn:aw:="_law_script"
noncomputable abbrev BE:aw:="_law_cell_here"
noncomputable abbrev BO:aw:="_law_beat_here"
noncomputable abbrev BU:aw:="_law_plan_here"
noncomputable abbrev BS:aw:="_law_number_here"
noncomputable abbrev B7:aw:="_law_some"
noncomputable abbrev Cn:aw:="stationrow.papers"
noncomputable abbrev Ch:aw:="_law_names"
noncomputable abbrev C6:aw:="_law_k"
noncomputable abbrev DM:aw:="_law_many"
noncomputable abbrev D8:aw:="_law_stands"
noncomputable abbrev EC:aw:="stationrow.chains"
noncomputable abbrev EE:aw:="_law_one"
noncomputable abbrev EU:aw:="_law_task_here"
noncomputable abbrev FL:aw:="stationrow.walks"
noncomputable abbrev FO:aw:="_law_done"
noncomputable abbrev F2:aw:="_law_most"
noncomputable abbrev F9:aw:="_law_wide"
noncomputable abbrev F0:aw:="_law_paper"
noncomputable abbrev F7:aw:="_law_kind"
noncomputable abbrev GW:aw:="_law_name"
noncomputable abbrev IC:aw:="stationrow.fillings"
noncomputable abbrev Iq:aw:="_law_known"
noncomputable abbrev HZ:aw:="_law_case"
noncomputable abbrev KP:aw:="_law_found"
noncomputable abbrev KL:aw:="_law_words"
noncomputable abbrev MQ:aw:="_law_number"
noncomputable abbrev LO:aw:="_law_pool_here"
noncomputable abbrev NN:aw:="_law_are_tasks"
noncomputable abbrev AT:aw := "law_stationrow_k51_papers_told"
noncomputable def fx (i:Nat) (n m:aw) (t c:Nat) (b:Bool) (a j l k:Nat):(mi->nv) × a5:=(λP=>en P n (j+2) (.ref (c+1)),[(c,cO n c b a j l k),(c+1,fO i n m t c)])
noncomputable def TB:ξ ((mi->nv) × a5):=[fx 1 "links_of" EC 187 20 ag 189 197 2 1,
 fx 2 "reached" EC 187 27 ag 200 209 9 2,
 fx 3 "led_to" EC 187 34 ag 212 217 19 2,
 fx 4 "led_from" EC 187 39 ai 220 223 21 2,
 fx 5 "in_both" EC 187 44 ai 226 229 23 3,
 fx 6 "in_first_alone" EC 187 49 ai 232 235 25 3,
 fx 7 "group_of" EC 187 56 ag 238 243 27 2,
 fx 8 "ahead_of" EC 187 63 ag 246 251 29 2,
 fx 10 "may_be_done" "stationrow.checks" 254 70 ag 256 261 32 2,
 fx 12 "names_of" "stationrow.texts" 264 75 ai 266 269 35 1,
 fx 14 "number_of" "stationrow.sets" 272 82 ag 274 282 38 2,
 fx 15 "tasks_of" "stationrow.sets" 272 89 ag 285 293 46 2,
 fx 17 "apart_from" IC 296 94 ai 298 301 55 2,
 fx 18 "rules_of" IC 296 101 ag 304 316 57 1,
 fx 19 "has_all" IC 296 108 ag 319 324 66 2,
 fx 20 "is_filling_number" IC 296 115 ag 327 342 68 5,
 fx 21 "greatest_numbers" IC 296 120 ai 345 348 80 1,
 fx 23 "parts_of" FL 351 125 ai 353 356 87 1,
 (λP=>en P "Walk" 418 (.ref 165),[]),
 fx 26 "ways_behind" "stationrow.dealt" 419 175 ag 421 431 119 3,
 fx 27 "dealing_to" "stationrow.dealt" 419 182 ag 434 443 125 3,
 fx 29 "length_left" Cn 446 189 ag 448 453 134 2,
 fx 30 "dones_behind" Cn 446 194 ai 456 459 136 3,
 fx 31 "is_done" Cn 446 201 ag 462 474 139 2,
 fx 32 "is_left" Cn 446 208 ag 477 484 147 4,
 fx 33 "is_less" Cn 446 213 ai 487 490 149 4,
 fx 34 "is_ways" Cn 446 218 ai 493 496 151 5,
 fx 35 "is_reason" Cn 446 225 ag 499 508 155 6,
 fx 36 "are_sorted" Cn 446 230 ai 511 514 161 2,
 fx 37 "is_paper" Cn 446 235 ai 517 520 164 4,
 fx 38 "reason_at" Cn 446 242 ag 523 531 175 4,
 fx 39 "cases_of" Cn 446 247 ai 534 537 180 4,
 fx 40 "dones_wanted" Cn 446 254 ag 540 549 183 1,
 fx 41 "paper_for" Cn 446 261 ag 552 563 190 3,
 fx 43 "_law_cell" AT 566 268 ag 568 578 202 2,
 fx 44 "_law_word" AT 566 275 ag 581 589 214 1,
 fx 45 "_law_unlike" AT 566 282 ag 592 599 222 1,
 fx 46 "_law_pool" AT 566 289 ag 602 608 230 1,
 fx 47 "_law_task" AT 566 296 ag 611 627 236 4,
 fx 48 "_law_links" AT 566 301 ai 630 633 255 3,
 fx 49 "_law_works" AT 566 306 ai 636 639 280 3,
 fx 50 "_law_loads" AT 566 313 ag 642 650 297 2,
 fx 51 "_law_beat" AT 566 318 ai 653 656 302 3,
 fx 52 "_law_drawn" AT 566 325 ag 659 667 309 3,
 fx 53 "_law_moved" AT 566 332 ag 670 677 312 2,
 fx 54 "_law_whole" AT 566 339 ag 680 684 320 1,
 fx 55 "_law_chained" AT 566 344 ai 687 690 322 1,
 fx 56 "_law_groups" AT 566 349 ai 693 696 344 1,
 fx 57 "_law_plan" AT 566 354 ai 699 702 353 1,
 fx 58 MQ AT 566 361 ag 705 712 368 2,
 fx 59 "_law_tasks" AT 566 366 ai 715 718 374 2,
 fx 60 "_law_fits" AT 566 373 ag 721 736 376 5,
 fx 61 "_law_greatest" AT 566 378 ai 739 742 386 4,
 fx 62 "_law_load" AT 566 383 ai 745 748 395 2,
 fx 63 "_law_is_done" AT 566 390 ag 751 762 397 2,
 fx 64 "_law_holds" AT 566 395 ai 765 768 402 6,
 fx 65 "_law_judged" AT 566 400 ai 771 774 418 4,
 fx 66 NN AT 566 405 ai 777 780 433 2,
 fx 67 "_law_is_reason" AT 566 410 ai 783 786 437 2,
 fx 68 "_law_is_paper" AT 566 417 ag 789 795 447 2,
 fx 69 "_law_right" AT 566 424 ag 798 805 456 3,
 fx 70 "law" AT 566 431 ag 808 817 465 1]
noncomputable def c! (C N t u:Nat):dP:=⟨.type "type",af,.cls { name:="Walk",bases:=[.type "object"],mro:=[.ref C,.type "object"],ns:=N,qualname:="Walk"},#[af,af,ab (.str "Walk" t),ab (.str "Walk" u),ab (.builtin "object.__new__"),ab (.bool ag)]⟩
noncomputable def YV (P:mi) (a:ξ (aw × Nat × av)) (k:Nat):dP:=⟨.type "dict",af,.dict (a.map λe=>en P e.1 e.2.1 e.2.2).toArray k,#[]⟩
noncomputable def cQ (n q:aw) (c:Nat) (b:Bool) (a j l k:Nat):dP:=⟨.type "code",af,.fields #[.str n a,.str q (a+1),.str "/claim/cut.py" (a+2),.int l 0,.int k 0,.int 0 0,.int 0 0,.int 3 0,.ref (c - (bif b then 5 else 3)),.bool ag,.int 181 0,.ref (c - (bif b then 4 else 2)),.none,bif b then .ref (c - 3) else .none,bif b then .ref (c - 2) else .none,.ref (c - 1),.int j 0,.int l 0,.str "/claim/cut.py" (j+1)],#[]⟩
noncomputable def fQ (st:ez) (n q m:aw) (t c:Nat):dP:=⟨.type "function",af,.func (oB n q (dw st) (cP st) (aB st) .none .none .none (.str m t) af (.ref c) .none),#[]⟩
noncomputable def KC (P:mi):a5:=[(139,cQ "__init__" "Walk.__init__" 139 ag 371 377 97 3),
 (140,fQ (Cb 24 0) "__init__" "Walk.__init__" FL 351 139),
 (144,cQ "fillings_at" "Walk.fillings_at" 144 ai 380 383 103 3),
 (145,fQ (Cb 24 1) "fillings_at" "Walk.fillings_at" FL 351 144),
 (151,cQ "greatest_at" "Walk.greatest_at" 151 ag 386 392 110 3),
 (152,fQ (Cb 24 2) "greatest_at" "Walk.greatest_at" FL 351 151),
 (156,cQ "load_at" "Walk.load_at" 156 ai 395 398 113 2),
 (157,fQ (Cb 24 3) "load_at" "Walk.load_at" FL 351 156),
 (161,cQ "dealing_of" "Walk.dealing_of" 161 ai 401 404 116 2),
 (162,fQ (Cb 24 4) "dealing_of" "Walk.dealing_of" FL 351 161),
 (164,YV P [("__module__",366,.str FL 351),("__firstlineno__",370,.int 95 369),("__init__",379,.ref 140),("fillings_at",385,.ref 145),("greatest_at",394,.ref 152),("load_at",400,.ref 157),("dealing_of",406,.ref 162),("__static_attributes__",411,.ref 163),("__dict__",413,.ref 166),("__weakref__",415,.ref 167),("__doc__",416,.none)] 4),
 (165,c! 165 164 359 367)]
noncomputable def KK (P:mi):a5:=(3,⟨.type "dict",af,.dict ([en P "__name__" 165 (.str AT 566),
 en P "__doc__" 166 .none,
 en P "__package__" 167 .none,
 en P "__loader__" 168 (.builtin "__main__.__loader__#opaque"),
 en P "__spec__" 169 .none,
 en P "__annotations__" 170 (.ref 6),
 en P "__builtins__" 171 (.ref 4),
 en P "__file__" 173 (.str "/claim/cut.py" 172),
 en P "__cached__" 174 .none]++TB.map λr=>r.1 P).toArray 71,#[]⟩)::(TB.map λr=>r.2).flatten++KC P++[(4,⟨.type "module",ab h9,.plain,#[]⟩)]
noncomputable def K2 (P:mi):a5:=KK P++[(245,mh #[])]
noncomputable def HK:PySem.W.Hook:=kHook K2 [3,20,21,27,28,34,35,39,40,44,45,49,50,56,57,63,64,70,71,75,76,82,83,89,90,94,95,101,102,108,109,115,116,120,121,125,126,175,176,182,183,189,190,194,195,201,202,208,209,213,214,218,219,225,226,230,231,235,236,242,243,247,248,254,255,261,262,268,269,275,276,282,283,289,290,296,297,301,302,306,307,313,314,318,319,325,326,332,333,339,340,344,345,349,350,354,355,361,362,366,367,373,374,378,379,383,384,390,391,395,396,400,401,405,406,410,411,417,418,424,425,431,432,139,140,144,145,151,152,156,157,161,162,164,165,4,245] (λ_=>by kernel_rfl)
noncomputable def zqR (tb:String->ζ dt) (p:bb) (w:bg) (n:Nat) (a:ζ av):Nat->ku->Thread->ζ ku
 |0,_,_=>af
 |m+1,s,t=>match W.through t with
  |true=>ab s
  |false=>match W.stepOk n a t with
   |false=>af
   |true=>match W.stepT (denote tb) p w s t with
    |some (s',t')=>zqR tb p w n a m s' t'
    |none=>af
theorem zqT {tb:String->ζ dt}{p:bb}{w:bg}{k:Nat}{a:ζ av}:∀{n:Nat}{s s':ku}{t:Thread},zqR tb p w k a n s t=ab s'->W.topRun tb p w k a n s.abs t=ab s'.abs
 |0,_,_,_,h=>by cases h
 |n+1,s,s',t,h=>by
  unfold zqR at h
  unfold W.topRun
  cases he:W.through t with
  |true=>rw[he] at h;cases h;rfl
  |false=>
   rw[he] at h
   cases hk:W.stepOk k a t with
   |false=>rw[hk] at h;cases h
   |true=>
    rw[hk] at h
    cases hs:W.stepT (denote tb) p w s t with
    |none=>rw[hs] at h;cases h
    |some r=>obtain⟨s₂,t₂⟩:=r;rw[hs] at h;rw[W.stepT_spec hs];exact zqT h
noncomputable def zqb:ξ dP->W.BT->Nat->ζ W.BT
 |[],t,_=>ab t
 |o::l,t,n=>match ((t.ins n o).get n).isSome with
  |true=>zqb l (t.ins n o) (n+1)
  |false=>af
theorem zqc {f:Life}:∀{l:ξ dP}{t t':W.BT}{n:Nat},zqb l t n=ab t'->(nn t' (n+l.length) f).objs.toList=(nn t n f).objs.toList++l
 |[],_,_,_,h=>by cases h;simp
 |o::l,t,t',n,h=>by
  unfold zqb at h
  cases e:((t.ins n o).get n).isSome with
  |false=>rw[e] at h;cases h
  |true=>
   rw[e] at h
   have k:=zqc (f:=f) h
   rw[W.absHeap_ins e] at k
   rw[List.length_cons,show n+(l.length+1)=n+1+l.length by omega,k]
   simp [Heap.push]
theorem zqd {s:aT}{t:W.BT}(h:zqb s.heap.objs.toList .nil 0=ab t):(⟨t,s.heap.objs.size,s.heap.life,s.gens,s.drawn,s.toks,s.os⟩:ku).abs=s:=by
 obtain⟨⟨o,f⟩,g,d,k,z⟩:=s
 have e:=zqc (f:=f) h
 have q:(nn t o.size f).objs=o:=Array.toList_inj.mp (by rw[show o.size=0+o.toList.length by simp];exact e.trans (by simp [nn,W.BT.list]))
 show Shared.mk ⟨(nn t o.size f).objs,f⟩ g d k z=_
 rw[q]
noncomputable def zqE (p:bb) (w:bg) (N:Nat):ζ ku:=(W.fencedOpening mT p w N).bind λs=>match s.heap.isNs bo&&s.gens.size==0 with
 |true=>(zqb s.heap.objs.toList .nil 0).bind λt=>(zqR mT p w s.heap.objs.size (s.heap.nsMap bo "__annotations__") N ⟨t,s.heap.objs.size,s.heap.life,s.gens,s.drawn,s.toks,s.os⟩ (W.topStub p)).bind λz=>match W.staticsOk (sC p.main.body) s.heap z.abs.heap&&W.namesBound p z.abs.heap&&W.gensDone z.abs&&W.laidKept s.heap z.abs.heap with
  |true=>ab z
  |false=>af
 |false=>af
theorem zqF {p:bb}{w:bg}{N:Nat}{z:ku}(h:zqE p w N=ab z):wx mT p w N=ab z.abs:=by
 obtain⟨s,a,h⟩:=Option.bind_eq_some_iff.mp h
 refine Option.bind_eq_some_iff.mpr ⟨s,a,?_⟩
 unfold W.topFrom
 split at h
 .rename_i q
  obtain⟨t,b,h⟩:=Option.bind_eq_some_iff.mp h
  obtain⟨x,c,h⟩:=Option.bind_eq_some_iff.mp h
  have c:=zqT c
  rw[zqd b] at c
  rw[q]
  refine Option.bind_eq_some_iff.mpr ⟨x.abs,c,?_⟩
  split at h
  .rename_i y
   cases h
   rw[y]
  .cases h
 .cases h
theorem zqL {p:bb}{w:bg}{N:Nat}{α:Type}{f:aT->α}{a:α}(h:(zqE p w N).map (λz=>f z.abs)=ab a):(wx mT p w N).map f=ab a:=by
 obtain⟨s,a,h⟩:=Option.map_eq_some_iff.mp h
 rw[zqF a]
 exact congrArg ab h
noncomputable def zqO (w:bg):=wx mT (PySem.W.OpenLaw.row PySem.Challenge.rw_stationrow_k51_papers_told).prog w 4664
noncomputable abbrev zqX (s:aT):Bool:=W.xlAt qv [] s&&W.recOk (W.RowW.records (PySem.W.OpenLaw.row PySem.Challenge.rw_stationrow_k51_papers_told).toRowW) s
noncomputable def zqS (s:aT):=W.openSeen qv [] (sC (PySem.W.OpenLaw.row PySem.Challenge.rw_stationrow_k51_papers_told).prog.main.body) (λs=>zqX s) ag s
theorem zqM {b h p j k l e:Type}{o:ζ b}{f:b->h × p × j × k × l}{g:b->e}{x:h}{y:p}{z:j}{u:k}{v:l}{d:e}(i:o.map (λs=>(f s).1)=ab x) (m:o.map (λs=>(f s).2.1)=ab y) (n:o.map (λs=>(f s).2.2.1)=ab z) (q:o.map (λs=>(f s).2.2.2.1)=ab u) (r:o.map (λs=>(f s).2.2.2.2)=ab v) (c:o.map g=ab d):o.map (λs=>(f s,g s))=ab ((x,y,z,u,v),d):=by
 cases o with
 |none=>cases i
 |some s=>have t:=@Option.some.inj; exact congrArg ab (fw (fw (t i) (fw (t m) (fw (t n) (fw (t q) (t r))))) (t c))
theorem zq1 (w:bg):(zqO w).map (λs=>(zqS s).1)=ab (expectedOf qv):=zqL (by kernel_rfl)
theorem zq2 (w:bg):(zqO w).map (λs=>(zqS s).2.1)=ab bltViewBooted:=zqL (by kernel_rfl)
theorem zq4 (w:bg):(zqO w).map (λs=>(zqS s).2.2.1)=ab ag:=zqL (by kernel_rfl)
theorem zq5 (w:bg):(zqO w).map (λs=>(zqS s).2.2.2.1)=ab ag:=zqL (by kernel_rfl)
theorem zq6 (w:bg):(zqO w).map (λs=>(zqS s).2.2.2.2)=ab (pinGoodD (drecsOf qv),plainGoodE qv (W.looseW qv []),plainGoodD qv [],W.wideGood qv,W.clsGoodW qv []):=zqL (by kernel_rfl)
theorem zq3 (w:bg):(zqO w).map (W.Hook.obs HK)=ab (W.Hook.val HK w):=zqL (by kernel_rfl)
theorem left:W.LeftO (PySem.W.OpenLaw.row PySem.Challenge.rw_stationrow_k51_papers_told).prog qv [] (λs=>zqX s) (W.Hook.obs HK) (W.Hook.val HK) 4664:=λw=>zqM (o:=zqO w) (f:=zqS) (g:=W.Hook.obs HK) (zq1 w) (zq2 w) (zq4 w) (zq5 w) (zq6 w) (zq3 w)
noncomputable def B!:ez->gE->gE
 |.FunctionDef _ _ _ _ _ _ _ _ _ p,_=>p
 |_,p=>p
noncomputable def dv:DefRec:=⟨"law",dw (zw 70),cP (zw 70),aB (zw 70),B! (zw 70) default⟩
open PySem PySem.W PyProof.Rows in
set_option maxRecDepth 100000 in
set_option maxHeartbeats 0 in
theorem zqH (hc:PySem.W.WalkO qv [] (PySem.W.XL qv []) (PySem.W.Hook.says HK) (PySem.W.OpenLaw.row PySem.Challenge.rw_stationrow_k51_papers_told).toRowW dv [] (fun f vs=>PySem.call f vs)):PySem.Challenge.rw_stationrow_k51_papers_told.Holds:=by
 refine holds_law Bi λsaid=>?_;refine holds_open (d:=dv) (kwd:=[]) (q:=qv) (loose:=[]) (Xt:=λs=>xlAt qv [] s&&recOk (RowW.records (PySem.W.OpenLaw.row PySem.Challenge.rw_stationrow_k51_papers_told).toRowW) s) (XP:=XL qv []) (Yf:=Hook.obs HK) (Ya:=Hook.val HK) (YP:=Hook.says HK) (N:=4664) left (Hook.of HK) (Hook.keeps HK) (λs e=>xl_of s (Bool.and_eq_true_iff.mp e).1) XL.keeps Bi Bi Bi (λs e=>recFacts_of (Bool.and_eq_true_iff.mp e).2) Bi (by first | assumption | kernel_rfl) Bi ⟨rfl,rfl,rfl,rfl,rfl,AQ⟩ ?hw hc
 case hw=>w_witness2
end M
namespace L2
abbrev AG:=Sum Int aw
noncomputable def qp:AG->av->Bool
 |.inl k,v=>Value.isInt k v
 |.inr x,v=>xw x v
noncomputable def Rx (w:bg):AG->Int
 |.inl k=>hashInt k
 |.inr x=>hashStr w x
theorem cz:∀{k:AG}{v:av},qp k v=ag->(∃i t,k=cK i/\v=c9 i t)\/(∃x t,k=bv x/\v=nr x t)
 |.inl i,v,h=>by
  obtain⟨t,e⟩:=Value.isInt_shape (k:=i) (v:=v) h
  exact .inl ⟨i,t,rfl,e⟩
 |.inr x,v,h=>by
  obtain⟨t,e⟩:=Value.isStrOf_shape (x:=x) (v:=v) h
  exact .inr ⟨x,t,rfl,e⟩
theorem qt (i:Int) (t:ze):qp (.inl i) (.int i t)=ag:=by simp [qp,Value.isInt]
theorem qu (x:aw) (t:ze):qp (.inr x) (.str x t)=ag:=by simp [qp,xw]
theorem Ry (a b:Int):decide ((cK a:AG)=cK b)=(a==b):=by
 by_cases e:a=b
 .subst e;simp
 have h:¬(cK a:AG)=cK b:=λq=>e (Nd q);rw[q_ h];exact (EB.mpr e).symm
theorem Rz (a b:aw):decide ((bv a:AG)=bv b)=decide (a=b):=by
 by_cases e:a=b
 .subst e;simp
 have h:¬(bv a:AG)=bv b:=λq=>e (NW q);rw[q_ h,q_ e]
theorem RB (a:Int) (b:aw):decide ((cK a:AG)=bv b)=ai:=q_ (λq=>nomatch q)
theorem RC (a:aw) (b:Int):decide ((bv a:AG)=cK b)=ai:=q_ (λq=>nomatch q)
noncomputable def bc (prog:bb) (w:bg):PySem.KeyKind prog w AG where
 is:=qp
 hash:=Rx w
 inj:=λv a b f d=>by
  rcases cz f with ⟨i,t,rfl,rfl⟩ | ⟨x,t,rfl,rfl⟩
  ·
   rcases cz d with ⟨j,u,rfl,e⟩ | ⟨y,u,rfl,e⟩
   ·
    injection e with e1 _;rw[e1]
   ·
    exact nomatch e
  ·
   rcases cz d with ⟨j,u,rfl,e⟩ | ⟨y,u,rfl,e⟩
   ·
    exact nomatch e
   ·
    injection e with e1 _;rw[e1]
 byValue:=λk v h=>by
  rcases cz h with ⟨i,t,rfl,rfl⟩ | ⟨x,t,rfl,rfl⟩ <;> rfl
 pyHash:=λc h=>by
  rcases cz c with ⟨i,t,rfl,rfl⟩ | ⟨x,t,rfl,rfl⟩
  ·
   exact wpAny_pyHash_int h
  ·
   exact wpAny_pyHash_str h
 eqBool:=λg c h=>by
  rcases cz g with ⟨i,t,rfl,rfl⟩ | ⟨x,t,rfl,rfl⟩
  ·
   rcases cz c with ⟨j,u,rfl,rfl⟩ | ⟨y,u,rfl,rfl⟩
   ·
    rw[Ry] at h;exact rh h
   ·
    rw[RB] at h;exact oT i t y u _ _ _ _ h
  ·
   rcases cz c with ⟨j,u,rfl,rfl⟩ | ⟨y,u,rfl,rfl⟩
   ·
    rw[RC] at h;exact oS x t j u _ _ _ _ h
   ·
    rw[Rz] at h;exact wpAny_eqBool_str h
 «strs»:=λk x t v h=>by
  rcases cz h with ⟨i,u,rfl,e⟩ | ⟨y,u,rfl,e⟩
  ·
   exact nomatch e
  ·
   injection e with e1 _
   subst e1
   cases v <;> rfl
theorem uh (prog:bb) (w:bg) (i:Int) (t:ze):(bc prog w).is (.inl i) (.int i t)=ag:=qt i t
theorem um (prog:bb) (w:bg) (x:aw) (t:ze):(bc prog w).is (.inr x) (.str x t)=ag:=qu x t
inductive V where
 |non | bl (b:Bool) | int (i:Int) | str (x:aw) | byt (b:Array UInt8) | flt (b:UInt64) | ref (a:ae) | ty (n:String)
 deriving DecidableEq
def z4:V->av->Prop
 |.non,u=>u=bp
 |.bl b,u=>u=dA b
 |.int i,u=>∃t,u=c9 i t
 |.str x,u=>∃t,u=nr x t
 |.byt b,u=>∃t,u=Value.bytes b t
 |.flt b,u=>∃t,u=sm b t
 |.ref a,u=>u=aS a
 |.ty n,u=>u=eM n
abbrev zS:ξ V->ξ av->Prop:=dQ z4
theorem zS.length (r:zS xs us):xs.length=us.length:=EO r
theorem zS.get:∀{xs:ξ V}{us:ξ av}{i:Nat}{x:V},zS xs us->xs[i]?=ab x->∃u,us[i]?=ab u/\z4 x u
 |_,_,_,_,.nil,e=>by simp at e
 |_,_,0,_,.cons r _,e=>by simp at e;subst e;exact⟨_,rfl,r⟩
 |_,_,i+1,x,.cons _ t,e=>by
  obtain⟨u,a,b⟩:=zS.get (i:=i) (x:=x) t (by simpa using e)
  exact⟨u,by simpa using a,b⟩
theorem zS.set (r:z4 x u):∀{xs:ξ V}{us:ξ av}(i:Nat),zS xs us->zS (xs.set i x) (us.set i u)
 |_,_,_,.nil=>.nil
 |_,_,0,.cons _ t=>.cons r t
 |_,_,i+1,.cons q t=>.cons q (zS.set r i t)
theorem zS.append:∀{xs a:ξ V}{us ws:ξ av},zS xs us->zS a ws->zS (xs++a) (us++ws)
 |_,_,_,_,.nil,s=>s
 |_,_,_,_,.cons r t,s=>.cons r (zS.append t s)
theorem zS.take:∀{xs:ξ V}{us:ξ av}(n:Nat),zS xs us->zS (xs.take n) (us.take n)
 |_,_,0,_=>.nil
 |_,_,_+1,.nil=>.nil
 |_,_,n+1,.cons r t=>.cons r (zS.take n t)
theorem zS.drop:∀{xs:ξ V}{us:ξ av}(n:Nat),zS xs us->zS (xs.drop n) (us.drop n)
 |_,_,0,r=>r
 |_,_,_+1,.nil=>.nil
 |_,_,n+1,.cons _ t=>zS.drop n t
def DD:ζ V->ζ av->Prop
 |some v,ab u=>z4 v u
 |none,af=>True
 |_,_=>False
def KV {a:Type}:ξ (a × V)->ξ (a × av)->Prop:=dQ λ(p:a × V) (q:a × av)=>p.1=q.1/\z4 p.2 q.2
noncomputable def kV:AG->V
 |.inl i=>.int i
 |.inr x=>.str x
inductive HO where
 |lst (xs:List V)
 |tup (xs:List V)
 |dK (kvs:List (AG × V)) | dT (kvs:List (List AG × V))
 |set (S:Int->Bool) (n:Nat)
 |ins (C dx:ae) (fs:List (aw × V))
 |own (x:ae)
 |xd (fs:List (aw × V))
 |met (f x:ae)
 |rng (lo hi:Int)
 |frz (o:dP) (u:HO)
 |tbl (ps:Array av)
 |ext (φ:cn->Prop)
abbrev Hp:=ae->ζ HO
noncomputable def As (H:Hp) (a:ae) (o:HO):Hp:=λb=>if b=a then ab o else H b
theorem aZ:As H a o a=ab o:=by unfold As;rw[z3 rfl]
theorem aL (h:b≠a):As H a o b=H b:=by unfold As;rw[zD h]
theorem WD {H:Hp} (h:H a=ab o) (h':H b=ab u) (d:o≠u):a≠b:=by intro e;subst e;rw[h] at h';exact d (O_ h')
theorem bL {H:Hp} (h:H a=ab o) (h':H b=af):a≠b:=by intro e;subst e;rw[h] at h';cases h'
def GV (h:cn) (a:ae) (b:Array av):Prop:=∃o,h.get? a=ab o/\o.cls=.type "tuple"/\∃n,o.data=.seq b n/\o.dict=af
theorem GV.is (x:GV h a b):sv h a b:=by obtain⟨o,d,e,n,c,_⟩:=x;exact⟨o,d,e,n,c⟩
theorem GV.new (h:cn) (a:Array av):GV (h.push { cls:=.type "tuple",data:=.seq a}) h.objs.size a:=⟨_,l_ _ rfl,rfl,_,rfl,rfl⟩
section
variable (P:bb)(w:bg)
noncomputable def W2 (H:Hp) (h:cn) (a:ae):HO->Prop
 |.lst xs=>xs.length<=am/\∃(b:ξ av) (n:Nat),zS xs b/\h.get? a=ab { cls:=.type "list",data:=.seq b.toArray n}
 |.tup xs=>xs.length<=am/\∃b:ξ av,zS xs b/\GV h a b.toArray
 |.dK kvs=>kvs.length<=am/\(a==cw)=ai/\∃vs,KV kvs vs/\h.DictOf (bc P w) a vs
 |.dT kvs=>kvs.length<=am/\(a==cw)=ai/\∃xs:ξ (ξ AG × ae × av),
   dQ (λ(p:ξ AG × V) (q:ξ AG × ae × av)=>p.1=q.1/\H q.2.1=ab (.tup (p.1.map kV))/\z4 p.2 q.2.2) kvs xs /\
   ∃o j ep,h.get? a=ab o/\o.ExactDict/\o.data=.dict j ep/\j.toList=xs.map (entryOfKey (ej (bc P w)))/\(xs.map (·.1)).Nodup
 |.set S n=>h.SetOf (intKind P w) a S n
 |.ins C e d=>H e=ab (.own a)/\d.length<=1000/\e≠a/\h.get? a=ab (i7 C e) /\
   ∃c,h.Ns1 e c/\(∀f,DD (d.lookup f) (c f))/\kM c (d.map (·.1))
 |.own _=>∃o,h.get? a=ab o
 |.xd d=>∃c,h.Ns1 a c/\∀f,DD (d.lookup f) (c f)
 |.rng l m=>∃t u v,h.get? a=ab { cls:=.type "range",data:=.fields #[.int l t,.int m u,.int 1 v]}
 |.frz o u=>h.get? a=ab o/\W2 H h a u
 |.tbl ps=>h.get? a=ab { cls:=.none,data:=.fields ps}
 |.met f x=>h.get? a=ab (rp (.ref f) (.ref x))
 |.ext g=>g h/\(∃o,h.get? a=ab o)/\∀k i:cn,g k->(∀o,k.get? a=ab o->i.get? a=ab o)->g i
def A8 (H:Hp) (h:cn):Prop:=∀a o,H a=ab o->W2 P w H h a o
end
section
variable {P:bb}{w:bg}{a:ae}
theorem W2.lt (x:W2 P w H h a o):a<h.objs.size:=by
 cases o with
 |lst xs=>obtain⟨_,_,_,_,e⟩:=x;exact y_ e
 |tup xs=>obtain⟨_,_,_,p⟩:=x;exact p.is.lt
 |dK kvs=>obtain⟨_,_,_,_,o,_,_,e,_⟩:=x;exact y_ e
 |dT kvs=>obtain⟨_,_,_,_,o,_,_,e,_⟩:=x;exact y_ e
 |set S n=>obtain⟨o,_,_,_,e,_⟩:=x;exact y_ e
 |ins C d b=>obtain⟨_,_,_,e,_⟩:=x;exact y_ e
 |own y=>obtain⟨_,e⟩:=x;exact y_ e
 |xd b=>obtain⟨_,⟨_,_,_,e,_⟩,_⟩:=x;exact y_ e
 |rng c i=>obtain⟨_,_,_,e⟩:=x;exact y_ e
 |frz g u=>obtain⟨e,_⟩:=x;exact y_ e
 |tbl ps=>exact y_ (show h.get? a=ab _ from x)
 |met f y=>exact y_ (show h.get? a=ab _ from x)
 |ext j=>obtain⟨_,⟨_,e⟩,_⟩:=x;exact y_ e
theorem Paired.mapP:∀{l₁:ξ c}{l₂:ξ d},dQ F l₁ l₂->(∀a b,F a b->G a b)->dQ G l₁ l₂
 |_,_,.nil,_=>.nil
 |_,_,.cons r t,f=>.cons (f _ _ r) (Paired.mapP t f)
theorem W2.stay (x:W2 P w H h a o) (k:∀b u,(b=a\/H b=ab (.own a))->h.get? b=ab u->h'.get? b=ab u)
  (A:∀b,H b=ab (.own a)->H' b=ab (.own a)) (B:∀b xs,H b=ab (.tup xs)->H' b=ab (.tup xs)):W2 P w H' h' a o:=by
 induction o with
 |lst xs=>obtain⟨z,j,n,r,e⟩:=x;exact⟨z,j,n,r,k _ _ (.inl rfl) e⟩
 |tup xs=>obtain⟨z,j,r,g,e,c⟩:=x;exact⟨z,j,r,g,k _ _ (.inl rfl) e,c⟩
 |dK kvs=>obtain⟨z,y,vs,r,g,i,ep,e,c⟩:=x;exact⟨z,y,vs,r,g,i,ep,k _ _ (.inl rfl) e,c⟩
 |dT kvs=>obtain⟨z,y,xs,r,g,i,ep,e,c⟩:=x;exact⟨z,y,xs,Paired.mapP r λp q z=>⟨z.1,B _ _ z.2.1,z.2.2⟩,g,i,ep,k _ _ (.inl rfl) e,c⟩
 |set S n=>obtain⟨g,i,ep,t,e,c⟩:=x;exact⟨g,i,ep,t,k _ _ (.inl rfl) e,c⟩
 |ins C I s=>obtain⟨d,z,F,e,m,⟨l,i,ep,E,c⟩,r⟩:=x;exact⟨A _ d,z,F,k _ _ (.inl rfl) e,m,⟨l,i,ep,k _ _ (.inr d) E,c⟩,r⟩
 |own y=>obtain⟨g,e⟩:=x;exact⟨g,k _ _ (.inl rfl) e⟩
 |xd s=>obtain⟨m,⟨l,i,ep,e,c⟩,r⟩:=x;exact⟨m,⟨l,i,ep,k _ _ (.inl rfl) e,c⟩,r⟩
 |rng G J=>obtain⟨t,u,v,e⟩:=x;exact⟨t,u,v,k _ _ (.inl rfl) e⟩
 |frz g u D=>obtain⟨e,q⟩:=x;exact⟨k _ _ (.inl rfl) e,D q⟩
 |tbl ps =>
  have e:h.get? a=ab { cls:=.none,data:=.fields ps}:=x
  show h'.get? a=ab { cls:=.none,data:=.fields ps}
  exact k a _ (.inl rfl) e
 |met f y =>
  have e:h.get? a=ab (rp (.ref f) (.ref y)):=x
  show h'.get? a=ab (rp (.ref f) (.ref y))
  exact k a _ (.inl rfl) e
 |ext K=>obtain⟨p,⟨o,e⟩,st⟩:=x;exact⟨st _ _ p λo q=>k _ _ (.inl rfl) q,⟨o,k _ _ (.inl rfl) e⟩,st⟩
theorem A8.lt (x:A8 P w H h) (e:H a=ab o):a<h.objs.size:=(x a o e).lt
theorem A8.fresh (x:A8 P w H h) (e:h.objs.size<=a):H a=af:=by
 cases q:H a with
 |none=>rfl
 |some u=>exact AL (R_ (x.lt q) e) (CU _)
theorem A8.kept (x:A8 P w H h) (k:∀b u,h.get? b=ab u->h'.get? b=ab u):A8 P w H h':=λa o e =>
 (x a o e).stay (λb u _ q=>k b u q) (λ_ q=>q) λ_ _ q=>q
theorem A8.laid (x:A8 P w H h) (k:∀b u,h.get? b=ab u->h'.get? b=ab u) (i:h.objs.size<=a) (d:W2 P w (As H a o) h' a o):A8 P w (As H a o) h':=λb u e=>by
 have f:=x.fresh i;by_cases g:b=a
 .subst g;rw[aZ] at e;cases e;exact d
 rw[aL g] at e;exact (x b u e).stay (λc v _ q=>k c v q) (λc q=>by rw[aL (bL q f)];exact q) λc xs q=>by rw[aL (bL q f)];exact q
end
def Rd (H:Hp) (a:ae) (u:HO):Prop:=H a=ab u\/∃o,H a=ab (.frz o u)
theorem Rd.ok (r:Rd H a u) (x:A8 P w H h):W2 P w H h a u:=by
 rcases r with r | ⟨o,r⟩
 .exact x a u r
 obtain⟨_,q⟩:=x a _ r;exact q
def Me:ζ HO->Prop
 |some (.lst _)=>True
 |some (.dK _)=>True
 |some (.dT _)=>True
 |some (.set _ _)=>True
 |some (.ins _ _ _)=>True
 |some (.ext _)=>True
 |_=>False
section
variable {P:bb}{w:bg}
theorem A8.write (p:A8 P w H h) (mu:Me (H x)) (m:e=x\/H e=ab (.own x)) (k:∀b u,b≠e->h.get? b=ab u->h'.get? b=ab u) (l:∃u,h'.get? e=ab u)
  (j:W2 P w (As H x o') h' x o'):A8 P w (As H x o') h':=λb u q=>by
 have d:∀c y,H c=ab (.own y)->c≠x:=λc y r z=>by subst z;rw[r] at mu;exact mu
 have f:∀c xs,H c=ab (.tup xs)->c≠x:=λc xs r z=>by subst z;rw[r] at mu;exact mu
 by_cases g:b=x
 .subst g;rw[aZ] at q;cases q;exact j
 rw[aL g] at q;by_cases a:b=e
 .have n:H b=ab (.own x):=by
   rcases m with z | z
   .exact AL (a.trans z) g
   rw[a];exact z
  rw[q] at n;cases n;obtain⟨v,o⟩:=l;exact⟨v,by rw[a];exact o⟩
 refine (p b u q).stay (λc v i r=>k c v ?_ r) (λc r=>by rw[aL (d c b r)];exact r) λc xs r=>by rw[aL (f c xs r)];exact r
 rcases i with rfl | i
 .exact a
 rintro rfl;rcases m with z | z
 .exact d c b i z
 rw[i] at z;cases z;exact g rfl
end
structure Un (fs ex:List ae) (H H':Hp) (h h':cn):Prop where
 keep:∀b o,h.get? b=ab o->H b=af->b∉fs->b∉ex->h'.get? b=ab o
 slot:∀b o,h.get? b=ab o->H b=af->b∈fs->b∉ex->∃sl,h'.get? b=ab { o with slots:=sl}
 free:∀b o,h.get? b=ab o->H b=af->b∉ex->H' b=af
 there:∀b o,h.get? b=ab o->b∉ex->∃o',h'.get? b=ab o'
 tups:∀b xs,H b=ab (.tup xs)->H' b=ab (.tup xs)
 frzs:∀b o u,H b=ab (.frz o u)->H' b=ab (.frz o u)
 tbls:∀b ps,H b=ab (.tbl ps)->∃more,H' b=ab (.tbl (ps++more))
section
variable {h h1 h2 h':cn}{a x e:ae}
theorem Un.any (u:Un fs ex H H1 h h1) (q:h.get? b=ab ob) (n:H b=af) (c:b∉ex):∃d,h1.get? b=ab { ob with slots:=d}:=by
 by_cases a:b∈fs
 .exact u.slot b ob q n a c
 exact⟨ob.slots,u.keep b ob q n a c⟩
theorem Un.kept (k:∀b u,h.get? b=ab u->h'.get? b=ab u):Un fs ex H H h h' :=
 ⟨λb a q _ _ _=>k b a q,λb a q _ _ _=>⟨a.slots,k b a q⟩,λ_ _ _ n _=>n,λb a q _=>⟨a,k b a q⟩,λ_ _ q=>q,λ_ _ _ q=>q,λ_ ps q=>⟨#[],by rw[q];simp⟩⟩
theorem Un.refl:Un fs ex H H h h:=Un.kept λ_ _ q=>q
theorem Un.laid (k:∀b u,h.get? b=ab u->h'.get? b=ab u) (d:h.objs.size<=a) (c:H a=af):Un fs ex H (As H a o) h h' where
 keep:=λb u q _ _ _=>k b u q
 slot:=λb u q _ _ _=>⟨u.slots,k b u q⟩
 free:=λb u q n _=>by rw[aL (H_ (R_ (y_ q) d))];exact n
 there:=λb u q _=>⟨u,k b u q⟩
 tups:=λb xs q=>by rw[aL (bL q c)];exact q
 frzs:=λb u xs q=>by rw[aL (bL q c)];exact q
 tbls:=λb ps q=>⟨#[],by rw[aL (bL q c),q];simp⟩
theorem Un.write (mu:Me (H x)) (i:e=x\/H e=ab (.own x)) (k:∀b u,b≠e->h.get? b=ab u->h'.get? b=ab u) (d:∃u,h'.get? e=ab u):Un fs ex H (As H x o) h h':=by
 have g:∀b,H b=af->b≠x:=λb n z=>by subst z;rw[n] at mu;exact mu
 have f:∀b,H b=af->b≠e:=λb n z=>by
  subst z;rcases i with r | r
  .exact g b n r
  rw[n] at r;cases r
 have c:∀b u,H b=ab u->¬Me (ab u)->b≠x:=λb u q nm z=>by subst z;rw[q] at mu;exact nm mu
 refine⟨λb u q n _ _=>k b u (f b n) q,λb u q n _ _=>⟨u.slots,k b u (f b n) q⟩,λb u q n _=>by rw[aL (g b n)];exact n,λb u q _=>?_,
  λb xs q=>by rw[aL (c b _ q λz=>z)];exact q,λb u xs q=>by rw[aL (c b _ q λz=>z)];exact q,λb ps q=>⟨#[],by rw[aL (c b _ q λz=>z),q];simp⟩⟩
 by_cases a:b=e
 .subst a;exact d
 exact⟨u,k b u a q⟩
end
noncomputable def RS (h:cn) (H:Hp):ξ ae:=(ay h.objs.size).filter λa=>(H a).isSome
noncomputable def rC (h:cn) (H:Hp):cn:=PySem.W.hideAll h (RS h H)
theorem Cj (h:cn) (H:Hp):(rC h H).objs.size=h.objs.size:=PySem.W.hideAll_size _ _
theorem Ei (e:h.get? b=ab o) (n:H b=af):(rC h H).get? b=ab o :=
 PySem.W.hideAll_get _ e λa=>by
  have q:(H b).isSome=ag:=(L_.mp a).2;rw[n] at q;simp at q
theorem J8 (e:(rC h H).get? b=ab o):h.get? b=ab o/\H b=af:=by
 have a:h.get? b=ab o:=PySem.W.of_hideAll (RS h H) e;refine⟨a,?_⟩;cases q:H b with
 |none=>rfl
 |some x =>
  have c:b∈RS h H:=L_.mpr ⟨Y_.mpr (y_ a),by simp [q]⟩
  have z:(rC h H).get? b=af:=PySem.W.hideAll_none (RS h H) c
  rw[z] at e;cases e
noncomputable def J9 (g h : cn) (L : ae) : ξ (ae × dP):=(ay h.objs.size).filterMap λa => if a = L \/ (g.get? a).isSome = ag then af else (h.get? a).map λo => (a,o)
noncomputable def AB (g h:cn) (L d:ae):ξ (ae × dP):=(J9 g h L).filter λp=>decide (p.1≠d)
structure Mod (K:a5) (mg:aw->Option av) (base:cn):Prop where
 kin:K.In base
 glob:base.Ns bo mg
 blt:∃mb,base.Ns h9 mb/\∀x:aw,x≠"__name__"->mb x=bi x
 nolimit:base.NoLimit
structure Cx where
 prog:bb
 w:bg
 K:a5
 mg:aw->Option av
 base:cn
 A:dn
 N:List aw
 s₀:aT
 H₀:Hp
 env:yA
 outer:List yA
 stack:List yA
 ex:List ae
 fn:aw->Bool
 calm:Bool
 pn:List (ae × dP)
 xe:av->aT->Prop
noncomputable def G2 (l : ξ yA) : ξ ae:=l.filterMap (·.frame)
noncomputable abbrev Cx.fs (X:Cx):ξ ae:=G2 X.outer
def Os (a:Scope) (x:aw):Prop:=a.names.lookup x=ab .local\/a.names.lookup x=ab .cell\/a.names.lookup x=ab .free
def HG (a:Scope) (x:aw):Prop:=a.names.lookup x=ab .local\/a.names.lookup x=ab .cell
def Tb (env:yA) (h:cn) (m:aw->ζ av) (x:aw) (u:av):Prop :=
 (env.kindOf x=ab .local/\m x=ab u)\/((env.kindOf x=ab .cell\/env.kindOf x=ab .free)/\∃c,env.cells.lookup x=ab c/\h.IsCell c (ab u))
structure Cx.Ok (X:Cx):Prop where
 mod:Mod X.K X.mg X.base
 kind:X.env.scope.kind=.function
 glob:X.env.globals=bo
 blt:X.env.builtins=h9
 above:X.s₀.heap.objs.size<=X.env.locals
 inj:∀x y c,X.env.cells.lookup x=ab c->X.env.cells.lookup y=ab c->x=y
 has:∀x,(X.env.kindOf x=ab .cell\/X.env.kindOf x=ab .free)->∃c,X.env.cells.lookup x=ab c
 cab:∀x c,X.fn x=ag->X.env.cells.lookup x=ab c->X.s₀.heap.objs.size<=c
 hd:X.calm=ag->X.A.handled=af
 frames:X.A.frames=ab X.stack
 stk:X.stack=X.outer\/(X.stack=X.env::X.outer/\X.env.frame=ab X.env.locals)
 exf:∀b∈X.ex,b≠X.env.locals/\∀x c,X.env.cells.lookup x=ab c->c≠b
 bs:∀b o,X.base.get? b=ab o->X.s₀.heap.get? b=ab o/\X.H₀ b=af
 bsz:X.base.objs.size<=X.s₀.heap.objs.size
 noex:∀b o,X.base.get? b=ab o->b∉X.ex
 exfs:∀b∈X.ex,b∉X.fs
 funs:X.s₀.heap.FunFrames X.base X.outer
 frf:∀b∈X.fs,X.H₀ b=af
structure Inv (X:Cx) (pins:List (ae × dP)) (σ:List (Option V)) (H:Hp) (s:aT):Prop where
 ok:X.Ok
 os:s.os=X.s₀.os
 bare:jv s.gens
 base:Un X.fs X.ex X.H₀ H X.s₀.heap s.heap
 loc:∃m,s.heap.Ns X.env.locals m/\∀(i:Nat) (x:aw) (v:V),X.N[i]?=ab x->σ[i]?=ab (ab v)->Os X.env.scope x->∃u,z4 v u/\Tb X.env s.heap m x u
 cell:∀x c,X.env.cells.lookup x=ab c->∃v,s.heap.IsCell c v
 free:H X.env.locals=af
 freeC:∀x c,X.env.cells.lookup x=ab c->H c=af
 pin:∀p∈X.pn++pins,s.heap.get? p.1=ab p.2/\H p.1=af/\p.1≠X.env.locals/\p.1∉X.fs/\∀v,p.2.data≠.cell v
 hok:A8 X.prog X.w H s.heap
 len:σ.length=X.N.length
section
variable {X:Cx}{pins:ξ (ae × dP)}{σ:ξ (ζ V)}{H H':Hp}{s:aT}
theorem Cx.Ok.nofr (c:X.Ok) (e:X.base.get? b=ab o):b∉X.fs:=λa=>by
 have:=(c.funs.mem a).1;rw[e] at this;cases this
theorem Inv.bs (I:Inv X pins σ H s):∀b o,X.base.get? b=ab o->s.heap.get? b=ab o/\H b=af:=λb o e =>
 ⟨I.base.keep b o (I.ok.bs b o e).1 (I.ok.bs b o e).2 (I.ok.nofr e) (I.ok.noex b o e),I.base.free b o (I.ok.bs b o e).1 (I.ok.bs b o e).2 (I.ok.noex b o e)⟩
theorem Inv.bk (I:Inv X pins σ H s):∀b o,X.base.get? b=ab o->s.heap.get? b=ab o:=λb o e=>(I.bs b o e).1
theorem Inv.mod (I:Inv X pins σ H s):Mod X.K X.mg X.base:=I.ok.mod
theorem Inv.kIn (I:Inv X pins σ H s):X.K.In s.heap:=I.ok.mod.kin.keeps I.bk
theorem Inv.lt (I:Inv X pins σ H s):X.env.locals<s.heap.objs.size:=let ⟨_,hn,_⟩:=I.loc;hn.lt
theorem Inv.sz (I:Inv X pins σ H s):X.s₀.heap.objs.size<=s.heap.objs.size:=S_ I.ok.above (D0 I.lt)
theorem Inv.nofs (I:Inv X pins σ H s) {a:ae}(h:s.heap.objs.size<=a):a∉X.fs:=λb=>by
 obtain⟨_,o,c,_⟩:=I.ok.funs.mem b;exact AL (R_ (y_ c) (S_ I.sz h)) (CU _)
theorem Inv.cne (I:Inv X pins σ H s):∀x c,X.env.cells.lookup x=ab c->c≠X.env.locals:=λx c e z=>by
 obtain⟨v,o,d,f⟩:=I.cell x c e;obtain⟨m,⟨h,g,ep,b,a,_⟩,_⟩:=I.loc;rw[z,b] at d;cases d;rw[a] at f;cases f
theorem Inv.funs (I:Inv X pins σ H s):s.heap.FunFrames X.base X.outer:=by
 have d:∀(l:ξ yA),(∀b∈G2 l,b∈X.fs)->X.s₀.heap.FunFrames X.base l->s.heap.FunFrames X.base l:=by
  intro l;induction l with
  |nil=>intro _ _;trivial
  |cons env r i =>
  intro g p;obtain ⟨k,⟨L,o,a,h,j,n⟩,m⟩:=p;have f : L ∈ X.fs:=g L (by unfold G2; rw [gI,a]; exact A_);obtain ⟨q,e⟩:=I.base.slot L o j (I.ok.frf L f) f λz => I.ok.exfs L z f;exact ⟨k,⟨L,_,a,h,e,n⟩,i (λb c => g b (by unfold G2; rw [gI,a]; exact E_ _ c)) m⟩
 exact d X.outer (λ_ c=>c) I.ok.funs
theorem Inv.stack (I:Inv X pins σ H s):s.heap.FunFrames X.base X.stack:=by
 rcases I.ok.stk with e | ⟨e,b⟩
 .rw[e];exact I.funs
 rw[e];obtain⟨m,a,_⟩:=I.loc;refine .cons (by rw[I.ok.kind];decide) b a ?_ I.funs;exact Heap.get?_none_of_le (S_ I.ok.bsz I.ok.above)
theorem Inv.stkSub (I:Inv X pins σ H s):∀b∈G2 X.stack,b∈X.env.locals::X.fs:=λb a=>by
 rcases I.ok.stk with e | ⟨e,c⟩
 .rw[e] at a;exact E_ _ a
 rw [e] at a;unfold G2 at a;rw [gI,c] at a;exact a
theorem Inv.stkFree (I:Inv X pins σ H s):∀b∈G2 X.stack,H b=af:=λb a=>by
 rcases v_.mp (I.stkSub b a) with e | a
 .rw[e];exact I.free
 obtain⟨_,o,c,_⟩:=I.ok.funs.mem a;exact I.base.free b o c (I.ok.frf b a) λz=>I.ok.exfs b z a
theorem Inv.step {t':Nat}{d':Drawn}{ch:ξ ae} (I:Inv X pins σ H s) (t:∀b∈ch,(b∈X.ex\/X.s₀.heap.objs.size<=b)/\b≠X.env.locals/\(∀x c,X.env.cells.lookup x=ab c->c≠b)/\∀p∈X.pn++pins,p.1≠b) (h:∀b o,b≠X.env.locals->b∉X.fs->b∉ch->s.heap.get? b=ab o->H b=af->h'.get? b=ab o) (B:∀b o,b≠X.env.locals->b∈X.fs->b∉ch->s.heap.get? b=ab o->H b=af->∃Q,h'.get? b=ab { o with slots:=Q}) (f:∀b o,b∉ch->s.heap.get? b=ab o->H b=af->H' b=af) (D:∀b o,b∉ch->s.heap.get? b=ab o->∃G,h'.get? b=ab G) (J:∀b xs,H b=ab (.tup xs)->H' b=ab (.tup xs)) (M:∀b o u,H b=ab (.frz o u)->H' b=ab (.frz o u)) (K:∀b ps,H b=ab (.tbl ps)->∃more,H' b=ab (.tbl (ps++more))) (ns:∀m,s.heap.Ns X.env.locals m->h'.Ns X.env.locals m) (O:A8 X.prog X.w H' h') (V:jv g'):
  Inv X pins σ H' { s with heap:=h',gens:=g',drawn:=d',toks:=t'}:=by
 have L:∀b o,X.s₀.heap.get? b=ab o->b≠X.env.locals:=λb o e=>H_ (R_ (y_ e) I.ok.above);have y:∀b o,X.s₀.heap.get? b=ab o->b∉X.ex->b∉ch:=λb o e a C=>by
  rcases (t b C).1 with z | z
  .exact a z
  exact AL (R_ (y_ e) z) (CU _)
 have g:∀x c,X.env.cells.lookup x=ab c->∀v,s.heap.IsCell c v->h'.IsCell c v:=λx c e v ⟨o,E,P⟩=>by
  have j:c∉ch:=λz=>(t c z).2.2.1 x c e rfl;by_cases U:c∈X.fs
  .obtain⟨Q,q⟩:=B c o (I.cne x c e) U j E (I.freeC x c e);exact⟨_,q,P⟩
  exact⟨o,h c o (I.cne x c e) U j E (I.freeC x c e),P⟩
 refine⟨I.ok,I.os,V,⟨λb o e n C a=>?_,λb o e n C a=>?_,λb o e n a=>?_,λb o e a=>?_,λb xs e=>J b xs (I.base.tups b xs e),λb o xs e=>M b o xs (I.base.frzs b o xs e),λb ps e=>?_⟩,?_,λx c e=>?_,?_,λx c e=>?_,λp S=>?_,O,I.len⟩
 .exact h b o (L b o e) C (y b o e a) (I.base.keep b o e n C a) (I.base.free b o e n a)
 .obtain⟨Q,A⟩:=I.base.slot b o e n C a;obtain⟨N,F⟩:=B b _ (L b o e) C (y b o e a) A (I.base.free b o e n a);exact⟨N,F⟩
 .obtain⟨G,A⟩:=I.base.there b o e a;exact f b G (y b o e a) A (I.base.free b o e n a)
 .obtain⟨G,A⟩:=I.base.there b o e a;exact D b G (y b o e a) A
 .obtain⟨W,A⟩:=I.base.tbls b ps e;obtain⟨m2,F⟩:=K b _ A;exact⟨W++m2,by rw[F,Array.append_assoc]⟩
 .obtain⟨m,Y,Z⟩:=I.loc;refine⟨m,ns m Y,λi x v A F e3=>?_⟩;obtain⟨u,r,l⟩:=Z i x v A F e3;refine⟨u,r,?_⟩;rcases l with l | ⟨k,c,e,z⟩
  .exact .inl l
  exact .inr ⟨k,c,e,g x c e _ z⟩
 .obtain⟨v,z⟩:=I.cell x c e;exact⟨v,g x c e v z⟩
 .obtain⟨m,⟨o,_,_,E,_⟩,_⟩:=I.loc;exact f _ o (λz=>(t _ z).2.1 rfl) E I.free
 .obtain⟨v,o,E,P⟩:=I.cell x c e;exact f c o (λz=>(t c z).2.2.1 x c e rfl) E (I.freeC x c e)
 obtain⟨e,n,T,R,d⟩:=I.pin p S;have j:p.1∉ch:=λz=>(t p.1 z).2.2.2 p S rfl;exact⟨h p.1 p.2 T R j e n,f p.1 p.2 j e n,T,R,d⟩
theorem Inv.un (I:Inv X pins σ H s) (u:Un X.fs [] H H' s.heap h') (d:A8 X.prog X.w H' h'):Inv X pins σ H' { s with heap:=h',toks:=t'}:=by
 obtain⟨m,⟨o,l,ep,h,r⟩,_⟩:=id I.loc;obtain⟨p,k⟩:=u.any h I.free Ap;exact I.step (g':=s.gens) (d':=s.drawn) (ch:=[]) (λ_ z=>nomatch z) (λb o _ g _ e n=>u.keep b o e n g Ap) (λb o _ g _ e n=>u.slot b o e n g Ap) (λb o _ e n=>u.free b o e n Ap) (λb o _ e=>u.there b o e Ap) u.tups u.frzs u.tbls (λq j=>by
  obtain⟨t,c,f,a,i⟩:=j
  rw[h] at a;cases a
  exact⟨_,c,f,k,i⟩) d I.bare
theorem Inv.call (I:Inv X pins σ H s) (u:Un (G2 X.stack) ch H H' s.heap h') (h:A8 X.prog X.w H' h') (l:jv g') (f:∀b∈ch,(b∈X.ex\/X.s₀.heap.objs.size<=b)/\b≠X.env.locals/\(∀x c,X.env.cells.lookup x=ab c->c≠b)/\∀p∈X.pn++pins,p.1≠b):
  Inv X pins σ H' { s with heap:=h',gens:=g',drawn:=d',toks:=t'}:=by
 obtain⟨m,⟨o,y,ep,k,r⟩,_⟩:=id I.loc;obtain⟨A,j⟩:=u.any k I.free λz=>(f _ z).2.1 rfl;exact I.step (ch:=ch) f (λb o j t a e n=>u.keep b o e n (λz=>(v_.mp (I.stkSub b z)).elim j t) a) (λb o _ _ a e n=>u.any e n a) (λb o a e n=>u.free b o e n a) (λb o a e=>u.there b o e a) u.tups u.frzs u.tbls (λB v=>by
  obtain⟨C,g,i,d,q⟩:=v
  rw[k] at d;cases d
  exact⟨_,g,i,j,q⟩) h l
theorem Inv.turned (I:Inv X pins σ H s) (k:∀b o,b≠it->s.heap.get? b=ab o->h'.get? b=ab o) (h:H it=af) (f:it≠X.env.locals) (y:it∈X.ex\/X.s₀.heap.objs.size<=it) (j:∀x c,X.env.cells.lookup x=ab c->c≠it) (g:∀p∈X.pn++pins,p.1≠it):Inv X pins σ H { s with heap:=h',toks:=t'}:=by
 have d:∀b u,H b=ab u->b≠it:=λb u e z=>by rw[z,h] at e;cases e
 refine I.step (g':=s.gens) (d':=s.drawn) (ch:=[it]) (λb t=>?_) (λb o _ _ a e _=>k b o (λz=>a (by simp [z])) e) (λb o _ _ a e _=>⟨o.slots,k b o (λz=>a (by simp [z])) e⟩) (λ_ _ _ _ n=>n)
  (λb o a e=>⟨o,k b o (λz=>a (by simp [z])) e⟩) (λ_ _ e=>e) (λ_ _ _ e=>e) (λb ps e=>⟨#[],by rw[e];simp⟩) (λm w=>?_) (λb u e=>?_) I.bare
 .have e:b=it:=by simpa using t
  subst e;exact⟨y,f,j,g⟩
 .obtain⟨o,l,ep,i,r⟩:=w;exact⟨o,l,ep,k _ o (a6 f) i,r⟩
 refine (I.hok b u e).stay (λc v a q=>k c v ?_ q) (λ_ q=>q) λ_ _ q=>q;rcases a with z | z
 .rw[z];exact d b u e
 exact d c _ z
theorem Inv.tok (I:Inv X pins σ H s) (t:Nat):Inv X pins σ H { s with toks:=t}:=I.un (h':=s.heap) (t':=t) Un.refl I.hok
theorem Inv.kept (I:Inv X pins σ H s) (k:∀b u,s.heap.get? b=ab u->h'.get? b=ab u):Inv X pins σ H { s with heap:=h',toks:=t'}:=I.un (Un.kept k) (I.hok.kept k)
theorem Inv.laid {a:ae} (I:Inv X pins σ H s) (k:∀b u,s.heap.get? b=ab u->h'.get? b=ab u) (c:s.heap.objs.size<=a) (d:W2 X.prog X.w (As H a o) h' a o):
  Inv X pins σ (As H a o) { s with heap:=h',toks:=t'}:=I.un (Un.laid k c (I.hok.fresh c)) (I.hok.laid k c d)
theorem Inv.write (I:Inv X pins σ H s) (mu:Me (H x)) (d:e=x\/H e=ab (.own x)) (k:∀b u,b≠e->s.heap.get? b=ab u->h'.get? b=ab u) (a:∃u,h'.get? e=ab u) (c:W2 X.prog X.w (As H x o) h' x o):Inv X pins σ (As H x o) { s with heap:=h',toks:=t'}:=I.un (Un.write mu d k a) (I.hok.write mu d k a c)
theorem Inv.pins_of (I:Inv X pins σ H s) (h:∀p∈pins',s.heap.get? p.1=ab p.2/\H p.1=af/\p.1≠X.env.locals/\p.1∉X.fs/\∀v,p.2.data≠.cell v):Inv X pins' σ H s :=
 ⟨I.ok,I.os,I.bare,I.base,I.loc,I.cell,I.free,I.freeC,λp a=>(x_.mp a).elim (λz=>I.pin p (FU _ z)) (h p),I.hok,I.len⟩
theorem uo {N:ξ aw} (d:N.Nodup) {i j:Nat} (a:N[i]?=ab x) (b:N[j]?=ab x):i=j:=by obtain⟨g,e⟩:=IR.mp a;obtain⟨f,c⟩:=IR.mp b;exact (List.getElem_inj d).mp (e.trans c.symm)
theorem qw (I:Inv X pins σ H s) (hN:X.N.Nodup) (P:X.N[i]?=ab x) (B:HG X.env.scope x) (r:z4 v u) (h:∀s',Inv X pins (σ.set i (ab v)) H s'->(∃a,db a s.heap s'.heap/\(a=X.env.locals\/X.env.cells.lookup x=ab a))->Q () s') (hf:X.fn x=ag\/X.env.scope.names.lookup x=ab .local:=by first | exact .inl rfl | exact .inr rfl | assumption):ax M A (storeName X.env x u) Q E s:=by
 obtain⟨m,hn,hl⟩:=id I.loc;have R:(X.env.scope.kind==.class||(X.env.scope.kind==.module&&X.env.locals != X.env.globals))=ai:=by rw[I.ok.kind];rfl
 have F:i<σ.length:=by rw[I.len];exact (IR.mp P).1
 have L:=I.cne;have g:∀{a:ae} {h':cn},(∃o,s.heap.get? a=ab o/\H a=af)->db a s.heap h'->A8 X.prog X.w H h':=λ{a h'} ha f b ob e=>by
  obtain⟨_,_,C⟩:=ha;refine (I.hok b ob e).stay (λc Y t q=>(f.2 c ?_).trans q) (λ_ q=>q) λ_ _ q=>q;rintro rfl;rcases t with rfl | t
  .rw[C] at e;cases e
  rw[C] at t;cases t
 rcases B with G | G
 .refine wpAny_storeName_local G hn (λh' hn' f=>?_) R;obtain⟨oL,_,_,hoL,_⟩:=id hn;refine h _ ⟨I.ok,I.os,I.bare,⟨λb o e n K B=>?_,λb o e n K B=>?_,I.base.free,λb o e B=>?_,I.base.tups,I.base.frzs,I.base.tbls⟩,⟨_,hn',λj y v' l D e3=>?_⟩,λy c e=>?_,I.free,I.freeC,λp hp=>?_,g ⟨oL,hoL,I.free⟩ f,by simpa using I.len⟩ ⟨_,f,.inl rfl⟩
  .exact (f.2 b (H_ (R_ (y_ e) I.ok.above))).trans (I.base.keep b o e n K B)
  .obtain⟨sl,l⟩:=I.base.slot b o e n K B;exact⟨sl,(f.2 b (H_ (R_ (y_ e) I.ok.above))).trans l⟩
  .obtain⟨o',l⟩:=I.base.there b o e B;exact⟨o',(f.2 b (H_ (R_ (y_ e) I.ok.above))).trans l⟩
  .by_cases O:j=i
   .subst O;rw[P] at l;cases l;rw[Sf F] at D;cases D;exact⟨u,r,.inl ⟨G,Ap⟩⟩
   rw[P7 (a6 O)] at D;obtain⟨u',r',q⟩:=hl j y v' l D e3;refine⟨u',r',?_⟩;rcases q with ⟨k,e⟩ | ⟨k,c,e,z⟩
   .refine .inl ⟨k,?_⟩;have:y≠x:=λe=>O (uo hN l (e▸P));simp [this,e]
   exact .inr ⟨k,c,e,z.sameBut f (L y c e)⟩
  .obtain⟨Y,z⟩:=I.cell y c e;exact⟨Y,z.sameBut f (L y c e)⟩
  obtain⟨e,n,Z,nf,d⟩:=I.pin p hp;exact⟨(f.2 p.1 Z).trans e,n,Z,nf,d⟩
 have J:X.fn x=ag:=by
  rcases hf with z | z
  .exact z
  rw[z] at G;cases G
 obtain⟨c,t⟩:=I.ok.has x (.inl G);obtain⟨Y,z⟩:=I.cell x c t;refine wpAny_storeName_cell I.ok.kind G t z (λh' S f=>?_);obtain⟨oc,U,W⟩:=id z;refine h { s with heap:=h'} ⟨I.ok,I.os,I.bare,⟨λb o e n K B=>?_,λb o e n K B=>?_,I.base.free,λb o e B=>?_,I.base.tups,I.base.frzs,I.base.tbls⟩,⟨m,hn.sameBut f (a6 (L x c t)),λj y v' l D e3=>?_⟩,λy c' e=>?_,I.free,I.freeC,λp hp=>?_,g ⟨oc,U,I.freeC x c t⟩ f,by simpa using I.len⟩ ⟨c,f,.inr t⟩
 .exact (f.2 b (H_ (R_ (y_ e) (I.ok.cab x c J t)))).trans (I.base.keep b o e n K B)
 .obtain⟨sl,l⟩:=I.base.slot b o e n K B;exact⟨sl,(f.2 b (H_ (R_ (y_ e) (I.ok.cab x c J t)))).trans l⟩
 .obtain⟨o',l⟩:=I.base.there b o e B;exact⟨o',(f.2 b (H_ (R_ (y_ e) (I.ok.cab x c J t)))).trans l⟩
 .by_cases O:j=i
  .subst O;rw[P] at l;cases l;rw[Sf F] at D;cases D;exact⟨u,r,.inr ⟨.inl G,c,t,S⟩⟩
  rw[P7 (a6 O)] at D;obtain⟨u',r',q⟩:=hl j y v' l D e3;refine⟨u',r',?_⟩;rcases q with q | ⟨k,c',e,z'⟩
  .exact .inl q
  refine .inr ⟨k,c',e,z'.sameBut f ?_⟩;rintro rfl;exact O (uo hN l (I.ok.inj _ _ _ e t▸P))
 .by_cases T:c'=c
  .subst T;exact⟨_,S⟩
  obtain⟨w2,z2⟩:=I.cell y c' e;exact⟨w2,z2.sameBut f T⟩
 obtain⟨e,n,Z,nf,d⟩:=I.pin p hp;refine⟨(f.2 p.1 ?_).trans e,n,Z,nf,d⟩;intro q;rw[q,U] at e;have q':oc=p.2:=O_ e;exact d Y (by rw[<- q'];exact W)
theorem ut (I:Inv X pins σ H s) (c:X.N.Nodup) (e:X.N[i]?=ab x) (d:HG X.env.scope x) (r:z4 v u) (h:∀s',Inv X pins (σ.set i (ab v)) H s'->Q () s') (a:X.fn x=ag\/X.env.scope.names.lookup x=ab .local:=by first | exact .inl rfl | exact .inr rfl | assumption):ax M A (storeName X.env x u) Q E s :=
 qw I c e d r (λs' b _=>h s' b) a
theorem Inv.call' (I:Inv X pins σ H s) (g:s'.os=s.os) (u:Un (G2 X.stack) ch H H' s.heap s'.heap) (d:A8 X.prog X.w H' s'.heap) (f:jv s'.gens) (a:∀b∈ch,(b∈X.ex\/X.s₀.heap.objs.size<=b)/\b≠X.env.locals/\(∀x c,X.env.cells.lookup x=ab c->c≠b)/\∀p∈X.pn++pins,p.1≠b):Inv X pins σ H' s':=by obtain⟨h',g',d',t',h⟩:=s';have e:h=s.os:=g;subst e;exact I.call (g':=g') (t':=t') (d':=d') u d f a
end
abbrev XK:=av->ζ ae->Hp->Prop
abbrev St:=ξ (ζ V)
abbrev VK:=V->Hp->Prop
abbrev TE:=St->Hp->VK->Prop
abbrev TT:=St->Hp->(Bool->Hp->Prop)->Prop
abbrev TA:=St->Hp->(ξ V->Hp->Prop)->Prop
structure Kn where
 nx:St->Hp->Prop
 rt:VK
 bk:St->Hp->Prop:=λ_ _=>False
 ct:St->Hp->Prop:=λ_ _=>False
abbrev TS:=Kn->St->Hp->Prop
def EP (X:Cx) (pins:ξ (ae × dP)) (σ:St) (Q:VK) (u:av) (s':aT):Prop:=∃v H',Inv X pins σ H' s'/\z4 v u/\Q v H'
def TP (X:Cx) (pins:ξ (ae × dP)) (σ:St) (Q:Bool->Hp->Prop) (b:Bool) (s':aT):Prop:=∃H',Inv X pins σ H' s'/\Q b H'
def AP (X:Cx) (pins:ξ (ae × dP)) (σ:St) (Q:ξ V->Hp->Prop) (us:ξ av) (s':aT):Prop:=∃vs H',Inv X pins σ H' s'/\zS vs us/\Q vs H'
def SP (X:Cx) (pins:ξ (ae × dP)) (D:Kn) (f:Flow) (s':aT):Prop :=
 match f with
 |.next=>∃σ' H',Inv X pins σ' H' s'/\D.nx σ' H'
 |.brk=>∃σ' H',Inv X pins σ' H' s'/\D.bk σ' H'
 |.cont=>∃σ' H',Inv X pins σ' H' s'/\D.ct σ' H'
 |.ret u=>∃v σ' H',Inv X pins σ' H' s'/\z4 v u/\D.rt v H'
def PE (X:Cx) (e:Expr) (t:TE):Prop :=
 ∀(pins:ξ (ae × dP)) (s:aT) (σ:St) (H:Hp) (Q:VK),Inv X pins σ H s->t σ H Q->ax (aI X.prog X.w) X.A (bt e X.env) (EP X pins σ Q) X.xe s
def PT (X:Cx) (e:Expr) (t:TT):Prop :=
 ∀(pins:ξ (ae × dP)) (s:aT) (σ:St) (H:Hp) (Q:Bool->Hp->Prop),Inv X pins σ H s->t σ H Q->ax (aI X.prog X.w) X.A (isTrue e X.env (bt e X.env)) (TP X pins σ Q) X.xe s
def PW (X:Cx) (e:Expr) (t:TT):Prop :=
 ∀(a:Sem av) (pins:ξ (ae × dP)) (s:aT) (σ:St) (H:Hp) (Q:Bool->Hp->Prop),Inv X pins σ H s->t σ H Q->ax (aI X.prog X.w) X.A (isTrue e X.env a) (TP X pins σ Q) X.xe s
theorem PW.pt (h:PW X e t):PT X e t:=h _
def PA (X:Cx) (b:ξ Expr) (t:TA):Prop :=
 ∀(a:gE) (pins:ξ (ae × dP)) (s:aT) (σ:St) (H:Hp) (Q:ξ V->Hp->Prop),Inv X pins σ H s->t σ H Q->ax (aI X.prog X.w) X.A (tj (cf a (aE b X.env))) (AP X pins σ Q) X.xe s
def PS (X:Cx) (st:ez) (t:TS):Prop :=
 ∀(pins:ξ (ae × dP)) (s:aT) (σ:St) (H:Hp) (D:Kn),Inv X pins σ H s->t D σ H->ax (aI X.prog X.w) X.A (exec st X.env) (SP X pins D) X.xe s
def Da (X:Cx) (st:ξ ez) (t:TS):Prop :=
 ∀(pins:ξ (ae × dP)) (s:aT) (σ:St) (H:Hp) (D:Kn),Inv X pins σ H s->t D σ H->ax (aI X.prog X.w) X.A (execs st X.env) (SP X pins D) X.xe s
theorem AE {t:Sem b}{Q c:b->aT->Prop} (h:ax M A t Q E s) (d:∀a s,Q a s->c a s):ax M A t c E s:=CA h d λ_ _ x=>x
section
variable {X:Cx}
def WF (i:Nat):TE:=λσ H Q=>∃v,σ[i]?=ab (ab v)/\Q v H
def tC (v:V):TE:=λ_ H Q=>Q v H
theorem RD {g:gE} (p:X.N[i]?=ab x) (o:Os X.env.scope x) (j:(x==("__debug__":aw))=ai:=by decide) (f:(x==("__classdict__":aw))=ai:=by decide):PE X (.Name x g) (WF i):=by
 intro pins s σ H Q I h;obtain⟨v,e,h⟩:=h;obtain⟨m,n,t⟩:=I.loc;obtain⟨u,r,l⟩:=t i x v p e o;have b:EP X pins σ Q u s:=⟨v,H,I,r,h⟩;rcases l with ⟨d,q⟩ | ⟨d,c,k,a⟩
 .exact tN (wpAny_loadName_local I.ok.kind d n q b) j
 rcases d with d | d
 .exact tN (wpAny_loadName_cell I.ok.kind d k a b) j
 exact tN (wpAny_loadName_free I.ok.kind d k a b f) j
theorem RG:PE X (.Constant (.int i) j u?) (tC (.int i)):=λ_ _ _ H _ I h=>wpAny_Constant_int ⟨.int i,H,I.tok _,⟨_,rfl⟩,h⟩
theorem WK:PE X (.Constant (.bool b) j u?) (tC (.bl b)):=λ_ _ _ H _ I h=>Constant_bool ⟨.bl b,H,I,rfl,h⟩
theorem RJ:PE X (.Constant .none j u?) (tC .non):=λ_ _ _ H _ I h=>Constant_none ⟨.non,H,I,rfl,h⟩
theorem RK:PE X (.Constant (.str x) j u?) (tC (.str x)):=λ_ _ _ H _ I h=>Calls.Constant_str ⟨.str x,H,I.tok _,⟨_,rfl⟩,h⟩
def Gl (X:Cx) (x:aw):Prop:=X.env.kindOf x=ab .globalImplicit
theorem zH {σ:St} (I:Inv X pins σ H s) (c:Gl X x) (d:X.mg x=ab u) (h:Q u s) (b:(x==("__debug__":aw))=ai:=by decide):ax (aI X.prog X.w) X.A (bt (.Name x a) X.env) Q E s :=
 iE I.ok.kind c (Calls.loadGlobal_global (by rw[I.ok.glob];exact I.mod.glob.keeps I.bk) d h) b
theorem gY {E:av->aT->Prop}{σ:St}{a:gE} (I:Inv X pins σ H s) (c:Gl X x) (f:X.mg x=af) (d:bi x=ab u) (h:Q u s) (b:x≠"__name__":=by decide) (i:(x==("__debug__":aw))=ai:=by decide):ax (aI X.prog X.w) X.A (bt (.Name x a) X.env) Q E s:=by obtain⟨j,g,e⟩:=I.mod.blt;exact iE I.ok.kind c (Calls.loadGlobal_builtin (by rw[I.ok.glob];exact I.mod.glob.keeps I.bk) f (by rw[I.ok.blt];exact g.keeps I.bk) ((e x b).trans d) h) i
theorem Ka {a:gE} (c:Gl X x) (e:X.mg x=af) (d:bi x=ab u) (r:z4 v u) (b:x≠"__name__":=by decide) (f:(x==("__debug__":aw))=ai:=by decide):PE X (.Name x a) (tC v) :=
 λ_ _ _ H _ I h=>gY I c e d ⟨v,H,I,r,h⟩ b f
variable {ta tb:TE}
def PC (X:Cx) (op:CmpOp) (a b:Expr) (t:TE):Prop :=
 ∀(pins:ξ (ae × dP)) (s:aT) (σ:St) (H:Hp) (Q:VK),Inv X pins σ H s->t σ H Q ->
  ax (aI X.prog X.w) X.A (bt a X.env) (λv c=>ax (aI X.prog X.w) X.A (bt b X.env) (λu d=>ax (aI X.prog X.w) X.A (ba op v u) (EP X pins σ Q) X.xe d) X.xe c) X.xe s
theorem uv (b:Expr) (h:op≠.In) (a:op≠.NotIn):bP op b=ai:=by
 have c:(op==CmpOp.In)=ai:=by cases op <;> first | rfl | exact AL rfl h
 have d:(op==CmpOp.NotIn)=ai:=by cases op <;> first | rfl | exact AL rfl a
 cases b <;> simp [bP,c,d]
def tB (t:TE):TT:=λσ H Q=>t σ H λx a=>∃c,x=.bl c/\Q c a
theorem Ej (h:PC X op a b t) (d:bP op b=ai:=by first | exact uv _ zC zC | rfl):PE X (.Compare a [op] [b] u?) t:=λpins s σ H Q I c=>tP (h pins s σ H Q I c) d
theorem m6 (h:PC X op a b t) (e:bP op b=ai:=by first | exact uv _ zC zC | rfl):PT X (.Compare a [op] [b] u?) (tB t):=by intro pins s σ H Q I i;refine lp (AE (h pins s σ H _ I i) λv o e=>AE e λu n f=>AE f λc m ⟨x,g,j,l,k⟩=>?_) e;obtain⟨d,rfl,q⟩:=k;cases l;exact GO ⟨g,j,q⟩
theorem RL (h:PE X e t) (a:∀whole,isTrue e X.env whole=(do let v <- whole;ng e.pos;fh [v] (truthy v)):=by intro _;rfl):PT X e (tB t):=by intro pins s σ H Q I c;refine isTrue_plain (AE (h pins s σ H _ I c) λv j ⟨x,b,f,i,g⟩=>?_) (a _);obtain⟨d,rfl,q⟩:=g;cases i;exact GO ⟨b,f,q⟩
variable {AB:ξ Expr}
def b! (t u:TT):TT:=λσ H Q=>t σ H λc a=>if c=ag then u σ a Q else Q ai a
def Zs (t u:TT):TT:=λσ H Q=>t σ H λc a=>if c=ag then Q ag a else u σ a Q
def Y1 (t:TT):TT:=λσ H Q=>t σ H λc a=>Q (!c) a
theorem Kc (b:PT X a tA):PW X (.BoolOp .And [a] u?) tA:=by
 intro d pins s σ H Q I h;refine isTrue_and (AE (b pins s σ H Q I h) λc f e=>?_);cases c with
 |true=>exact isTrue_and_nil e
 |false=>exact e
theorem RM (b:PT X a tA):PW X (.BoolOp .Or [a] u?) tA:=by
 intro d pins s σ H Q I h;refine isTrue_or (AE (b pins s σ H Q I h) λc f e=>?_);cases c with
 |false=>exact isTrue_or_nil e
 |true=>exact e
theorem RN (k:PT X a tA) (i:PW X (.BoolOp .And (b::AB) u?) tB'):PW X (.BoolOp .And (a::b::AB) u?) (b! tA tB'):=by
 intro g pins s σ H Q I h;refine isTrue_and (AE (k pins s σ H _ I h) λc j ⟨d,e,f⟩=>?_);cases c with
 |true=>exact i g pins j σ d Q e f
 |false=>exact⟨d,e,f⟩
theorem WL (k:PT X a tA) (i:PW X (.BoolOp .Or (b::AB) u?) tB'):PW X (.BoolOp .Or (a::b::AB) u?) (Zs tA tB'):=by
 intro g pins s σ H Q I h;refine isTrue_or (AE (k pins s σ H _ I h) λc j ⟨d,e,f⟩=>?_);cases c with
 |true=>exact⟨d,e,f⟩
 |false=>exact i g pins j σ d Q e f
theorem RP (d:PT X a tA):PT X (.UnaryOp .Not a u?) (Y1 tA):=by intro pins s σ H Q I h;exact isTrue_not (d pins s σ H (λc b=>Q (!c) b) I h)
def WM (b d:TE):TE:=λσ H Q=>b σ H λx a=>∃c,x=.bl c/\if c=ag then d σ a Q else Q (.bl ai) a
def ZB (b d:TE):TE:=λσ H Q=>b σ H λx a=>∃c,x=.bl c/\if c=ag then Q (.bl ag) a else d σ a Q
def WN (a:TE):TE:=λσ H Q=>a σ H λx b=>∃c,x=.bl c/\Q (.bl (!c)) b
theorem RQ (h:PE X a t):PE X (.BoolOp op [a] u?) t:=λpins s σ H Q I b=>BoolOp_one (h pins s σ H Q I b)
theorem RV (j:PE X a ta) (g:PE X (.BoolOp .And (b::AB) u?) tb):PE X (.BoolOp .And (a::b::AB) u?) (WM ta tb):=by
 intro pins s σ H Q I h;refine BoolOp_and (AE (j pins s σ H _ I h) λv i ⟨x,e,f,k,d⟩=>?_);obtain⟨c,rfl,d⟩:=d;cases k;refine GO ?_;cases c with
 |true=>exact g pins i σ e Q f d
 |false=>exact⟨.bl ai,e,f,rfl,d⟩
theorem WP (j:PE X a ta) (g:PE X (.BoolOp .Or (b::AB) u?) tb):PE X (.BoolOp .Or (a::b::AB) u?) (ZB ta tb):=by
 intro pins s σ H Q I h;refine BoolOp_or (AE (j pins s σ H _ I h) λv i ⟨x,e,f,k,d⟩=>?_);obtain⟨c,rfl,d⟩:=d;cases k;refine GO ?_;cases c with
 |false=>exact g pins i σ e Q f d
 |true=>exact⟨.bl ag,e,f,rfl,d⟩
theorem RW (f:PE X a ta):PE X (.UnaryOp .Not a u?) (WN ta):=by intro pins s σ H Q I h;refine UnaryOp_ (AE (f pins s σ H _ I h) λv i ⟨x,d,e,g,b⟩=>?_);obtain⟨c,rfl,b⟩:=b;cases g;exact not_of (GO ⟨.bl (!c),d,e,rfl,b⟩)
end
def BN (K:a5) (H:Hp) (a:ae) (xs:ξ V):Prop :=
 Rd H a (.lst xs) \/
  ∃(o:dP) (b:Array av) (n:Nat),K.lookup a=ab o/\o.cls=.type "list"/\o.dict=af/\o.data=.seq b n/\b.size<=am/\zS xs b.toList
def A3 (K:a5) (H:Hp) (a:ae) (xs:ξ V):Prop :=
 Rd H a (.tup xs) \/
  ∃(o:dP) (b:Array av) (n:Nat),K.lookup a=ab o/\o.cls=.type "tuple"/\o.dict=af/\o.data=.seq b n/\b.size<=am/\zS xs b.toList
noncomputable def u!:av->ζ V
 |.none=>ab .non
 |.bool b=>ab (.bl b)
 |.int i _=>ab (.int i)
 |.str x _=>ab (.str x)
 |.bytes b _=>ab (.byt b)
 |.float b _=>ab (.flt b)
 |.ref a=>ab (.ref a)
 |.type n=>ab (.ty n)
 |_=>af
theorem z4.abs (r:z4 x u):u! u=ab x:=by
 cases x with
 |non=>cases r;rfl
 |bl _=>cases r;rfl
 |int _=>obtain⟨t,rfl⟩:=r;rfl
 |str _=>obtain⟨t,rfl⟩:=r;rfl
 |byt _=>obtain⟨t,rfl⟩:=r;rfl
 |flt _=>obtain⟨t,rfl⟩:=r;rfl
 |ref _=>cases r;rfl
 |ty _=>cases r;rfl
theorem z4.inj (r:z4 x u) (q:z4 y u):x=y:=O_ (r.abs.symm.trans q.abs)
theorem zS.inj (h:zS xs us) (h':zS a us):xs=a:=by
 induction h generalizing a with
 |nil=>cases h';rfl
 |cons r t b =>
 cases h' with
 |cons c t'=>rw[r.inj c,b t']
section
variable {X:Cx}{pins:ξ (ae × dP)}{σ:St}
theorem BN.of {K:a5}(h:H a=ab (.lst xs)):BN K H a xs:=.inl (.inl h)
theorem A3.of {K:a5}(h:H a=ab (.tup xs)):A3 K H a xs:=.inl (.inl h)
theorem Inv.list (I:Inv X pins σ H s) (h:BN X.K H a xs):∃b:ξ av,zS xs b/\PlainL s.heap a b.toArray/\xs.length<=am:=by
 rcases h with h | ⟨o,b,n,c,g,f,d,i,r⟩
 .obtain⟨z,b,n,r,e⟩:=h.ok I.hok;exact⟨b,r,⟨_,n,e,rfl,rfl,rfl⟩,z⟩
 refine⟨b.toList,r,⟨o,n,I.kIn a o c,g,f,by simpa using d⟩,?_⟩;have e:=r.length;simp only[E7] at e;omega
theorem Inv.tuple (I:Inv X pins σ H s) (h:A3 X.K H a xs):∃b:ξ av,zS xs b/\sv s.heap a b.toArray/\xs.length<=am:=by
 rcases h with h | ⟨o,b,n,c,f,_,d,g,r⟩
 .obtain⟨z,b,r,p⟩:=h.ok I.hok;exact⟨b,r,p.is,z⟩
 refine⟨b.toList,r,⟨o,I.kIn a o c,f,n,by simpa using d⟩,?_⟩;have e:=r.length;simp only[E7] at e;omega
theorem Inv.list_inj (I:Inv X pins σ H s) (h:BN X.K H a xs) (h':BN X.K H a ys):xs=ys:=by
 obtain⟨b,r,⟨o,n,e,_,_,d⟩,_⟩:=I.list h;obtain⟨its',f,⟨g,i,c,_,_,d'⟩,_⟩:=I.list h';rw[e] at c;cases c;rw[d] at d';injection d' with d1 _;have:b=its':=by simpa using U_ Array.toList d1
 subst this;exact r.inj f
theorem Inv.tuple_inj (I:Inv X pins σ H s) (h:A3 X.K H a xs) (h':A3 X.K H a ys):xs=ys:=by
 obtain⟨b,r,⟨o,e,_,n,d⟩,_⟩:=I.tuple h;obtain⟨its',f,⟨g,c,_,i,d'⟩,_⟩:=I.tuple h';rw[e] at c;cases c;rw[d] at d';injection d' with d1 _;have:b=its':=by simpa using U_ Array.toList d1
 subst this;exact r.inj f
end
noncomputable abbrev Cx.wish (X:Cx) (E:av->aT->Prop):Cx:={ X with xe:=E}
noncomputable abbrev Cx.nox (X:Cx):Cx:=X.wish λ_ _=>False
theorem Cx.Ok.wish {X:Cx}(a:X.Ok) (E:av->aT->Prop):(X.wish E).Ok :=
 ⟨a.mod,a.kind,a.glob,a.blt,a.above,a.inj,a.has,a.cab,a.hd,a.frames,a.stk,a.exf,a.bs,a.bsz,a.noex,a.exfs,a.funs,a.frf⟩
theorem Cx.Ok.unwish {X:Cx} (a:(X.wish E).Ok):X.Ok :=
 ⟨a.mod,a.kind,a.glob,a.blt,a.above,a.inj,a.has,a.cab,a.hd,a.frames,a.stk,a.exf,a.bs,a.bsz,a.noex,a.exfs,a.funs,a.frf⟩
section
variable {X:Cx}{pins:ξ (ae × dP)}{σ:St}
theorem Inv.wish (I:Inv X pins σ H s) (E:av->aT->Prop):Inv (X.wish E) pins σ H s:=⟨I.ok.wish E,I.os,I.bare,I.base,I.loc,I.cell,I.free,I.freeC,I.pin,I.hok,I.len⟩
theorem Inv.unwish (I:Inv (X.wish E) pins σ H s):Inv X pins σ H s:=⟨I.ok.unwish,I.os,I.bare,I.base,I.loc,I.cell,I.free,I.freeC,I.pin,I.hok,I.len⟩
theorem SP.unwish (h:SP (X.wish E) pins D f s'):SP X pins D f s':=by
 cases f with
 |next=>obtain⟨σ',H',I,q⟩:=h;exact⟨σ',H',I.unwish,q⟩
 |brk=>obtain⟨σ',H',I,q⟩:=h;exact⟨σ',H',I.unwish,q⟩
 |cont=>obtain⟨σ',H',I,q⟩:=h;exact⟨σ',H',I.unwish,q⟩
 |ret u=>obtain⟨v,σ',H',I,r,q⟩:=h;exact⟨v,σ',H',I.unwish,r,q⟩
theorem Da.nox {st:ξ ez} (h:Da X.nox st t):Da X st t:=λpins s σ H D I a =>
 CA (h pins s σ H D (I.wish _) a) (λ_ _ q=>q.unwish) λ_ _ z=>df z
variable {st:ez}{AB:ξ ez}{t u:TS}
def WQ:TS:=λD σ H=>D.nx σ H
def d? (t u:TS):TS:=λD σ H=>t { D with nx:=u D} σ H
theorem Kd:Da X [] WQ:=λ_ _ σ H _ I h=>fF ⟨σ,H,I,h⟩
theorem Ek (h1:PS X st t) (a:Da X AB u):Da X (st::AB) (d? t u):=by
 intro pins s σ H D I h;refine rg (AE (h1 pins s σ H { D with nx:=u D} I h) λf b q=>?_);cases f with
 |next=>obtain⟨σ',H',c,q⟩:=q;exact a pins b σ' H' D c q
 |ret v=>exact q
 |brk=>exact q
 |cont=>exact q
theorem Ke (a:PS X st t):Da X [st] t:=by
 intro pins s σ H D I h;refine rg (AE (a pins s σ H D I h) λf b q=>?_);cases f with
 |next=>exact fF q
 |ret v=>exact q
 |brk=>exact q
 |cont=>exact q
theorem Inv.quiet (I:Inv X pins σ H s):interactive X.env=ai:=by simp [interactive,I.ok.kind]
def WR (te:TE):TS:=λD σ H=>te σ H λ_ a=>D.nx σ a
theorem Kf (a:PE X e te) (c:eh e af u?.line X.env=ce ai:=by rfl):PS X (.Expr e u?) (WR te):=by intro pins s σ H D I h;exact wpAny_Expr_any (AE (a pins s σ H _ I h) λv g ⟨x,b,d,i,f⟩=>⟨σ,b,d,f⟩) I.quiet c
def Y3 (te:TE):TS:=λD σ H=>te σ H D.rt
theorem RX (a:PE X e te):PS X (.Return (ab e) u?) (Y3 te):=by intro pins s σ H D I h;exact wpAny_Return_some (AE (a pins s σ H _ I h) λv g ⟨x,b,c,f,d⟩=>⟨x,σ,b,c,f,d⟩)
def ZE (c:TT) (t u:TS):TS:=λD σ H=>c σ H λb a=>if b=ag then t D σ a else u D σ a
theorem WT {e:TT} (m:PT X c e) (l:Da X a t) (k:Da X b u):PS X (.If c a b u?) (ZE e t u):=by
 intro pins s σ H D I h;refine wpAny_If (AE (m pins s σ H _ I h) λd i ⟨f,g,j⟩=>?_);cases d with
 |true=>exact l pins i σ f D g j
 |false=>exact k pins i σ f D g j
end
abbrev TG:=V->St->Hp->(St->Hp->Prop)->Prop
abbrev Nw:=ξ V->St->Hp->(St->Hp->Prop)->Prop
def PG (X:Cx) (a:Expr) (t:TG):Prop :=
 ∀(pins:ξ (ae × dP)) (s:aT) (σ:St) (H:Hp) (v:V) (u:av) (Q:St->Hp->Prop),Inv X pins σ H s->z4 v u->t v σ H Q ->
  ax (aI X.prog X.w) X.A (ia a X.env u) (λ_ s'=>∃σ' H',Inv X pins σ' H' s'/\Q σ' H') X.xe s
def HU (X:Cx) (ts:ξ Expr) (t:Nw):Prop :=
 ∀(pins:ξ (ae × dP)) (s:aT) (σ:St) (H:Hp) (vs:ξ V) (us:ξ av) (Q:St->Hp->Prop),Inv X pins σ H s->zS vs us->t vs σ H Q ->
  ax (aI X.prog X.w) X.A (assignInOrder ((d5 ts X.env).map (·.2)) us) (λ_ s'=>∃σ' H',Inv X pins σ' H' s'/\Q σ' H') X.xe s
abbrev El:=V->V->V->Hp->(Hp->Prop)->Prop
def L4 (X:Cx) (t:El):Prop :=
 ∀(pins:ξ (ae × dP)) (s:aT) (σ:St) (H:Hp) (o i v:V) (b a u:av) (Q:Hp->Prop),Inv X pins σ H s->z4 o b->z4 i a->z4 v u->t o i v H Q ->
  ax (aI X.prog X.w) X.A (tm b a u) (λ_ s'=>∃H',Inv X pins σ H' s'/\Q H') X.xe s
section
variable {u?:gE}
def Pn (i:Nat):TG:=λv σ H Q=>Q (σ.set i (ab v)) H
theorem Kg (c:X.N.Nodup) (e:X.N[i]?=ab x) (d:HG X.env.scope x) (a:X.fn x=ag\/X.env.scope.names.lookup x=ab .local:=by first | exact .inl rfl | exact .inr rfl | assumption):PG X (.Name x u?) (Pn i):=by intro pins s σ H v u Q I r h;exact pb (ut I c e d r (λs' b=>⟨_,H,b,h⟩) a)
def j':Nw:=λvs σ H Q=>vs=[]/\Q σ H
def WW (t:TG) (u:Nw):Nw:=λvs σ H Q=>∃v r,vs=v::r/\t v σ H λσ' H'=>u r σ' H' Q
theorem Kh:HU X [] j':=by intro pins s σ H vs us Q I r h;obtain⟨e,h⟩:=h;subst e;cases r;exact assignInOrder_nil ⟨σ,H,I,h⟩
theorem Em (j:PG X e t) (c:HU X a u) (f:(d5 (e::a) X.env).map (·.2)=ia e X.env::(d5 a X.env).map (·.2):=by rfl):HU X (e::a) (WW t u):=by
 intro pins s σ H vs us Q I r h;obtain⟨v,n,m,h⟩:=h;subst m;cases r with
 |cons r l =>
 rw[f];refine assignInOrder_cons (AE (j pins s σ H _ _ _ I r h) λ_ i ⟨b,d,g,k⟩=>?_);exact c pins i b d _ _ Q g l k
def f? (K:a5) (n:Nat) (t:Nw):TG:=λv σ H Q=>∃a xs,v=.ref a/\A3 K H a xs/\xs.length=n/\t xs σ H Q
theorem RZ {k:Nat} (x:X.calm=ag) (h:HU X c t) (i:(d5 c X.env).length=n:=by rfl) (d:(d5 c X.env).findIdx? (·.1)=af:=by rfl):PG X (.Tuple c k u?) (f? X.K n t):=by intro pins s σ H v u Q I r f;obtain⟨a,xs,w,hq,q,f⟩:=f;subst w;cases r;obtain⟨m,g,j,y⟩:=I.tuple hq;refine assign_Tuple_tuple (I.ok.hd x) j (by simp [i,<- q,g.length]) d λh' p=>?_;have l:Inv X pins σ H { s with heap:=h'}:=I.kept (t':=s.toks) λb o e=>p b o (H_ (y_ e)) e;exact h pins _ σ H xs _ Q l (by simpa using g) f
def D' (b a:TE) (t:El):TG:=λv σ H Q=>b σ H λo c=>a σ c λi d=>t o i v d λH3=>Q σ H3
theorem Sd (l:PE X o d) (g:PE X i c) (n:L4 X t) (j:∀v,ia (.Subscript o i u?) X.env v=(do
   let a <- fh [v] (bt o X.env)
   let b <- fh [v,a] (bt i X.env)
   ng u?
   fh [v,a,b] (tm a b v)
   release [v,a,b] []):=by intro _;rfl):PG X (.Subscript o i u?) (D' d c t):=by
 intro pins s σ H v u Q I r h;rw[j];refine a_ (DU (AE (l pins s σ H _ I h) λa p ⟨x,w,B,C,D⟩=>?_));refine a_ (DU (AE (g pins p σ w _ B D) λb A ⟨y,k,q,z,f⟩=>?_));refine a_ (jI (a_ (DU (AE (n pins A σ k x y v a b u _ q C z r f) λ_ E ⟨H3,m,e⟩=>?_))));exact wpAny_release ⟨σ,H3,m,e⟩
def WX (te:TE) (g:TG):TS:=λD σ H=>te σ H λx a=>g x σ a D.nx
theorem Sg (b:PE X e te) (c:PG X a g) (i:xk [a] e u?.line X.env=ce ai:=by rfl) (f:xo [a] e X.env=ce af:=by rfl) (l:(d5 [a] X.env).map (·.2)=[ia a X.env]:=by rfl):PS X (.Assign [a] e u?) (WX te g):=by intro pins s σ H D I h;refine wpAny_Assign_stores (AE (b pins s σ H _ I h) λv k ⟨x,d,j,n,m⟩=>?_) i f;rw[l];exact AE (c pins k σ d x v _ j n m) λ_ o q=>q
theorem Sh (g:X.N.Nodup) (m:X.N[i]?=ab x) (l:HG X.env.scope x) (b:PE X e te) (j:eh e (ab (.Name x a)) u?.line X.env=ce ai:=by rfl) (c:X.fn x=ag\/X.env.scope.names.lookup x=ab .local:=by first | exact .inl rfl | exact .inr rfl | assumption):
  PS X (.Assign [.Name x a] e u?) (WX te (Pn i)):=by
 intro pins s σ H D I h;refine wpAny_Assign_Name (AE (b pins s σ H _ I h) λv q ⟨y,f,k,o,n⟩=>?_) j;exact ut k g m l o (λp d=>⟨_,f,d,n⟩) c
def Ss (c:TT) (e:TS):TS:=λD σ H=>∃W:Nat->St->Hp->Prop,(∃m,W m σ H)/\∀m σ H,W m σ H ->
 c σ H λb d=>if b=ag then ∃N:St->Hp->Prop,(∀σ' H',N σ' H'->∃a,a<m/\W a σ' H')/\e { D with nx:=N,ct:=N,bk:=D.nx} σ d else D.nx σ d
theorem En (r:r0 (aI X.prog X.w) X.A X.env X.xe) (K:PT X c q) (C:Da X e u):PS X (.While c e [] u?) (Ss q u):=by
 intro pins s σ H D I h;obtain⟨W,⟨L,J⟩,g⟩:=h;refine wpAny_While (codeAny_whileLoop (λn s'=>∃σ' H',Inv X pins σ' H' s'/\W n σ' H') ?_ L ⟨σ,H,I,J⟩);rintro n E ⟨d,y,G,B⟩;refine L8 r (AE (K pins E d y _ G (g n d y B)) λb F ⟨t,x,j⟩=>?_);cases b with
 |true =>
  obtain⟨N,z,j⟩:=j;rw[z3 rfl];refine L8 r (AE (C pins F d t _ x j) λf M i=>?_);cases f with
  |next=>obtain⟨a,H3,k,p⟩:=i;obtain⟨m,o,l⟩:=z a H3 p;exact⟨m,o,a,H3,k,l⟩
  |cont=>obtain⟨a,H3,k,p⟩:=i;obtain⟨m,o,l⟩:=z a H3 p;exact⟨m,o,a,H3,k,l⟩
  |brk=>exact i
  |ret v=>exact i
 |false =>
 rw[zD M_];exact fF ⟨d,t,x,j⟩
end
structure It where
 go:Nat->Hp->Prop
 yld:Nat->Hp->V->Hp->Prop
 stop:Nat->Hp->Prop
def m7 (X:Cx) (pins:ξ (ae × dP)) (H:Hp) (b:ae):Prop :=
 H b=af/\b≠X.env.locals/\b∉X.fs/\(b∈X.ex\/X.s₀.heap.objs.size<=b)/\(∀x c,X.env.cells.lookup x=ab c->c≠b)/\∀p∈X.pn++pins,p.1≠b
theorem Inv.fpOk {σ:St}{b:ae} (I:Inv X pins σ H s) (a:s.heap.objs.size<=b) (d:H' b=af):m7 X pins H' b:=by
 refine⟨d,B9 (R_ I.lt a),I.nofs a,.inr (S_ I.sz a),λx c e z=>?_,λp f z=>?_⟩
 .obtain⟨v,q⟩:=I.cell x c e;exact AL (R_ q.lt (by rw[z];exact a)) (CU _)
 exact AL (R_ (y_ (I.pin p f).1) (by rw[z];exact a)) (CU _)
structure D7 (P:bb) (w:bg) (K:a5) (tg:Expr) (J:It) (fp:List ae) (it:ae) (tn:Nat->cn->Prop):Prop where
 mem:it∈fp
 obj:∀i h,tn i h->∀b∈fp,∃o,h.get? b=ab o/\∀v,o.data≠.cell v
 keep:∀i h h',tn i h->(∀b∈fp,∀o,h.get? b=ab o->h'.get? b=ab o)->tn i h'
 item:∀(X:Cx),X.prog=P->X.w=w->X.K=K->X.calm=ag->∀(i:Nat) (pins:List (ae × dP)) (s:aT) (σ:St) (H:Hp) (E:av->aT->Prop),Inv X pins σ H s->(∀b∈fp,m7 X pins H b)->tn i s.heap->J.go i H ->
  ax (aI P w) X.A (fI (.ref it)) (λr s1=>∃u,r=ab u /\
   ax (aI P w) X.A (fR tg (.ref it) u) (λ_ s2=>∃x H',Inv X pins σ H' s2/\z4 x u/\J.yld i H x H'/\tn (i+1) s2.heap/\∀b∈fp,H' b=af) E s1) E s
 done:∀(X:Cx),X.prog=P->X.w=w->X.K=K->X.calm=ag->∀(i:Nat) (pins:List (ae × dP)) (s:aT) (σ:St) (H:Hp) (E:av->aT->Prop),Inv X pins σ H s->(∀b∈fp,m7 X pins H b)->tn i s.heap->J.stop i H ->
  ax (aI P w) X.A (fI (.ref it)) (λr s1=>r=af/\Inv X pins σ H s1) E s
 self:∀(A:dn) (i:Nat) (s:aT) (Q:av->aT->Prop) (E:av->aT->Prop),tn i s.heap->Q (.ref it) s->ax (aI P w) A (ya (.ref it)) Q E s
abbrev TI:=St->Hp->(It->Hp->Prop)->Prop
def YI (X:Cx) (pins:ξ (ae × dP)) (σ:St) (f:Expr) (R:It->Hp->Prop) (a:av) (e:aT):Prop :=
 ∃(it:ae) (c:ξ ae) (d:Nat->cn->Prop) (J:It) (H':Hp),a=.ref it/\Inv X pins σ H' e/\D7 X.prog X.w X.K f J c it d/\d 0 e.heap/\(∀b∈c,m7 X pins H' b)/\R J H'
def PI (X:Cx) (c a:Expr) (d:TI):Prop :=
 ∀(pins:ξ (ae × dP)) (s:aT) (σ:St) (H:Hp) (R:It->Hp->Prop),Inv X pins σ H s->d σ H R ->
  ax (aI X.prog X.w) X.A (bt a X.env) (λv b=>ax (aI X.prog X.w) X.A (ya v) (YI X pins σ c R) X.xe b) X.xe s
theorem zJ (d:s.heap.get? it=ab o) (f:o.cls=.type n) (e:o.data=.fields vs) (c:["enumerate","zip","dict_itemiterator","dict_reverseitemiterator","odict_iterator","itertools.zip_longest","itertools.pairwise"].contains n=ai) (a:Q () s):ax M A (fR b (.ref it) u) Q E s:=by
 unfold fR;cases b <;> first
  |exact i_ a
  | (cases u <;> first
    |exact i_ a
    | (refine a_ (om d ?_)
       rw[f,e]
       show ax M A (if (["enumerate","zip","dict_itemiterator","dict_reverseitemiterator","odict_iterator","itertools.zip_longest","itertools.pairwise"].contains n&&vs[0]?==ab (cy _))=ag then _ else _) Q E s
       rw[zD (by intro h;rw[c,LZ] at h;cases h)]
       exact i_ a))
noncomputable def UC (K:a5) (a:ae):It :=
 ⟨λi H=>∃xs x,BN K H a xs/\xs[i]?=ab x,λi H x H'=>H'=H/\∀xs,BN K H a xs->xs[i]?=ab x,λi H=>∃xs,BN K H a xs/\xs.length<=i⟩
noncomputable def TD (K:a5) (a:ae):It :=
 ⟨λi H=>∃xs x,A3 K H a xs/\xs[i]?=ab x,λi H x H'=>H'=H/\∀xs,A3 K H a xs->xs[i]?=ab x,λi H=>∃xs,A3 K H a xs/\xs.length<=i⟩
noncomputable def PZ (a:Int) (n:Nat):It:=⟨λi _=>i<n,λi H x H'=>H'=H/\x=.int (a+i),λi _=>n<=i⟩
theorem Ck {K:a5} (a it:ae):D7 P w K M (UC K a) [it] it (λi h=>h.IsListIter it a i) where
 mem:=by simp
 obj:=λi h st b f=>by
  have e:b=it:=by simpa using f
  subst e
  obtain⟨o,e,c,d⟩:=st
  exact⟨o,e,λv z=>by rw[d] at z;cases z⟩
 keep:=λi h h' st k=>st.at λo e=>k it Ap o e
 item:=by
  intro X A n C G i pins s σ H E I j st l
  subst A n C
  obtain⟨xs,x,hq,q⟩:=l
  obtain⟨D,B,p,Q⟩:=I.list hq
  obtain⟨u,L,R⟩:=B.get q
  obtain⟨y,F,N,t,m,r⟩:=j it Ap
  refine wpAny_pyNext_list_item st p.isList (x:=u) (by simpa using L) λh' g S=>?_
  have O:Inv X pins σ H { s with heap:=h'}:=I.turned (t':=s.toks) (λb o f e=>(S.2 b f).trans e) y F t m r
  obtain⟨o,e,c,d⟩:=id g
  exact⟨u,rfl,zJ (s:={ s with heap:=h'}) e c d zC ⟨x,H,O,R,⟨rfl,λU J=>by rw[I.list_inj J hq];exact q⟩,g,λb f=>(j b f).1⟩⟩
 done:=by
  intro X A n C G i pins s σ H E I j st l
  subst A n C
  obtain⟨xs,hq,q⟩:=l
  obtain⟨D,B,p,Q⟩:=I.list hq
  obtain⟨y,F,N,t,m,r⟩:=j it Ap
  have V:=B.length
  exact wpAny_pyNext_list_end (I.ok.hd G) st p.isList (by simp;omega) λh' T=>⟨rfl,I.turned (t':=s.toks) (λb o f e=>T b o f e) y F t m r⟩
 self:=λ_ _ _ _ _ st h=>wpAny_pyIter_listiter st h
theorem xx {K:a5} (a it:ae):D7 P w K M (TD K a) [it] it (λi h=>h.IsTupleIter it a i) where
 mem:=by simp
 obj:=λi h st b f=>by
  have e:b=it:=by simpa using f
  subst e
  obtain⟨o,e,c,d⟩:=st
  exact⟨o,e,λv z=>by rw[d] at z;cases z⟩
 keep:=λi h h' st k=>st.at λo e=>k it Ap o e
 item:=by
  intro X B q D G i pins s σ H E I l st m
  subst B q D
  obtain⟨xs,x,hq,r⟩:=m
  obtain⟨g,C,p,Q⟩:=I.tuple hq
  obtain⟨u,L,R⟩:=C.get r
  obtain⟨A,F,N,y,n,t⟩:=l it Ap
  refine wpAny_pyNext_tuple_item st (show s.heap.IsTuple a g.toArray from p) (x:=u) (by simpa using L) λh' j S=>?_
  have O:Inv X pins σ H { s with heap:=h'}:=I.turned (t':=s.toks) (λb o f e=>(S.2 b f).trans e) A F y n t
  obtain⟨o,e,c,d⟩:=id j
  exact⟨u,rfl,zJ (s:={ s with heap:=h'}) e c d zC ⟨x,H,O,R,⟨rfl,λU J=>by rw[I.tuple_inj J hq];exact r⟩,j,λb f=>(l b f).1⟩⟩
 done:=by
  intro X B q D G i pins s σ H E I l st m
  subst B q D
  obtain⟨xs,hq,r⟩:=m
  obtain⟨g,C,p,Q⟩:=I.tuple hq
  obtain⟨A,F,N,y,n,t⟩:=l it Ap
  have V:=C.length
  exact wpAny_pyNext_tuple_end (I.ok.hd G) st (show s.heap.IsTuple a g.toArray from p) (by simp;omega) λh' T=>⟨rfl,I.turned (t':=s.toks) (λb o f e=>T b o f e) A F y n t⟩
 self:=λ_ _ _ _ _ st h=>wpAny_pyIter_tupleiter st h
theorem xF {K:a5} (it:ae) (d:Int) (n:Nat):D7 P w K B (PZ d n) [it] it (λi h=>IsRangeIter h it (d+(i:Nat)*1) ((n:Int) - (i:Nat)) 1) where
 mem:=by simp
 obj:=λi h st b a=>by
  have e:b=it:=by simpa using a
  subst e
  exact⟨_,st,λv z=>by
   have G:Data.fields _=Data.cell v:=z
   cases G⟩
 keep:=λi h h' st k=>k it Ap _ st
 item:=by
  intro X r l x u i pins s σ H E I f st g
  subst r l x
  obtain⟨q,y,C,p,j,m⟩:=f it Ap
  have W:=Walks.range (prog:=X.prog) (w:=X.w) (I.ok.hd u) it d 1 n
  refine W.item i s _ _ g st λv h' tk A c D=>?_
  obtain⟨t,rfl⟩:=A
  have F:Inv X pins σ H { s with heap:=h',toks:=tk}:=I.turned (λb o a e=>D b o (by simpa using a) e) q y p j m
  refine⟨_,rfl,zJ (s:={ s with heap:=h',toks:=tk}) (n:="range_iterator") c rfl rfl zC ⟨.int (d+i),H,F,⟨t,?_⟩,⟨rfl,rfl⟩,c,λb a=>(f b a).1⟩⟩
  rw[sx]
 done:=by
  intro X r l x u i pins s σ H E I f st g
  subst r l x
  obtain⟨q,y,C,p,j,m⟩:=f it Ap
  exact wpAny_pyNext_range_end (I.ok.hd u) st (by have:n<=i:=g;omega) λh' J=>⟨rfl,I.turned (t':=s.toks) (λb o a e=>J b o a e) q y p j m⟩
 self:=λ_ _ _ _ _ st h=>wpAny_pyIter_rangeiter st h
section
variable {X:Cx}{tg:Expr}
def WY (K:a5) (c:TE):TI:=λσ H R=>c σ H λx b=>∃a,x=.ref a/\(∃xs,BN K b a xs)/\R (UC K a) b
def c? (K:a5) (c:TE):TI:=λσ H R=>c σ H λx b=>∃a,x=.ref a/\(∃xs,A3 K b a xs)/\R (TD K a) b
theorem Kl (m:PE X l f):PI X tg l (WY X.K f):=by
 intro pins s σ H R I h;refine AE (m pins s σ H _ I h) λv d ⟨x,i,c,n,g⟩=>?_;obtain⟨a,e,⟨xs,hq⟩,q⟩:=g;subst e;cases n;obtain⟨j,t,p,r⟩:=c.list hq;refine NG p.isList ?_;refine⟨d.heap.objs.size,[d.heap.objs.size],_,_,i,rfl,c.kept (t':=d.toks) λb o e=>b_ _ e,Ck a _,⟨_,l_ _ rfl,rfl,rfl⟩,λb k=>?_,q⟩;have e:b=d.heap.objs.size:=by simpa using k
 subst e;exact c.fpOk (o_ _) (c.hok.fresh (o_ _))
theorem Su (m:PE X l g):PI X tg l (c? X.K g):=by
 intro pins s σ H R I h;refine AE (m pins s σ H _ I h) λv c ⟨x,j,d,n,i⟩=>?_;obtain⟨a,e,⟨xs,hq⟩,q⟩:=i;subst e;cases n;obtain⟨f,t,p,r⟩:=d.tuple hq;refine g9 (show c.heap.IsTuple a f.toArray from p) ?_;refine⟨c.heap.objs.size,[c.heap.objs.size],_,_,j,rfl,d.kept (t':=c.toks) λb o e=>b_ _ e,xx a _,⟨_,l_ _ rfl,rfl,rfl⟩,λb k=>?_,q⟩;have e:b=c.heap.objs.size:=by simpa using k
 subst e;exact d.fpOk (o_ _) (d.hok.fresh (o_ _))
theorem uw {σ:St} (I:Inv X pins σ H s) (k : -(2^62)<=a) (h:a<2^62) (f : -(2^62)<=c) (g:c<2^62) (q:R (PZ a (c - a).toNat) H):ax (aI X.prog X.w) X.A (ya (.ref s.heap.objs.size)) (YI X pins σ tg R) E { s with heap:=s.heap.push { cls:=.type "range",data:=.fields #[.int a t,.int c u,.int 1 v]},toks:=tk}:=by
 refine wpAny_pyIter_range (IsRange.new ..) (small_one k h f g) ?_;have d:Inv X pins σ H { s with heap:=s.heap.push { cls:=.type "range",data:=.fields #[.int a t,.int c u,.int 1 v]},toks:=tk}:=I.kept λb o e=>b_ _ e;refine⟨(s.heap.push { cls:=.type "range",data:=.fields #[.int a t,.int c u,.int 1 v]}).objs.size,[(s.heap.push { cls:=.type "range",data:=.fields #[.int a t,.int c u,.int 1 v]}).objs.size],_,_,H,rfl,
  d.kept (t':=tk) λb o e=>b_ _ e,xF _ a (c - a).toNat,?_,λb j=>?_,q⟩
 .have l:a+((0:Nat):Int)*1=a:=Ap
  have i:(((c - a).toNat:Nat):Int) - ((0:Nat):Int)=Builtin.Range.rangeSize a c 1:=by rw[rangeSize_one];split <;> omega
  show IsRangeIter _ _ (a+((0:Nat):Int)*1) ((((c - a).toNat:Nat):Int) - ((0:Nat):Int)) 1;rw[l,i];exact l_ _ rfl
 have e:b=(s.heap.push { cls:=.type "range",data:=.fields #[.int a t,.int c u,.int 1 v]}).objs.size:=by simpa using j
 subst e;exact d.fpOk (o_ _) (d.hok.fresh (o_ _))
def W0 (a:TA):TI:=λσ H R=>a σ H λvs b=>∃j:Int,vs=[.int j] /\ -(2^62)<=j/\j<2^62/\R (PZ 0 j.toNat) b
def W3 (a:TA):TI:=λσ H R=>a σ H λvs b=>∃i j:Int,vs=[.int i,.int j]/\(-(2^62)<=i/\i<2^62 /\ -(2^62)<=j/\j<2^62)/\R (PZ i (j - i).toNat) b
theorem Cm (f:Gl X "range") (l:X.mg "range"=af) (n:PA X [a] d) (g:aE [a] X.env=[(ai,bt a X.env)]:=by rfl):PI X tg (.Call (.Name "range" p) [a] [] b) (W0 d):=by
 intro pins s σ H R I h;refine Call_ (gY I f l boot_range (MI (AE (n b pins s σ H _ I h) λus v ⟨vs,u,i,o,c⟩=>?_) g rfl));obtain⟨j,e,c,k,q⟩:=c;subst e;cases o with
 |cons r m =>
 cases m;obtain⟨t,rfl⟩:=r;exact call_range_1 (uw i zo zo c k (by simpa using q))
theorem Cp {p c:gE} (m:Gl X "range") (x:X.mg "range"=af) (y:PA X [a,b] k) (u:aE [a,b] X.env=[(ai,bt a X.env),(ai,bt b X.env)]:=by rfl) (d:aE [b] X.env=[(ai,bt b X.env)]:=by rfl):
  PI X tg (.Call (.Name "range" p) [a,b] [] c) (W3 k):=by
 intro pins s σ H R I h;refine Call_ (gY I m x boot_range (MI (AE (y c pins s σ H _ I h) λus B ⟨vs,A,v,z,f⟩=>?_) (by rw[u,d]) (by rw[d];rfl)));obtain⟨i,j,e,⟨f,w,l,n⟩,q⟩:=f;subst e;cases z with
 |cons r g =>
 cases g with
 |cons o g =>
 cases g;obtain⟨t,rfl⟩:=r;obtain⟨t',rfl⟩:=o;exact call_range_2 (uw v f w l n q)
def W! (c:TI) (g:TG) (e:TS):TS:=λD σ H=>c σ H λJ d=>∃W:Nat->Nat->St->Hp->Prop,(∃m,W 0 m σ d)/\∀i m σ H,W i m σ H ->
 (J.stop i H/\D.nx σ H)\/(J.go i H/\∃N:St->Hp->Prop,(∀σ' H',N σ' H'->∃b,b<m/\W (i+1) b σ' H')/\∀x H',J.yld i H x H'->g x σ H' λa f=>e { D with nx:=N,ct:=N,bk:=D.nx} a f)
noncomputable def m9 (a : ξ ae) (h : cn) : ξ (ae × dP):=a.filterMap λb => (h.get? b).map λo => (b,o)
theorem iz (c : b ∈ a) (e : h.get? b = ab o): (b,o) ∈ m9 a h:=List.mem_filterMap.mpr ⟨b,c,by rw [e]; rfl⟩
theorem Cq (c:p∈m9 a h):p.1∈a/\h.get? p.1=ab p.2:=by
 obtain ⟨b,d,e⟩:=List.mem_filterMap.mp c;cases q : h.get? b with
 |none=>rw[q] at e;cases e
 |some o =>
 rw[q] at e;have f:(b,o)=p:=O_ e;subst f;exact⟨d,q⟩
theorem Inv.pinned {σ:St} (I:Inv X pins σ H s) (g:∀b∈a,m7 X pins H b) (h:∀b∈a,∃o,s.heap.get? b=ab o/\∀v,o.data≠.cell v):Inv X (pins++m9 a s.heap) σ H s :=
 I.pins_of λp l=>(x_.mp l).elim (λz=>I.pin p (J_ _ z)) λz=>by
  obtain⟨c,e⟩:=Cq z;obtain⟨i,k,j,_⟩:=g p.1 c;obtain⟨o,f,d⟩:=h p.1 c;rw[e] at f;cases f;exact⟨e,i,k,j,d⟩
theorem Inv.unpinned {σ:St} (I:Inv X (pins++pl) σ H s):Inv X pins σ H s:=I.pins_of λp a=>I.pin p (J_ _ (FU _ a))
theorem Sv {V:gE} (E:r0 (aI X.prog X.w) X.A X.env X.xe) (hc:X.calm=ag) (hi:PI X tg j wi) (hg:PG X tg g) (p:Da X z tb) (hs:∀x,dS j X.env x=ce x:=by intro _;rfl):PS X (.For tg j z [] V) (W! wi g tb):=by
 intro pins s σ H D I h;refine wpAny_For (AE (hi pins s σ H _ I h) λv s1 h1=>AE h1 λitv s2 h2=>?_) hs;obtain⟨it,F,Z,J,H2,e,I2,T,S,f2,W,⟨m0,w0⟩,M⟩:=h2;subst e
 have q:∀{H':Hp},(∀b∈F,H' b=af)->∀b∈F,m7 X pins H' b:=λhn b p=>⟨hn b p,(f2 b p).2⟩;refine codeAny_forLoop_any (λn s'=>∃i σ' H',Inv X pins σ' H' s'/\Z i s'.heap/\(∀b∈F,H' b=af)/\W i n σ' H') ?_ m0 ⟨0,σ,H2,I2,S,λb p=>(f2 b p).1,w0⟩;rintro n s3 ⟨i,l,H3,I3,L,C,w3⟩;rcases M i n l H3 w3 with ⟨G,qn⟩ | ⟨go,N,hN,O⟩
 .refine L8 E (AE (T.done X rfl rfl rfl hc i pins s3 l H3 X.xe I3 (q C) L G) λr s4 ⟨P,I4⟩=>?_);subst P;exact fF ⟨l,H3,I4,qn⟩
 refine L8 E (AE (T.item X rfl rfl rfl hc i pins s3 l H3 X.xe I3 (q C) L go) λr s4 ⟨u,P,h4⟩=>?_);subst P;refine L8 E (AE h4 λ_ s5 ⟨x,H5,I5,r5,y5,B,U⟩=>?_);have R:=I5.pinned (q U) (T.obj _ _ B);refine L8 E (AE (hg _ s5 l H5 x u _ R r5 (O x H5 y5)) λ_ s6 ⟨Q,H6,I6,q6⟩=>?_);refine L8 E (AE (p _ s6 Q H6 _ I6 q6) λf Y y=>?_);have c:∀{a:St} {k:Hp},Inv X (pins++m9 F s5.heap) a k Y->N a k->∃m,m<n/\∃i σ' H',Inv X pins σ' H' Y/\Z i Y.heap/\(∀b∈F,H' b=af)/\W i m σ' H':=λ{a k} t K=>by obtain⟨m',hm,w7⟩:=hN a k K;refine⟨m',hm,i+1,a,k,t.unpinned,T.keep _ _ _ B λb p o e=>(t.pin (b,o) (J_ _ (J_ _ (iz p e)))).1,λb p=>?_,w7⟩;obtain⟨o,e,d⟩:=T.obj _ _ B b p;exact (t.pin (b,o) (J_ _ (J_ _ (iz p e)))).2.1
 cases f with
 |next=>obtain⟨a,k,t,K⟩:=y;exact c t K
 |cont=>obtain⟨a,k,t,K⟩:=y;exact c t K
 |brk=>obtain⟨a,k,t,y⟩:=y;exact⟨a,k,t.unpinned,y⟩
 |ret v=>obtain⟨x7,a,k,t,r7,y⟩:=y;exact⟨x7,a,k,t.unpinned,r7,y⟩
end
abbrev R2:=V->V->Hp->VK->Prop
def AX (X:Cx) (f:av->av->Sem av) (r:R2):Prop :=
 ∀(pins:ξ (ae × dP)) (s:aT) (σ:St) (H:Hp) (x y:V) (v u:av) (Q:VK),Inv X pins σ H s->z4 x v->z4 y u->r x y H Q ->
  ax (aI X.prog X.w) X.A (f v u) (EP X pins σ Q) X.xe s
def UR (X:Cx) (f:av->Sem av) (r:V->Hp->VK->Prop):Prop :=
 ∀(pins:ξ (ae × dP)) (s:aT) (σ:St) (H:Hp) (x:V) (v:av) (Q:VK),Inv X pins σ H s->z4 x v->r x H Q ->
  ax (aI X.prog X.w) X.A (f v) (EP X pins σ Q) X.xe s
def DC (X:Cx) (f:av) (r:ξ V->Hp->VK->Prop):Prop :=
 ∀(pins:ξ (ae × dP)) (s:aT) (σ:St) (H:Hp) (xs:ξ V) (us:ξ av) (Q:VK),Inv X pins σ H s->zS xs us->r xs H Q ->
  ax (aI X.prog X.w) X.A (fT f us) (EP X pins σ Q) X.xe s
def OL (r:R2) (a c:TE):TE:=λσ H Q=>a σ H λx b=>c σ b λy d=>r x y d Q
def X' (r:V->Hp->VK->Prop) (a:TE):TE:=λσ H Q=>a σ H λx b=>r x b Q
def rI (C:Int->Int->Prop) (g:Int->Int->V):R2:=λx y H Q=>∃i j,x=.int i/\y=.int j/\C i j/\Q (g i j) H
def GE (g:Int->Int->V):R2:=λx y H Q=>∃i j,x=.int i/\y=.int j/\Q (g i j) H
def rU (g:Int->V):V->Hp->VK->Prop:=λx H Q=>∃i,x=.int i/\Q (g i) H
section
variable {X:Cx}{a b c:Expr}
theorem Sw (r:PE X a ta) (o:PE X b tb) {σ:St}{R:V->V->Hp->Prop} (I:Inv X pins σ H s) (h:ta σ H λx i=>tb σ i λy c=>R x y c) {f:av->av->Sem av} (j:∀v u g x y c,Inv X pins σ c g->z4 x v->z4 y u->R x y c->ax (aI X.prog X.w) X.A (f v u) Q X.xe g):
  ax (aI X.prog X.w) X.A (bt a X.env) (λv d=>ax (aI X.prog X.w) X.A (bt b X.env) (λu e=>ax (aI X.prog X.w) X.A (f v u) Q X.xe e) X.xe d) X.xe s:=by
 refine AE (r pins s σ H _ I h) λv p ⟨x,i,m,t,q⟩=>?_;refine AE (o pins p σ i _ m q) λu g ⟨y,c,k,l,n⟩=>?_;exact j v u g x y c k t l n
theorem W4 (c:AX X (ca op) r) (j:PE X a ta) (f:PE X b tb):PE X (.BinOp a op b u?) (OL r ta tb):=by intro pins s σ H Q I h;exact wpAny_BinOp (Sw j f I h λv u e x y k d i g q=>c pins e σ k x y v u Q d i g q)
theorem W5 (b:UR X (unaryOp op) r) (g:PE X a ta):PE X (.UnaryOp op a u?) (X' r ta):=by intro pins s σ H Q I h;exact UnaryOp_ (AE (g pins s σ H _ I h) λv d ⟨x,c,e,i,f⟩=>b pins d σ c x v Q e i f)
theorem Ps {g:Int->Int->Int} (a:∀(i j:Int) (t u:ze) (s:aT) (Q:av->aT->Prop) (E:av->aT->Prop),C i j->Q (.int (g i j) s.toks) { s with toks:=s.toks+1}->ax (aI X.prog X.w) X.A (f (.int i t) (.int j u)) Q E s):
  AX X f (rI C λi j=>.int (g i j)):=by
 intro pins s σ H x y v u Q I b c h;obtain⟨i,j,rfl,rfl,d,q⟩:=h;obtain⟨t,rfl⟩:=b;obtain⟨t',rfl⟩:=c;exact a i j t t' s _ _ d ⟨.int (g i j),H,I.tok _,⟨_,rfl⟩,q⟩
theorem Km {g:Int->Int->Int} (a:∀(i j:Int) (t u:ze) (s:aT) (Q:av->aT->Prop) (E:av->aT->Prop),Q (.int (g i j) s.toks) { s with toks:=s.toks+1}->ax (aI X.prog X.w) X.A (f (.int i t) (.int j u)) Q E s):
  AX X f (GE λi j=>.int (g i j)):=by
 intro pins s σ H x y v u Q I b c h;obtain⟨i,j,rfl,rfl,q⟩:=h;obtain⟨t,rfl⟩:=b;obtain⟨t',rfl⟩:=c;exact a i j t t' s _ _ ⟨.int (g i j),H,I.tok _,⟨_,rfl⟩,q⟩
theorem Ko {g:Int->Int->Bool} (a:∀(i j:Int) (t u:ze) (s:aT) (Q:av->aT->Prop) (E:av->aT->Prop),Q (.bool (g i j)) s->ax (aI X.prog X.w) X.A (f (.int i t) (.int j u)) Q E s):
  AX X f (GE λi j=>.bl (g i j)):=by
 intro pins s σ H x y v u Q I b c h;obtain⟨i,j,rfl,rfl,q⟩:=h;obtain⟨t,rfl⟩:=b;obtain⟨t',rfl⟩:=c;exact a i j t t' s _ _ ⟨.bl (g i j),H,I,rfl,q⟩
def Kp (i j:Int):Prop:=0<=j/\j<=1000000/\i.natAbs<2^64
def IX (i j:Int):Prop:=(-(2^64)<i/\i<2^64)\/(-(2^64)<j/\j<2^64)
theorem IX.ok (h:IX i j):IntMulOk i j:=by
 rcases h with ⟨a,b⟩ | ⟨a,b⟩
 .exact .of_left (xt a b)
 exact .of_right (xt a b)
theorem e?:AX X (ca .Add) (GE λi j=>.int (i+j)):=Km λ_ _ _ _ _ _ _ q=>add_int q
theorem Sx:AX X (ca .Sub) (GE λi j=>.int (i - j)):=Km λ_ _ _ _ _ _ _ q=>sub_int q
theorem Sy:AX X (ca .Mult) (rI IX λi j=>.int (i*j)):=Ps λ_ _ _ _ _ _ _ a q=>mul_int q a.ok
theorem SJ:AX X (ca .Mod) (rI (λ_ j=>0<j) λi j=>.int (i%j)):=Ps λi j _ _ _ _ _ a q=>by
 have b:(0:Int)<j:=a;exact mod_int' zo (by rw[Int.fmod_eq_emod_of_nonneg i zo];exact q)
theorem SM:AX X (ca .Pow) (rI Kp λi j=>.int (i^j.toNat)):=Ps λ_ _ _ _ _ _ _ a q=>pow_int_small a.1 a.2.1 a.2.2 q
theorem SN:AX X (ca .LShift) (rI Kp λi j=>.int (i*2^j.toNat)):=Ps λ_ _ _ _ _ _ _ a q=>lshift_int_small a.1 a.2.1 a.2.2 q
theorem SQ:AX X (ca .BitAnd) (GE λi j=>.int (a8 i j)):=Km λ_ _ _ _ _ _ _ q=>and_int q
theorem W6:AX X (ca .BitOr) (GE λi j=>.int (cE i j)):=Km λ_ _ _ _ _ _ _ q=>or_int q
theorem YY {g:Int->Int} (a:∀(i:Int) (t:ze) (s:aT) (Q:av->aT->Prop) (E:av->aT->Prop),Q (.int (g i) s.toks) { s with toks:=s.toks+1}->ax (aI X.prog X.w) X.A (f (.int i t)) Q E s):
  UR X f (rU λi=>.int (g i)):=by
 intro pins s σ H x v Q I b h;obtain⟨i,rfl,q⟩:=h;obtain⟨t,rfl⟩:=b;exact a i t s _ _ ⟨.int (g i),H,I.tok _,⟨_,rfl⟩,q⟩
theorem SX:UR X (unaryOp .USub) (rU λi=>.int (-i)):=YY λ_ _ _ _ _ q=>neg_int q
end
noncomputable def ni:V->V->Bool
 |.non,.non=>ag | .non,.int _=>ag | .int _,.non=>ag | .non,.bl _=>ag | .bl _,.non=>ag | .non,.str _=>ag | .str _,.non=>ag
 |.int _,.int _=>ag | .bl _,.bl _=>ag | .str _,.str _=>ag | .byt _,.byt _=>ag
 |.int _,.str _=>ag | .str _,.int _=>ag | .bl _,.str _=>ag | .str _,.bl _=>ag
 |_,_=>ai
section
variable {X:Cx}{a b c:Expr}
theorem nj {σ:St}{k a:Bool} (I:Inv X pins σ H s) (q:Q (.bl k) H) (e:k=a):EP X pins σ Q (.bool a) s:=by subst e;exact⟨.bl k,H,I,rfl,q⟩
theorem W7:AX X (ba .Lt) (GE λi j=>.bl (decide (i<j))):=Ko λ_ _ _ _ _ _ _ q=>lt_int q
theorem W8:AX X (ba .LtE) (GE λi j=>.bl (decide (i<=j))):=Ko λ_ _ _ _ _ _ _ q=>le_int q
theorem W9:AX X (ba .Gt) (GE λi j=>.bl (decide (j<i))):=Ko λ_ _ _ _ _ _ _ q=>gt_int q
theorem Xa:AX X (ba .GtE) (GE λi j=>.bl (decide (j<=i))):=Ko λ_ _ _ _ _ _ _ q=>ge_int q
theorem Cr:AX X (ba .In) (λx y H Q=>∃i j,x=.str i/\y=.str j/\Q (.bl (!(bE j i 0 j.length 1).isEmpty)) H):=by intro pins s σ H x y v u Q I b a h;obtain⟨i,j,rfl,rfl,q⟩:=h;obtain⟨t,rfl⟩:=b;obtain⟨t',rfl⟩:=a;exact in_str (nj I q rfl)
theorem S5:AX X (ba .Is) (λx y H Q=>y=.non/\Q (.bl (decide (x=.non))) H):=by
 intro pins s σ H x y v u Q I a b h;obtain⟨rfl,q⟩:=h;cases b;refine is_none_gen (nj I q ?_);cases x <;> first
  | (cases a;rfl)
  | (obtain⟨t,rfl⟩:=a;rfl)
theorem Kq:AX X (ba .IsNot) (λx y H Q=>y=.non/\Q (.bl (!decide (x=.non))) H):=by
 intro pins s σ H x y v u Q I a b h;obtain⟨rfl,q⟩:=h;cases b;refine isnot_none_gen (nj I q ?_);cases x <;> first
  | (cases a;rfl)
  | (obtain⟨t,rfl⟩:=a;rfl)
theorem rD:AX X (ba .NotIn) (λx y H Q=>∃i j,x=.str i/\y=.str j/\Q (.bl (!(!(bE j i 0 j.length 1).isEmpty))) H):=by intro pins s σ H x y v u Q I b a h;obtain⟨i,j,rfl,rfl,q⟩:=h;obtain⟨t,rfl⟩:=b;obtain⟨t',rfl⟩:=a;exact notIn_str (nj I q rfl)
theorem AX.or {r c:R2} (h:AX X f r) (h':AX X f c):AX X f (λx y H Q=>r x y H Q\/c x y H Q):=by
 intro pins s σ H x y v u Q I b a q;rcases q with q | q
 .exact h pins s σ H x y v u Q I b a q
 exact h' pins s σ H x y v u Q I b a q
theorem Eo (b:Expr) (h:op≠.In:=by decide) (a:op≠.NotIn:=by decide):bP op b=ai:=by
 have c:(op==CmpOp.In)=ai:=by cases op <;> first | rfl | exact AL rfl h
 have d:(op==CmpOp.NotIn)=ai:=by cases op <;> first | rfl | exact AL rfl a
 cases b <;> simp [bP,c,d]
theorem Kr (c:AX X (ba op) r) (k:PE X a ta) (f:PE X b tb) (g:bP op b=ai):PE X (.Compare a [op] [b] u?) (OL r ta tb):=by intro pins s σ H Q I h;exact tP (Sw k f I h λv u e x y l d j i q=>c pins e σ l x y v u Q d j i q) g
def Pq (t:TE):TT:=λσ H Q=>t σ H λx H'=>∃k,x=.bl k/\Q k H'
theorem Ks (g:AX X (ba op) r) (B:PE X a ta) (q:PE X b tb) (w:bP op b=ai):PT X (.Compare a [op] [b] u?) (Pq (OL r ta tb)):=by
 intro pins s σ H Q I h;refine lp (AE (B pins s σ H _ I h) λv t ⟨x,l,o,D,d⟩=>AE (q pins t σ l _ o d) λu n ⟨y,C,i,m,p⟩ =>
  AE (g pins n σ C x y v u _ i D m p) λc E ⟨z,H3,j,A,k,e,f⟩=>?_) w
 subst e;cases A;exact GO ⟨H3,j,f⟩
def Ep (r c:R2) (g f a:TE):TE:=λσ H Q=>g σ H λx e=>f σ e λy h=>r x y h λz H3=>∃k,z=.bl k /\
 (if k=ag then a σ H3 λb d=>c y b d Q else Q (.bl ai) H3)
theorem Er (C:AX X (ba op) r) (g:AX X (ba f) j) (A:PE X a ta) (E:PE X b tb) (U:PE X c tc) (hm:lastMarks [op,f] [b,c]=ai:=by with_unfolding_all rfl):PT X (.Compare a [op,f] [b,c] u?) (Pq (Ep r j ta tb tc)):=by
 intro pins s σ H Q I h;refine isTrue_chain (AE (A pins s σ H _ I h) λv F ⟨x,P,S,V,w⟩=>test_link (AE (E pins F σ P _ S w) λu R ⟨y,B,O,m,t⟩ =>
  AE (C pins R σ B x y v u _ O V m t) λd Z ⟨z,H3,l,K,k,e,i⟩=>?_)) hm
 subst e;cases K;refine GO ?_;cases k with
 |false=>obtain⟨k',J,q'⟩:=i;cases J;exact ite_ff ⟨H3,l,q'⟩
 |true =>
 refine ite_tt (test_last (AE (U pins Z σ H3 _ l i) λn D ⟨T,Y,W,N,o⟩=>AE (g pins D σ Y y T u n _ W m N o) λd' s5 ⟨z2,M,q,G,k2,p,L⟩=>?_));subst p;cases G;exact GO ⟨M,q,L⟩
theorem kO:(am:Nat)<2^63:=by rw[E8];decide
theorem n!:AX X (ca .Add) (λx y H Q=>∃i j,x=.str i/\y=.str j/\i.length+j.length<=am/\Q (.str (i++j)) H):=by intro pins s σ H x y v u Q I b a h;obtain⟨i,j,rfl,rfl,c,q⟩:=h;obtain⟨t,rfl⟩:=b;obtain⟨t',rfl⟩:=a;exact add_str (λt' tk=>⟨.str (i++j),H,I.tok _,⟨_,rfl⟩,q⟩) c
theorem AU (r:zS [x] us):∃u,us=[u]/\z4 x u:=by
 cases r with
 |cons b a=>cases a;exact⟨_,rfl,b⟩
theorem G0 (r:zS [x,y] us):∃u a,us=[u,a]/\z4 x u/\z4 y a:=by
 cases r with
 |cons e b =>
 cases b with
 |cons c d=>cases d;exact⟨_,_,rfl,e,c⟩
theorem Cu:DC X (.type "int") (λxs H Q=>(∃i,xs=[.int i]/\Q (.int i) H)\/∃k,xs=[.bl k]/\Q (.int (if k then 1 else 0)) H):=by
 intro pins s σ H xs us Q I r h;rcases h with ⟨i,rfl,q⟩ | ⟨k,rfl,q⟩
 .obtain⟨u,rfl,t,rfl⟩:=AU r;exact call_int_int ⟨.int i,H,I,⟨_,rfl⟩,q⟩
 obtain⟨u,rfl,a⟩:=AU r;cases a;exact call_int_bool ⟨.int (if k then 1 else 0),H,I.tok _,⟨_,rfl⟩,q⟩
end
structure MV (h:cn) (x dx C:ae) (mA:aw->Option av):Prop where
 obj:h.get? x=ab (i7 C dx)
 ns:h.Ns1 dx mA
 ne:dx≠x
theorem Cv {h:cn} (n:h.Ns1 g d):∃c,h.get? g=ab c/\∀name,yk name c=ab (d name):=by
 obtain⟨o,f,ep,i,p,j,_,m⟩:=n;refine⟨o,i,λname=>?_⟩;have e:=m name;unfold nsFind findBy at e;rw[<- Array.find?_toList] at e;unfold yk;rw[p];dsimp only;split
 .rename_i y q;rw[q] at e;exact U_ ab e
 rename_i q;rw[q] at e;have a:f.toList.any (·.refKey)=ai:=by rw[qr];intro y k;obtain⟨z,t,b⟩:=j y (Array.mem_toList_iff.mp k);simp [DictEntry.refKey,b]
 have l:¬f.toList.any (·.refKey)=ag:=by rw[a];exact M_
 rw[zD l];exact U_ ab e
theorem MV.look (I:MV h x b C c):∃a,InstAt h x (i7 C b) C (ab a)/\∀name,yk name a=ab (c name) :=
 let ⟨a,ho,hl⟩:=Cv I.ns
 ⟨a,⟨I.obj,rfl,rfl,ho⟩,hl⟩
section
variable {s:aT}{K:a5}
theorem Ku (X:K.In s.heap) (I:MV s.heap x dx C mA) (c:pu K C name=ag) (e:rq K C=ag) (g:hY K (.ref C) name=ab af) (d:mA name=ab v) (b:yY v=ag) (h:Q v { s with toks:=s.toks+1}):
  ax (aI prog w) A (getAttr (.ref x) name a) Q E s:=by
 obtain⟨i,J,f⟩:=I.look;exact PySem.W.get_value X J (l6 c).1 (PySem.W.findObj_own e g rfl (by rw[f,d])) b h
theorem Es (X:K.In s.heap) (I:MV s.heap x dx C mA) (a:pu K C name=ag) (c:hY K (.ref C) name=ab (ab (.ref f))) (d:isFn K (.ref f)=ag) (e:mA name=af) (h:Q (.ref f,[.ref x]) s):
  ax (aI prog w) A (rL (.ref x) name pl) Q E s:=by
 obtain⟨b,J,g⟩:=I.look;exact PySem.W.method_fn X J (l6 a).1 (l6 a).2 c (E1.mp d) (by show (yk name b).map (·.isSome)=ab ai;rw[g,e];rfl) h
theorem Kv (X:K.In s.heap) (I:MV s.heap x dx C mA) (n:hY K (.ref C) "__setattr__"=ab (ab (.builtin "object.__setattr__"))) (p:xC K C=ag) (j:xL K C name=ab af) (l:rq K C=ag) (m:kM mA ns) (hsz:ns.length<=am) (h:∀h',MV h' x dx C (λy=>if y=name then ab v else mA y)->db dx s.heap h'->Q () { s with heap:=h',toks:=s.toks+2}):
  ax (aI prog w) A (setAttr (.ref x) name v) Q E s:=by
 obtain⟨u,J,B⟩:=I.look;refine PySem.W.set_plain X J n (PySem.W.osa_open (s:={ s with toks:=s.toks+1}) (r:=af) X J p j λb=>?_);obtain⟨z,q,e⟩:=PySem.W.any_some l;have o:s.heap.get? x=ab ⟨.ref C,ab dx,.plain,#[]⟩:=I.obj;refine a_ (i_ (a_ (a_ (wpAny_loadPart o (a_ (PySem.W.Looks.here (s:={ s with toks:=s.toks+1}) (PySem.W.looks_clsIn X q) ?_))))));rw[e];refine i_ (a:=ab dx) (a_ (i_ (a_ ?_)));refine wpAny_nsSet1 (s:={ s with toks:=s.toks+1}) I.ns λh' c d=>?_;obtain⟨oD,k,t,f,g,i⟩:=c.count (PySem.Within.cons name v m);refine a_ (wpAny_lookBehind f (by rw[g];exact pastItsLine_dict (S_ i (by rw[n_];omega))) ?_);exact i_ (h _ ⟨(d.2 _ (a6 I.ne)).trans I.obj,c,I.ne⟩ d)
theorem Et (X:K.In s.heap) (i:makesIn K C=ag) (c:hY K (.ref C) "__init__"=ab (ab (.ref f))) (e:typeIn K (.ref f)=ab (.type "function")) (h:eJ (aI prog w) (A.under (.builtin "type.__call__" ⟨.ref C::vs,b⟩)) (.call (.ref f) ⟨.ref (s.heap.objs.size+1)::vs,b⟩) (PySem.W.InitBack (s.heap.objs.size+1) R)
   { s with heap:=(s.heap.push eu).push (i7 C s.heap.objs.size)}):
  eJ (aI prog w) A (.call (.ref C) ⟨vs,b⟩) R s:=by
 obtain⟨j,g,d,t,os⟩:=s;exact PySem.W.make_core (PySem.W.makes_of X i) (PySem.W.looks_findIn X c) (λa=>PySem.W.bind_fn X a e) (.inl rfl) h
end
noncomputable def iB (f:aw) (v:V):ξ (aw × V)->ξ (aw × V)
 |[]=>[(f,v)]
 | (g,x)::r=>if g=f then (g,v)::r else (g,x)::iB f v r
theorem lJ (f g:aw) (v:V):∀c:ξ (aw × V),(iB f v c).lookup g=if g=f then ab v else c.lookup g
 |[]=>by
  show d3 g [(f,v)]=_
  by_cases h:g=f
  ·
   have a:(g==f)=ag:=E1.mpr h
   simp only[d3,a,z3 h]
  ·
   have a:(g==f)=ai:=EB.mpr h
   simp only[d3,a,zD h]
 | (k,x)::r=>by
  have d:=lJ f g v r
  rw[show iB f v ((k,x)::r)=(if k=f then (k,v)::r else (k,x)::iB f v r) from rfl]
  by_cases b:k=f
  ·
   rw[z3 b]
   by_cases h:g=k
   ·
    have a:(g==k)=ag:=E1.mpr h
    simp only[d3,a,z3 (h.trans b)]
   ·
    have a:(g==k)=ai:=EB.mpr h
    simp only[d3,a,zD (λe:g=f=>h (e.trans b.symm))]
  ·
   rw[zD b]
   by_cases h:g=k
   ·
    have a:(g==k)=ag:=E1.mpr h
    simp only[d3,a,zD (λe:g=f=>b (h.symm.trans e))]
   ·
    have a:(g==k)=ai:=EB.mpr h
    simp only[d3,a]
    exact d
theorem kW (f:aw) (v:V):∀a:ξ (aw × V),f∈(iB f v a).map (·.1)/\∀g,g∈a.map (·.1)->g∈(iB f v a).map (·.1)
 |[]=>⟨by simp [iB],λg h=>by simp at h⟩
 | (k,x)::r=>by
  obtain⟨c,d⟩:=kW f v r
  rw[show iB f v ((k,x)::r)=(if k=f then (k,v)::r else (k,x)::iB f v r) from rfl]
  by_cases b:k=f
  ·
   rw[z3 b]
   subst b
   exact⟨Ap,λg h=>by simpa using h⟩
  ·
   rw[zD b]
   refine⟨?_,λg h=>?_⟩
   ·
    rw[I_]
    exact E_ _ c
   ·
    rw[I_] at h |-
    rcases v_.mp h with e | e
    ·
     exact v_.mpr (.inl e)
    ·
     exact E_ _ (d g e)
theorem lK (f:aw) (v:V):∀a:ξ (aw × V),(iB f v a).length<=a.length+1
 |[]=>by simp [iB]
 | (k,x)::r=>by
  have c:=lK f v r
  rw[show iB f v ((k,x)::r)=(if k=f then (k,v)::r else (k,x)::iB f v r) from rfl]
  by_cases b:k=f
  ·
   rw[z3 b,n_,n_];omega
  ·
   rw[zD b,n_,n_];omega
theorem DD.some_of (r:DD (ab v) o):∃u,o=ab u/\z4 v u:=by
 cases o with
 |none=>exact (show False from r).elim
 |some u=>exact⟨u,rfl,r⟩
theorem DD.none_of (r:DD af o):o=af:=by
 cases o with
 |none=>rfl
 |some u=>exact (show False from r).elim
theorem Cw (r:z4 v u):yY u=ag:=by
 cases v with
 |non=>cases (show u=bp from r);rfl
 |bl b=>cases (show u=dA b from r);rfl
 |int i=>obtain⟨t,e⟩:=(show ∃t,u=c9 i t from r);cases e;rfl
 |str x=>obtain⟨t,e⟩:=(show ∃t,u=nr x t from r);cases e;rfl
 |byt b=>obtain⟨t,e⟩:=(show ∃t,u=Value.bytes b t from r);cases e;rfl
 |flt b=>obtain⟨t,e⟩:=(show ∃t,u=sm b t from r);cases e;rfl
 |ref a=>cases (show u=aS a from r);rfl
 |ty n=>cases (show u=eM n from r);rfl
section
variable {P:bb}{w:bg}
theorem mH (c:A8 P w H h) (e:H a=ab (.ins C dx fs)):∃b,MV h a dx C b/\(∀f,DD (fs.lookup f) (b f))/\kM b (fs.map (·.1))/\fs.length<=1000/\H dx=ab (.own a):=by obtain⟨d,z,g,i,b,n,r,q⟩:=(show W2 P w H h a (.ins C dx fs) from c a _ e);exact⟨b,⟨i,n,g⟩,r,q,z,d⟩
end
structure FY (K:a5) (C:ae):Prop where
 pg:pu K C Str.empty=ag
 hd:rq K C=ag
 po:xC K C=ag
 sa:hY K (.ref C) "__setattr__"=ab (ab (.builtin "object.__setattr__"))
theorem FY.get {K:a5} (c:FY K C) (f:aw):pu K C f=ag:=c.pg
def ML (K:a5) (C:ae) (f:aw):Prop:=hY K (.ref C) f=ab af
theorem ML.taker {K:a5} (n:ML K C f):xL K C f=ab af:=by unfold xL;rw[show hY K (.ref C) f=ab af from n];rfl
structure Ki (K:a5) (C:ae) (m:aw) (f:ae):Prop where
 at_:hY K (.ref C) m=ab (ab (.ref f))
 fn:isFn K (.ref f)=ag
 kp:kD K (.ref f)=ag
section
variable {X:Cx}{pins:ξ (ae × dP)}{σ:St}
theorem xG (I:Inv X pins σ H s) (e:H a=ab (.ins C dx fs)) (c:FY X.K C) (n:ML X.K C f) (l:fs.lookup f=ab v) (h:∀u s',Inv X pins σ H s'->z4 v u->Q u s'):ax (aI X.prog X.w) A (getAttr (.ref a) f b) Q E s:=by obtain⟨i,O,r,_,_,_⟩:=mH I.hok e;obtain⟨u,g,d⟩:=DD.some_of (v:=v) (o:=i f) (by rw[<- l];exact r f);exact Ku I.kIn O (c.get f) c.hd n g (Cw d) (h u _ (I.tok _) d)
theorem xH (I:Inv X pins σ H s) (e:H a=ab (.ins C dx fs)) (c:FY X.K C) (k:Ki X.K C m g) (l:fs.lookup m=af) (h:Q (.ref g,[.ref a]) s):ax (aI X.prog X.w) A (rL (.ref a) m pl) Q E s:=by obtain⟨d,O,r,_,_,_⟩:=mH I.hok e;have b:d m=af:=DD.none_of (by rw[<- l];exact r m);exact Es I.kIn O (c.get m) k.at_ k.fn b h
theorem xJ (I:Inv X pins σ H s) (e:H a=ab (.ins C dx fs)) (c:FY X.K C) (n:ML X.K C f) (B:fs.length<1000) (v:z4 y u) (h:∀s',Inv X pins σ (As H a (.ins C dx (iB f y fs))) s'->Q () s'):ax (aI X.prog X.w) A (setAttr (.ref a) f u) Q E s:=by
 obtain⟨i,O,r,j,_,d⟩:=mH I.hok e;have m:(fs.map (·.1)).length<=am:=by rw[g_,E8];omega
 refine Kv I.kIn O c.sa c.po n.taker c.hd j m λh' O' t=>h _ ?_;have k:∃o,h'.get? dx=ab o:=let ⟨o,_,_,e',_⟩:=O'.ns;⟨o,e'⟩;refine I.write (x:=a) (e:=dx) (by rw[e];exact cx) (.inr d) (λb q p z=>(t.2 b p).trans z) k ?_;refine⟨by rw[aL O.ne];exact d,?_,O.ne,O'.obj,_,O'.ns,λg=>?_,λg l=>?_⟩
 .have:=lK f y fs;omega
 .show DD ((iB f y fs).lookup g) (if g=f then ab u else i g);rw[lJ];by_cases q:g=f
  .rw[z3 q,z3 q];exact v
  rw[zD q,zD q];exact r g
 by_cases q:g=f
 .rw[q];exact (kW f y fs).1
 refine (kW f y fs).2 g (j g λz=>l ?_);show (if g=f then ab u else i g)=af;rw[zD q];exact z
theorem Inv.made (I:Inv X pins σ H s):Inv X pins σ (As (As H s.heap.objs.size (.own (s.heap.objs.size+1))) (s.heap.objs.size+1) (.ins C s.heap.objs.size []))
  { s with heap:=(s.heap.push eu).push (i7 C s.heap.objs.size)}:=by
 have d:(s.heap.push eu).get? s.heap.objs.size=ab eu:=l_ s.heap rfl;have g:((s.heap.push eu).push (i7 C s.heap.objs.size)).get? (s.heap.objs.size+1)=ab (i7 C s.heap.objs.size):=by
  have:=l_ (s.heap.push eu) (o:=i7 C s.heap.objs.size) rfl
  rwa [JI] at this
 have i:(s.heap.push eu).Ns s.heap.objs.size (λ_=>af):=⟨eu,#[],_,d,rfl,(λe f=>AL f Ap),λ_=>rfl⟩;have j:=I.laid (a:=s.heap.objs.size) (o:=.own (s.heap.objs.size+1)) (h':=s.heap.push eu) (t':=s.toks) (λb u q=>b_ _ q) (o_ _) ⟨_,d⟩;refine j.laid (a:=s.heap.objs.size+1) (o:=.ins C s.heap.objs.size []) (t':=s.toks) (λb u q=>b_ _ q) (gS (JI _ _)) ?_;have c:s.heap.objs.size≠s.heap.objs.size+1:=H_ (HP _);refine⟨by rw[aL c,aZ],B8 _,c,g,λ_=>af,(Heap.Ns1.of_empty i).at λo q=>b_ _ q,λ_=>cx,λy h=>AL rfl h⟩
theorem Kz {a:gE} (b:da e f env (bt e env)=bt e env) (h:ax (aI prog w) A (bt e env) (λo s₁=>ax (aI prog w) A (getAttr o f ag) Q E s₁) E s):ax (aI prog w) A (bt (.Attribute e f a) env) Q E s :=
 Attribute_any_ h (by rw[arm_eval_Attribute,b])
end
def ZA (K:a5) (e:TE) (f:aw):TE:=λσ H Q=>e σ H λx c=>∃a C d b v,x=.ref a/\c a=ab (.ins C d b)/\FY K C/\ML K C f/\b.lookup f=ab v/\Q v c
def P! (K:a5) (g h:TE) (f:aw):TS:=λD σ H=>h σ H λy e=>g σ e λx d=>∃a C c b,x=.ref a/\d a=ab (.ins C c b)/\FY K C/\ML K C f/\b.length<1000 /\
 D.nx σ (As d a (.ins C c (iB f y b)))
section
variable {X:Cx}{o e value:Expr}
theorem S6 (b:PE X e ta) (k:da e f X.env (bt e X.env)=bt e X.env):PE X (.Attribute e f u?) (ZA X.K ta f):=by intro pins s σ H Q I h;refine Kz k (AE (b pins s σ H _ I h) λu z ⟨x,i,j,m,a,C,y,r,v,o,p,c,n,l,q⟩=>?_);subst o;obtain rfl:u=aS a:=m;exact xG j p c n l λt w d g=>⟨v,i,d,g,q⟩
theorem S7 (i:PE X o ta) (b:PE X value tv) (k:eh value (ab (.Attribute o f x?)) u?.line X.env=ce ai):PS X (.Assign [.Attribute o f x?] value u?) (P! X.K ta tv f):=by intro pins s σ H D I h;refine plainObj_wpAny_Assign_Attribute (AE (b pins s σ H _ I h) λu m ⟨y,v,w,e,q⟩=>AE (i pins m σ v _ w q) λp F ⟨x,A,t,r,a,C,B,E,g,z,c,n,l,d⟩=>?_) k;subst g;obtain rfl:p=aS a:=r;exact xJ t z c n l e λG j=>⟨σ,_,j,d⟩
variable {pins:ξ (ae × dP)}{σ:St}
inductive GA (K:a5) (H:Hp):V->av->Prop where
 |non:GA K H .non (.type "NoneType")
 |bl (x:Bool):GA K H (.bl x) (.type "bool")
 |int (i:Int):GA K H (.int i) (.type "int")
 |str (x:aw):GA K H (.str x) (.type "str")
 |flt (x:UInt64):GA K H (.flt x) (.type "float")
 |lst {a:ae} {xs:List V} (e:H a=ab (.lst xs)):GA K H (.ref a) (.type "list")
 |frz {a:ae} {o:dP} {xs:List V} (e:H a=ab (.frz o (.lst xs))):GA K H (.ref a) (.type "list")
 |tup {a:ae} {xs:List V} (e:H a=ab (.tup xs)):GA K H (.ref a) (.type "tuple")
 |dK {a:ae} {kvs:List (AG × V)} (e:H a=ab (.dK kvs)):GA K H (.ref a) (.type "dict")
 |dT {a:ae} {kvs:List (List AG × V)} (e:H a=ab (.dT kvs)):GA K H (.ref a) (.type "dict")
 |ins {a C dx:ae} {fs:List (aw × V)} (e:H a=ab (.ins C dx fs)) (cl:FY K C) (ha:hY K (.ref C) "__class__"=ab (ab (.builtin "object.__class__")))
   (hn:PySem.W.specialIn K (.builtin "object.__class__") "__get__"=ab (ab (.builtin "getset_descriptor.__get__"))) (htk:PySem.W.takesIn K (.builtin "object.__class__")=ab ag)
   (hm:mroIn K C (.type "object")=ab ag):GA K H (.ref a) (.ref C)
theorem gh (I:Inv X pins σ H s) (d:z4 x u) (F:GA X.K H x t) (e:kitOne X.K t c=ab b) (h:∀tk,Q (.bool b) { s with toks:=tk}):
  ax (aI X.prog X.w) A (fT (.builtin "isinstance") [u,c]) Q E s:=by
 cases F with
 |non=>cases (show u=bp from d);exact eI PySem.W.kitx_none I.kIn cx e (λz=>nomatch z) h
 |bl y=>cases (show u=dA y from d);exact eI PySem.W.kitx_bool I.kIn cx e (λz=>nomatch z) h
 |int i=>obtain⟨t,q⟩:=(show ∃t,u=c9 i t from d);cases q;exact eI PySem.W.kitx_int I.kIn cx e (λz=>nomatch z) h
 |str y=>obtain⟨t,q⟩:=(show ∃t,u=nr y t from d);cases q;exact eI PySem.W.kitx_str I.kIn cx e (λz=>nomatch z) h
 |flt y=>obtain⟨t,q⟩:=(show ∃t,u=sm y t from d);cases q;exact eI PySem.W.kitx_float I.kIn cx e (λz=>nomatch z) h
 |@lst a xs f=>cases (show u=aS a from d);obtain⟨_,_,n,_,g⟩:=(show W2 X.prog X.w H s.heap a (.lst xs) from I.hok a _ f);exact eI xD I.kIn ⟨_,g,rfl⟩ e (λz=>nomatch z) h
 |@frz a v xs f=>cases (show u=aS a from d);obtain⟨_,_,_,n,_,g⟩:=(show W2 X.prog X.w H s.heap a (.frz v (.lst xs)) from I.hok a _ f);exact eI xD I.kIn ⟨_,g,rfl⟩ e (λz=>nomatch z) h
 |@tup a xs f=>cases (show u=aS a from d);obtain⟨_,_,_,p⟩:=(show W2 X.prog X.w H s.heap a (.tup xs) from I.hok a _ f);obtain⟨o,g,j,_⟩:=p;exact eI t4 I.kIn ⟨o,g,j⟩ e (λz=>nomatch z) h
 |@dK a kvs f=>cases (show u=aS a from d);obtain⟨_,_,vs,_,p⟩:=(show W2 X.prog X.w H s.heap a (.dK kvs) from I.hok a _ f);obtain⟨o,r,ep,g,j,_⟩:=p;exact eI xE I.kIn ⟨o,g,j.1⟩ e (λz=>nomatch z) h
 |@dT a kvs f=>cases (show u=aS a from d);obtain⟨_,_,xs,_,o,r,ep,g,j,_⟩:=(show W2 X.prog X.w H s.heap a (.dT kvs) from I.hok a _ f);exact eI xE I.kIn ⟨o,g,j.1⟩ e (λz=>nomatch z) h
 |@ins a C N G f l D m k B =>
 cases (show u=aS a from d);obtain⟨M,O,_⟩:=mH I.hok f;obtain⟨L,J,_⟩:=O.look;exact eI (PySem.W.kitx_own (l.get _) l.hd D m k B) I.kIn J e (λz=>nomatch z) h
end
structure xr (k:Nat) (A:dn):Prop where
 hd:A.handled=af
 dp:A.depth+3*k+5<lT
 un:A.units+16*k+200<br
 gd:A.guards=ab []
theorem xr.mono (r:xr k A) (h:j<=k):xr j A:=⟨r.hd,by have:=r.dp;omega,by have:=r.un;omega,r.gd⟩
theorem xr.deeper (r:xr (k+1) A) (env:yA):xr k (A.deeper env) :=
 ⟨r.hd,by have:=r.dp;show A.depth+1+3*k+5<_;omega,by have:=r.un;show A.units+3+16*k+200<_;omega,r.gd⟩
theorem xr.in1 (r:xr (k+1) A):xr k A.in1 :=
 ⟨r.hd,by have:=r.dp;show A.depth+3*k+5<_;omega,by have:=r.un;show A.units+1+16*k+200<_;omega,r.gd⟩
theorem xK {A:dn}:(A.under (.builtin "type.__call__" ⟨.ref C::us,a⟩)).depth=A.depth+1:=by first | rfl | simp [k6,Code.weight,Code.isCreation,Code.isGuard,Code.isCaller,Code.frames,Code.isFrame,guardIds]
theorem xM {A:dn}:(A.under (.builtin "type.__call__" ⟨.ref C::us,a⟩)).units=A.units+1:=by first | rfl | simp [k6,Code.cUnits,Code.frames,Code.isFrame]
theorem xr.make (r:xr (k+1) A) (C:ae) (us:ξ av) (a:ξ (aw × av)):xr k (A.under (.builtin "type.__call__" ⟨.ref C::us,a⟩)) :=
 ⟨r.hd,by have:=r.dp;rw[xK];omega,by have:=r.un;rw[xM];omega,by first | exact r.gd | (simp [k6,Code.guards,Code.isGuard,guardIds,pushGuards,r.gd])⟩
theorem xr.depth (r:xr k A):A.depth<lT:=by have:=r.dp;omega
def j!:TA:=λ_ H Q=>Q [] H
def Xb (a:TE) (d:TA):TA:=λσ H Q=>a σ H λx b=>d σ b λxs c=>Q (x::xs) c
theorem S8:PA X [] j!:=λ_ _ _ _ H Q I h=>OY ⟨[],H,I,.nil,h⟩
theorem KD (m:PE X e te) (g:PA X es t) (f:aE (e::es) X.env=(ai,bt e X.env)::aE es X.env:=by rfl):PA X (e::es) (Xb te t):=by intro a pins s σ H Q I h;rw[f];show ax _ _ (tj ((ai,bt e X.env)::cf a (aE es X.env))) _ _ s;refine NE (AE (m pins s σ H _ I h) λu k ⟨x,c,i,o,l⟩=>?_);exact AE (g a pins k σ c _ i l) λus p ⟨xs,n,b,d,j⟩=>⟨x::xs,n,b,.cons o d,j⟩
def r? (t:TA):TE:=λσ H Q=>t σ H λxs a=>xs.length<=am/\∀p,a p=af->Q (.ref p) (As a p (.tup xs))
def A! (t:TA):TE:=λσ H Q=>t σ H λxs a=>xs.length<=am/\∀p,a p=af->Q (.ref p) (As a p (.lst xs))
theorem S9 (h:PA X es t):PE X (.Tuple es x1 u?) (r? t):=by intro pins s σ H Q I hq;refine wpAny_Tuple_spliced (AE (h u? pins s σ H _ I hq) λus a ⟨xs,d,c,r,z,q⟩=>⟨by rw[<- r.length];exact z,?_⟩);have f:d a.heap.objs.size=af:=c.hok.fresh (o_ _);refine⟨.ref a.heap.objs.size,As d a.heap.objs.size (.tup xs),c.laid (t':=a.toks) (λb u e=>b_ _ e) (o_ _) ?_,rfl,q _ f⟩;exact⟨z,us,r,⟨_,l_ _ rfl,rfl,_,rfl,rfl⟩⟩
theorem Tc (h:PA X es t):PE X (.List es u?) (A! t):=by intro pins s σ H Q I hq;refine wpAny_List_spliced (AE (h u? pins s σ H _ I hq) λus a ⟨xs,d,c,r,z,q⟩=>⟨by rw[<- r.length];exact z,?_⟩);have f:d a.heap.objs.size=af:=c.hok.fresh (o_ _);refine⟨.ref a.heap.objs.size,As d a.heap.objs.size (.lst xs),c.laid (t':=a.toks) (λb u e=>b_ _ e) (o_ _) ?_,rfl,q _ f⟩;exact⟨z,us,0,r,l_ _ rfl⟩
abbrev Sp:=ξ V->Hp->VK->XK->Prop
abbrev MG:=ξ yA->Hp->aT->XK->av->aT->Prop
structure MS (P:bb) (w:bg) (K:a5) (mg:aw->Option av) (base:cn) (A:dn) (outer:List yA) (s:aT) (H:Hp):Prop where
 frames:A.frames=ab outer
 mod:Mod K mg base
 bs:∀b o,base.get? b=ab o->s.heap.get? b=ab o/\H b=af
 bsz:base.objs.size<=s.heap.objs.size
 funs:s.heap.FunFrames base outer
 frf:∀b∈G2 outer,H b=af
 hok:A8 P w H s.heap
 bare:jv s.gens
def CE (a:ξ yA) (P:bb) (w:bg) (H:Hp) (s:aT) (Q:VK) (u:av) (s':aT):Prop :=
 ∃v H',s'.os=s.os/\jv s'.gens/\Un (G2 a) [] H H' s.heap s'.heap/\A8 P w H' s'.heap/\z4 v u/\Q v H'
def CR (CX:MG) (a:ξ yA) (P:bb) (w:bg) (H:Hp) (s:aT) (Q:VK) (E:XK) (r:Result) (s':aT):Prop :=
 match r with
 |.ok (.ret u)=>CE a P w H s Q u s'
 |.ok _=>False
 |.error e=>CX a H s E e s'
structure HM (P:bb) (w:bg) (K:a5) (mg:aw->Option av) (base:cn) (CX:MG) (k:Nat) (f:ae) (fd:d4) (ps:List aw) (sp:Sp):Prop where
 len:∀vs H Q E,sp vs H Q E->vs.length=ps.length
 run:∀(A:dn) (outer:List yA) (s:aT) (H:Hp) (args:Args) (us:List av) (vs:List V) (Q:VK) (E:XK),xr k A->MS P w K mg base A outer s H->rc s fd args (ps.zip us)->zS vs us->sp vs H Q E ->
  eJ (aI P w) A (.call (.ref f) args) (CR CX outer P w H s Q E) s
theorem MS.make {K:a5} (e:MS P w K mg base A a s H) (C:ae) (us:ξ av) (b:ξ (aw × av)):
  MS P w K mg base (A.under (.builtin "type.__call__" ⟨.ref C::us,b⟩)) a s H:=⟨by first | exact e.frames | (simpa [k6,Code.envs,Code.isFrame,pushEnvs] using e.frames),e.mod,e.bs,e.bsz,e.funs,e.frf,e.hok,e.bare⟩
section
variable {X:Cx}{pins:ξ (ae × dP)}{σ:St}
theorem Inv.env0 (I:Inv X pins σ H s):MS X.prog X.w X.K X.mg X.base X.A X.stack s H :=
 ⟨I.ok.frames,I.ok.mod,I.bs,S_ I.ok.bsz I.sz,I.stack,I.stkFree,I.hok,I.bare⟩
theorem Inv.after (I:Inv X pins σ H s) (h:CE X.stack X.prog X.w H s Q u s'):EP X pins σ Q u s':=by obtain⟨v,H',os,a,i,e,r,q⟩:=h;obtain⟨f,g,d,t,c⟩:=s';obtain rfl:c=s.os:=os;exact⟨v,H',I.call (h':=f) (g':=g) (d':=d) (t':=t) (ch:=[]) i e a (λb z=>AL z Ap),r,q⟩
end
def Xc (sp:Sp) (dvs:ξ V) (E:XK) (t:TA):TE:=λσ H Q=>t σ H λvs a=>sp (vs++dvs) a Q E
def Xd (C:ae) (m:aw) (sp:Sp) (dvs:ξ V) (E:XK) (e:TE) (t:TA):TE:=λσ H Q=>e σ H λx c=>∃a d b,x=.ref a/\c a=ab (.ins C d b)/\b.lookup m=af /\
 t σ c λvs f=>sp (x::(vs++dvs)) f Q E
def Xe (C:ae) (sp:Sp) (dvs:ξ V) (E:XK) (t:TA):TE:=λσ H Q=>t σ H λvs b=>∀x a,b x=af->b a=af->a≠x ->
 sp (.ref x::(vs++dvs)) (As (As b a (.own x)) x (.ins C a [])) (λv c=>v=.non/\Q (.ref x) c) E
def A5 (K:a5) (b:d4) (ps:ξ aw) (a:ξ av):Prop :=
 ∀(s:aT) (us:ξ av),K.In s.heap->(us++a).length=ps.length->rc s b ⟨us,[]⟩ (ps.zip (us++a))
theorem A5.all {K:a5} (h:∀us:ξ av,us.length=ps.length->c8 a ⟨us,[]⟩=ce (ps.zip us)):A5 K a ps []:=λs us _ b=>by
 rw[C9] at b |-;exact .of_eq (h us b)
def kY (CX:MG) (X:Cx) (E:XK):Prop:=∀(pins:ξ (ae × dP)) (σ:St) (H:Hp) (s:aT) (e:av) (s':aT),Inv X pins σ H s->CX X.stack H s E e s'->X.xe e s'
section
variable {X:Cx}{CX:MG}{p u? w?:gE}
theorem Eu {σ:St} (F:HM X.prog X.w X.K X.mg X.base CX k f fd ps sp) (c:xr k X.A) (d:A5 X.K fd ps ds) (i:zS dvs ds) (g:kY CX X E) (I:Inv X pins σ H s) (r:zS vs us) (h:sp (vs++dvs) H Q E):ax (aI X.prog X.w) X.A (fT (.ref f) us) (EP X pins σ Q) X.xe s:=by
 have a:zS (vs++dvs) (us++ds):=r.append i;have j:(us++ds).length=ps.length:=by rw[<- a.length];exact F.len _ _ _ _ h
 refine tJ (gN (F.run X.A X.stack s H ⟨us,[]⟩ (us++ds) (vs++dvs) Q E c I.env0 (d s us I.kIn j) a h) λr s' hq=>?_);cases r with
 |error e=>exact g pins σ H s e s' I hq
 |ok b =>
 cases b with
 |ret u=>exact I.after hq
 |next=>exact df hq
 |brk=>exact df hq
 |cont=>exact df hq
theorem KH (F:HM X.prog X.w X.K X.mg X.base CX k f fd ps sp) (j:xr k X.A) (g:Gl X x) (n:X.mg x=ab (.ref f)) (i:kD X.K (.ref f)=ag) (m:A5 X.K fd ps ds) (o:zS dvs ds) (l:kY CX X E)
  (u:PA X (e::es) t) (b:(x==("__debug__":aw))=ai:=by decide) (d:aE (e::es) X.env=(ai,bt e X.env)::aE es X.env:=by rfl) (a:(cf u? (aE es X.env)).any (·.1)=ai:=by rfl) :
  PE X (.Call (.Name x p) (e::es) [] u?) (Xc sp dvs E t):=by
 intro pins s σ H Q I h;refine Ll (zH I g n ?_ b);refine oP (h₀:=X.base) I.ok.mod.kin i (AE (u u? pins s σ H _ I h) λus y ⟨vs,v,c,r,q⟩=>⟨c.kIn,?_⟩) d a;exact Eu F j m o l c r q
theorem KJ {pl:Sem Bool}(O:PE X o ta) (c:FY X.K C) (j:Ki X.K C m f) (F:HM X.prog X.w X.K X.mg X.base CX k f fd ps sp) (p:xr k X.A) (D:A5 X.K fd ps ds) (J:zS dvs ds) (y:kY CX X E) (B:PA X (e::es) t)
  (b:aE (e::es) X.env=(ai,bt e X.env)::aE es X.env:=by rfl) (d:(cf u? (aE es X.env)).any (·.1)=ai:=by rfl)
  (n:bt (.Call (.Attribute o m w?) (e::es) [] u?) X.env=(do
   let ov <- bt o X.env
   ng w?.atName
   let (f,first) <- fh [ov] (rL ov m pl)
   callWith u? f first (cf u? (aE (e::es) X.env)) (pV u? (i5 [] X.env))):=by rfl) :
  PE X (.Call (.Attribute o m w?) (e::es) [] u?) (Xd C m sp dvs E ta t):=by
 intro pins s σ H Q I h;refine PySem.W.methodCall_KW (pl:=pl) (AE (O pins s σ H _ I h) λu G ⟨x,M,i,L,a,R,S,z,N,l,q⟩=>?_) n;subst z;obtain rfl:u=aS a:=L;refine xH i N c j l ?_;refine oP (first:=[.ref a]) (h₀:=X.base) I.ok.mod.kin j.kp (AE (B u? pins G σ M _ i q) λus T ⟨vs,P,g,r,v⟩=>⟨g.kIn,?_⟩) b d;exact Eu (us:=.ref a::us) (vs:=.ref a::vs) F p D J y g (.cons rfl r) v
structure Mk (K:a5) (C f:ae):Prop where
 makes:makesIn K C=ag
 init:hY K (.ref C) "__init__"=ab (ab (.ref f))
 fn:isFn K (.ref f)=ag
 kp:kD K (.ref C)=ag
theorem Ew {σ:St} (M:Mk X.K C f) (F:HM X.prog X.w X.K X.mg X.base CX k f fd ps sp) (m:xr (k+1) X.A) (n:A5 X.K fd ps ds) (d:zS dvs ds) (o:kY CX X E) (I:Inv X pins σ H s) (r:zS vs us) (h:∀x dx,H x=af->H dx=af->dx≠x->sp (.ref x::(vs++dvs)) (As (As H dx (.own x)) x (.ins C dx [])) (λv H2=>v=.non/\Q (.ref x) H2) E):
  ax (aI X.prog X.w) X.A (fT (.ref C) us) (EP X pins σ Q) X.xe s:=by
 have hq:=h (s.heap.objs.size+1) s.heap.objs.size (I.hok.fresh (mm _)) (I.hok.fresh (o_ _)) (H_ (HP _));have b:=Inv.made (C:=C) I;have c:zS (V.ref (s.heap.objs.size+1)::(vs++dvs)) (aS (s.heap.objs.size+1)::(us++ds)):=.cons rfl (r.append d);have q:(aS (s.heap.objs.size+1)::us++ds).length=ps.length:=by have e:=c.length;rw[F.len _ _ _ _ hq] at e;exact e.symm
 refine tJ (Et (f:=f) I.kIn M.makes M.init (E1.mp M.fn) (gN (F.run _ X.stack _ _ ⟨aS (s.heap.objs.size+1)::us,[]⟩ (aS (s.heap.objs.size+1)::(us++ds)) _ _ E (m.make C us [])
  (b.env0.make C us []) (n _ (aS (s.heap.objs.size+1)::us) b.kIn q) c hq) λr s' a=>?_))
 cases r with
 |error e=>exact o pins σ _ _ e s' b a
 |ok i =>
 cases i with
 |ret u=>obtain⟨v,H',j,p,l,g⟩:=b.after a;subst l;exact⟨p,⟨V.ref (s.heap.objs.size+1),H',j,rfl,g⟩⟩
 |next=>exact df a
 |brk=>exact df a
 |cont=>exact df a
theorem KN (M:Mk X.K C f) (F:HM X.prog X.w X.K X.mg X.base CX k f fd ps sp) (i:xr (k+1) X.A) (g:Gl X x) (m:X.mg x=ab (.ref C)) (l:A5 X.K fd ps ds) (n:zS dvs ds) (j:kY CX X E)
  (o:PA X (e::es) t) (b:(x==("__debug__":aw))=ai:=by decide) (d:aE (e::es) X.env=(ai,bt e X.env)::aE es X.env:=by rfl) (a:(cf u? (aE es X.env)).any (·.1)=ai:=by rfl) :
  PE X (.Call (.Name x p) (e::es) [] u?) (Xe C sp dvs E t):=by
 intro pins s σ H Q I h;refine Ll (zH I g m ?_ b);refine oP (h₀:=X.base) I.ok.mod.kin M.kp (AE (o u? pins s σ H _ I h) λus v ⟨vs,u,c,r,q⟩=>⟨c.kIn,?_⟩) d a;exact Ew M F i l n j c r q
end
structure gV (N P:List aw) (sc:Scope):Prop where
 kind:sc.kind=.function
 co:sc.isCoroutine=ai
 gen:sc.isGenerator=ai
 nd:N.Nodup
 pre:N.take P.length=P
 par:∀x∈P,sc.names.lookup x=ab .local\/sc.names.lookup x=ab .cell
 nofree:∀y∈sc.names,y.2≠.free
theorem qz:∀{a:ξ (aw × av)}{m:aw->ζ av},(∀v,(x,v)∉a)->wt b a m x=m x
 |[],_,_=>rfl
 | (n,v)::r,m,h=>by
  unfold wt
  rw[qz λw c=>h w (E_ _ c)]
  split
  ·
   have:x≠n:=by rintro rfl;exact h v A_
   simp [this]
  ·
   rfl
theorem qC:∀{a:ξ (aw × av)}{m:aw->ζ av},(∀v,(x,v)∉a)->wv b a m x=m x
 |[],_,_=>rfl
 | (n,v)::r,m,h=>by
  unfold wv
  rw[qC λw c=>h w (E_ _ c)]
  split
  ·
   rfl
  ·
   have:x≠n:=by rintro rfl;exact h v A_
   simp [this]
theorem qD:∀{P:ξ aw}{vs:ξ av}{i:Nat}{m:aw->ζ av},P.Nodup->P[i]?=ab x->vs[i]?=ab v->a x=ab .local ->
  wt a (P.zip vs) m x=ab v
 |[],_,_,_,_,h,_,_=>by simp at h
 |_::_,[],_,_,_,_,h,_=>by simp at h
 |p::P,w::vs,0,m,nd,h1,h2,hk=>by
  simp at h1 h2;subst h1;subst h2
  show wt a ((p,w)::P.zip vs) m p=_
  unfold wt
  rw[qz λv b=>(EZ.mp nd).1 (L0 b).1,z3 hk]
  simp
 |p::P,w::vs,i+1,m,nd,h1,h2,hk=>by
  show wt a ((p,w)::P.zip vs) m x=_
  unfold wt
  exact qD (i:=i) (EZ.mp nd).2 (by simpa using h1) (by simpa using h2) hk
theorem qF:∀{P:ξ aw}{vs:ξ av}{i:Nat}{m:aw->ζ av},P.Nodup->P[i]?=ab x->vs[i]?=ab v->a x≠ab .local ->
  wv a (P.zip vs) m x=ab v
 |[],_,_,_,_,h,_,_=>by simp at h
 |_::_,[],_,_,_,_,h,_=>by simp at h
 |p::P,w::vs,0,m,nd,h1,h2,hk=>by
  simp at h1 h2;subst h1;subst h2
  show wv a ((p,w)::P.zip vs) m p=_
  unfold wv
  rw[qC λv b=>(EZ.mp nd).1 (L0 b).1,zD hk]
  simp
 |p::P,w::vs,i+1,m,nd,h1,h2,hk=>by
  show wv a ((p,w)::P.zip vs) m x=_
  unfold wv
  exact qF (i:=i) (EZ.mp nd).2 (by simpa using h1) (by simpa using h2) hk
noncomputable def start (N:ξ aw) (vs:ξ V):St:=vs.map ab++a3 (N.length - vs.length) af
noncomputable def ux (CX:MG) (P:bb) (w:bg) (K:a5) (mg:aw->ζ av) (base:cn) (N:ξ aw) (qual:aw) (scope:Scope) (f:ae) (b:av) (A:dn) (y?:ξ yA) (s:aT) (H:Hp) (E:XK):Cx where
 prog:=P
 w:=w
 K:=K
 mg:=mg
 base:=base
 A:=A.deeper (hZ qual scope s.heap.objs.size f b)
 N:=N
 s₀:=s
 H₀:=H
 env:=hZ qual scope s.heap.objs.size f b
 outer:=y?
 stack:=hZ qual scope s.heap.objs.size f b::y?
 ex:=[]
 calm:=ag
 fn:=λ_=>ag
 pn:=[]
 xe:=λe s'=>ax (aI P w) (A.deeper (hZ qual scope s.heap.objs.size f b)) (leaving (hZ qual scope s.heap.objs.size f b) e) (λ_ a=>CX y? H s E e a) (λc a=>CX y? H s E c a) s'
theorem jQ {a:Scope} (h:a.names.lookup x=ab .cell):∃c,(bm n a.names []).lookup x=ab c:=by have q:=me a.names n [] (.inl h);exact Option.isSome_iff_exists.mp q
theorem Cy {K:a5} (S:gV N ps scope) (M:A.handled=af) (j:MS P w K mg base A d s H) (R:vs.length=ps.length) (r:zS vs us) (x:InCallC s s.heap.objs.size (wt (hZ qual scope s.heap.objs.size f C).kindOf (ps.zip us) λ_=>af) (bm (s.heap.objs.size+1) scope.names []) (wv (hZ qual scope s.heap.objs.size f C).kindOf (ps.zip us) λ_=>af) G):
  Inv (ux CX P w K mg base N qual scope f C A d s H E) [] (start N vs) H G:=by
 have L:ps.length<=N.length:=by have:=U_ a7 S.pre;rw[F3] at this;omega
 obtain⟨D,tk,rfl,I⟩:=x.done;have m:∀b:ae,b∉(ux CX P w K mg base N qual scope f C A d s H E).ex:=λb z=>AL (show b∈([]:ξ ae) from z) Ap;refine⟨⟨j.mod,S.kind,rfl,rfl,o_ _,λy z c D g=>?_,λy l=>?_,λy c _ h=>?_,λ_=>M,mP j.frames,.inr ⟨rfl,rfl⟩,λb z=>AL z (m b),j.bs,j.bsz,λb _ _=>m b,λb z=>AL z (m b),j.funs,j.frf⟩,
  rfl,j.bare,Un.kept I,⟨_,x.toInCall.ns,λi y v D g Q=>?_⟩,λy c h=>⟨_,x.cell y c h⟩,j.hok.fresh (o_ _),λy c h=>?_,λp o=>AL (show p∈([]:ξ (ae × dP)) from o) Ap,j.hok.kept I,?_⟩
 .exact name_of_addr x.apart (mem_of_lookup D) (mem_of_lookup g)
 .have l:scope.names.lookup y=ab .cell\/scope.names.lookup y=ab .free:=l;rcases l with l | l
  .exact jQ l
  exact AL rfl (S.nofree _ (mem_of_lookup l))
 .exact D0 (x.above y c (mem_of_lookup h))
 .have B:i<vs.length:=by
   unfold start at g;by_cases B:i<vs.length
   .exact B
   rw[Z_ (by simpa using B)] at g;rw[Sr] at g;split at g <;> cases g
  have J:vs[i]?=ab v:=by
   unfold start at g;rw[NR (by simpa using B),C_] at g;cases e:vs[i]? with
   |none=>rw[e] at g;cases g
   |some a=>rw[e] at g;cases g;rfl
  obtain⟨u,F,O⟩:=r.get J;have o:ps[i]?=ab y:=by rw[<- S.pre,TN zo];exact D
  have t:ps.Nodup:=by rw[<- S.pre];exact S.nd.sublist (List.take_sublist _ _)
  refine⟨u,O,?_⟩;rcases S.par y (E5 o) with k | k
  .exact .inl ⟨k,qD t o F k⟩
  obtain⟨c,e⟩:=jQ (n:=s.heap.objs.size+1) k;refine .inr ⟨.inl k,c,e,?_⟩;have q:=x.cell y c e;rw[qF t o F (by show scope.names.lookup y≠_;rw[k];decide)] at q;exact q
 .exact j.hok.fresh (D0 (x.above y c (mem_of_lookup h)))
 unfold start;show _=N.length;rw[d_,g_,IQ];omega
theorem Pu {K:a5}{dV kV z M c U oc:av} (Z:K.lookup f=ab ⟨oc,od,.func (oB name qual d g scope dV kV z M O c U),L⟩) (D:rX K c qual=ag) (S:gV N ps scope) (m:∀vs H Q E,sp vs H Q E->vs.length=ps.length) (i:∀(A:dn) (a:ξ yA) (s:aT) (H:Hp) (vs:ξ V) (Q:VK) (E:XK),xr k (A.deeper (hZ qual scope s.heap.objs.size f c))->sp vs H Q E ->
   ∃t,Da (ux CX P w K mg base N qual scope f c A a s H E) g t/\t { nx:=λ_ H'=>Q .non H',rt:=Q} (start N vs) H):
  HM P w K mg base CX (k+1) f (oB name qual d g scope dV kV z M O c U) ps sp:=by
 refine⟨m,λA a s H T us vs Q E C B hb r l=>?_⟩;have hl:=m _ _ _ _ l;have X:K.In s.heap:=B.mod.kin.keeps λb o e=>(B.bs b o e).1;have F:s.heap.NoLimit:=B.mod.nolimit.keeps λb o e=>(B.bs b o e).1;have h:∀y∈ps.zip us,scope.names.lookup y.1=ab .local\/(scope.names.lookup y.1=ab .cell/\((bm (s.heap.objs.size+1) scope.names []).lookup y.1).isSome=ag):=λ⟨n,v⟩ hy=>by
  rcases S.par n (L0 hy).1 with q | q
  .exact .inl q
  exact .inr ⟨q,me _ _ _ (.inl q)⟩
 refine codeAny_call_function C.depth (X _ _ Z) rfl S.co S.gen rfl (PySem.W.codeRec_of X D) (hb _ _ _ _ ?_);refine wpAny_newFunctionEnv_cells S.kind h λenv he R x=>?_;subst he;refine⟨F.keeps x.toInCall.keep,codeAny_func ?_⟩;obtain⟨t,Y,hq⟩:=i A a s H vs Q E (C.deeper _) l;have I:Inv (ux CX P w K mg base N qual scope f c A a s H E) [] (start N vs) H R:=Cy S C.hd B hl r x;refine CA (Y [] R (start N vs) H _ I hq) (λfl s' j=>?_) λe s' j=>j;have p:∀{σ':St} {H':Hp} {v:V} {u:av},Inv (ux CX P w K mg base N qual scope f c A a s H E) [] σ' H' s'->z4 v u->Q v H'->CE a P w H s Q u s' :=
  λ{σ' H' v u} J G q=>⟨v,H',J.os,J.bare,J.base,J.hok,G,q⟩
 cases fl with
 |ret u=>obtain⟨v,σ',H',J,G,q⟩:=j;exact p J G q
 |next=>obtain⟨σ',H',J,q⟩:=j;exact p (v:=V.non) (u:=bp) J rfl q
 |brk=>obtain⟨_,_,_,q⟩:=j;exact df q
 |cont =>
 obtain⟨_,_,_,q⟩:=j;exact df q
section
variable {p u?:gE}{id T:String}
def UX (r:ξ V->Hp->VK->Prop) (t:TA):TE:=λσ H Q=>t σ H λvs a=>r vs a Q
theorem Ex (o:DC X (.builtin id) r) (f:Gl X x) (l:X.mg x=af) (g:bi x=ab (.builtin id)) (n:PA X (e::es) t) (c:x≠"__name__":=by decide) (b:(x==("__debug__":aw))=ai:=by decide)
  (d:aE (e::es) X.env=(ai,bt e X.env)::aE es X.env:=by rfl) (a:(cf u? (aE es X.env)).any (·.1)=ai:=by rfl):PE X (.Call (.Name x p) (e::es) [] u?) (UX r t):=by
 intro pins s σ H Q I h;refine Ll (gY I f l g ?_ c b);exact PyProof.Rows.callWith_builtin1 (AE (n u? pins s σ H _ I h) λus k ⟨vs,i,j,q,m⟩=>o pins k σ i vs us Q j q m) d a
theorem Cz (o:DC X (.type T) r) (f:Gl X x) (l:X.mg x=af) (g:bi x=ab (.type T)) (n:PA X (e::es) t) (c:x≠"__name__":=by decide) (b:(x==("__debug__":aw))=ai:=by decide)
  (d:aE (e::es) X.env=(ai,bt e X.env)::aE es X.env:=by rfl) (a:(cf u? (aE es X.env)).any (·.1)=ai:=by rfl):PE X (.Call (.Name x p) (e::es) [] u?) (UX r t):=by
 intro pins s σ H Q I h;refine Ll (gY I f l g ?_ c b);exact MI (AE (n u? pins s σ H _ I h) λus k ⟨vs,i,j,q,m⟩=>o pins k σ i vs us Q j q m) d a
end
end L2
namespace HT
open PySem PyProof.Rows
noncomputable def lexLt:ξ Int->ξ Int->Bool
 |[],[]=>ai
 |[],_::_=>ag
 |_::_,[]=>ai
 |x::xs,y::ys=>if x=y then lexLt xs ys else decide (x<y)
theorem afe (x y:Int) (xs a:ξ Int):lexLt (x::xs) (y::a)=if x=y then lexLt xs a else decide (x<y):=rfl
theorem afc:lexLt [] []=ai:=rfl
theorem nu (y:Int) (a:ξ Int):lexLt [] (y::a)=ag:=rfl
theorem nA (x:Int) (xs:ξ Int):lexLt (x::xs) []=ai:=rfl
theorem Ey (A:dn) (s:aT) (a:Int) (t:ze) (c:Int) (u:ze):∃e,ii A s (.int a t) (.int c u) e/\(e=ag↔a=c) :=
 ⟨(a==c),L5 a t c u,Ap⟩
theorem Ez (A:dn) (s:aT) (a:Int) (t:ze) (c:Int) (u:ze) (prog:bb) (w:bg) (E:av->aT->Prop) (Q:av->aT->Prop) (h:Q (.bool (decide (a<c))) s) :
  ax (aI prog w) A (richCompare .Lt (.int a t) (.int c u)) Q E s :=
 (PyProof.Rows.lt_int h:ax (aI prog w) A (ba .Lt (.int a t) (.int c u)) Q E s)
section
open PySem.SeqAt
open PySem.AutoSeq1 (wpAny_loadPart')
open PySem.MeetsSeq PySem.MeetsSeq2 PySem.MeetsSeq3
theorem pR (l b:ae) (i f:Array av) (n P:Nat) (O H:ζ ae) (S G:Array (ζ av)) (ns F:ξ Int) (K:cS i.toList ns) (L:cS f.toList F) :
  Meets (dt.«tuple.__lt__» ⟨[.ref l,.ref b],[]⟩)
   (λ_ R s=>s.heap.get? l=ab { cls:=.type "tuple",dict:=O,data:=.seq i n,slots:=S}/\s.heap.get? b=ab { cls:=.type "tuple",dict:=H,data:=.seq f P,slots:=G} /\
    R (.ok (.ret (.bool (lexLt ns F)))) s) :=
 .of_wp λprog w A R s h=>by
  obtain⟨E,g,d,tk,os⟩:=s;obtain⟨T,N,h⟩:=h;have X:=AutoSeq1.sub_tuple_tuple;have V:i.size=ns.length:=by rw[<- K.length];simp
  have Y:f.size=F.length:=by rw[<- L.length];simp
  wp_walk using k9 T,k9 N,rf _ (λAB b s'=>b.1=af/\s'=⟨E,g,d,tk,os⟩/\∃(vs ws:ξ av) (m k:ξ Int),AB=vs.zip ws /\
   cS vs m/\cS ws k/\m.length+f.size=k.length+i.size/\R (.ok (.ret (.bool (lexLt m k)))) ⟨E,g,d,tk,os⟩) _
  case turn =>
   rintro⟨y,x⟩ AB b s' ⟨z,rfl,vs,ws,m,k,p,B,o,j,v⟩
   cases B with
   |nil=>rw[List.zip_nil_left] at p;cases p
   |cons a t D =>
    cases o with
    |nil=>rw[List.zip_nil_right] at p;cases p
    |cons c u C =>
     rw[On] at p
     injection p with hyx hrest
     injection hyx with hy hx
     subst hy hx
     rw[afe] at v
     simp only[n_] at j
     obtain⟨e,Q,r⟩:=Ey A.in1 ⟨E,g,d,tk,os⟩ a t c u
     refine a_ (Q prog w _ _ ?_)
     cases e with
     |true =>
      rw[z3 (r.mp rfl)] at v
      wp_walk
      exact⟨rfl,rfl,_,_,_,_,hrest,D,C,zo,v⟩
     |false =>
      rw[zD (λq=>AL (r.mpr q) M_)] at v
      have I:=Ez A.in1 ⟨E,g,d,tk,os⟩ a t c u prog w
      wp_walk using I
      exact⟨_,rfl,by simpa using v⟩
  case fin =>
   rintro⟨W,U⟩ s' ⟨z,rfl,vs,ws,m,k,p,B,o,j,v⟩
   simp only at z
   subst z
   have J:lexLt m k=decide (i.size<f.size):=by
    cases B with
    |nil =>
     cases o with
     |nil =>
      simp only[EW] at j
      rw[afc]
      exact (q_ zo).symm
     |cons c u M =>
      simp only[EW,n_] at j
      rw[nu]
      exact (p_ zo).symm
    |cons a t J =>
     cases o with
     |nil =>
      simp only[EW,n_] at j
      rw[nA]
      exact (q_ zo).symm
     |cons c u M =>
      rw[On] at p
      cases p
   rw[J] at v
   wp_walk
   exact⟨_,rfl,by simpa [Builtin.Tuple.tupleCompareSizes] using v⟩
  case h =>
   exact⟨rfl,rfl,i.toList,f.toList,ns,F,rfl,K,L,zo,h⟩
theorem agJ (G:sv s.heap l c) (y:sv s.heap b a) (u:cS c.toList ns) (C:cS a.toList f) (v:A.units<br) (h:Q (.bool (lexLt ns f)) s):ax (aI prog w) A (ba .Lt (.ref l) (.ref b)) Q E s:=by
 obtain⟨⟨t,z,p,D⟩,m,q,n,o⟩:=id G;obtain⟨⟨r,j,k,i⟩,e,d,B,g⟩:=id y;simp only at q o d g;subst q o d g;exact richCompare_meets_room (op:=.Lt) ⟨_,m,rfl⟩ ⟨_,e,rfl⟩ PySem.F.slot_tuple_lt PySem.F.entry_tuple_lt (PySem.F.args_tuple_lt_2 _ _) (pR l b c a n B z j D i ns f u C)
  ⟨m,e,show dA (lexLt ns f)≠Value.notImplemented/\Q (.bool (lexLt ns f)) s from ⟨(λx=>nomatch x),h⟩⟩ v
theorem aig (u:sv s.heap t vs.toArray) (v:sv s.heap b ws.toArray) (k:vs≠[]) (x:ws=[]->Q (.ref t) s) (y:ws≠[]->Q (.ref s.heap.objs.size) { s with heap:=s.heap.push { cls:=.type "tuple",data:=.seq (vs++ws).toArray}}) (hsz:vs.length+ws.length<=am):ax (aI prog w) A (ca .Add (.ref t) (.ref b)) Q E s:=by
 obtain⟨⟨cls,m,data,q⟩,i,p,n,l⟩:=id u;obtain⟨⟨r,f,j,d⟩,a,c,o,g⟩:=id v;simp only at p l c g;subst p l c g;have e:vs.toArray++ws.toArray=(vs++ws).toArray:=Ap
 by_cases h:ws=[]
 .exact kG ⟨_,i,rfl⟩ ⟨_,a,rfl⟩ kr nV e4 eR (TH _ _)
   (tuple_addW1 t b vs.toArray ws.toArray n o m f q d (by simpa using k) (by simp [h])) ⟨i,a,x h⟩
 refine kG ⟨_,i,rfl⟩ ⟨_,a,rfl⟩ kr nV e4 eR (TH _ _)
  (tuple_addW2 t b vs.toArray ws.toArray n o m f q d (by simpa using k) (by simpa using h) (by rw[m_,m_];exact hsz)) ⟨i,a,?_⟩
 rw[e];exact y h
noncomputable def sIx (n d:Nat):ζ Int->Nat
 |none=>d
 |some v=>if v<0 then (v+(n:Int)).toNat else min v.toNat n
theorem ahv (n d:Nat):sIx n d af=d:=rfl
theorem agW (n d k:Nat):sIx n d (ab (k:Int))=min k n:=by show (if (k:Int)<0 then ((k:Int)+(n:Int)).toNat else min (k:Int).toNat n)=min k n;rw[zD zo,GS]
theorem Td (n d:Nat) (b:d<=n) (o:ζ Int):sIx n d o<=n:=by
 cases o with
 |none=>exact b
 |some v =>
  show (if v<0 then (v+(n:Int)).toNat else min v.toNat n)<=n
  by_cases a:v<0
  ·
   rw[z3 a];omega
  ·
   rw[zD a];exact Nat.min_le_right _ _
theorem zK (v:Int) (n d:Nat):(if v<0 then max (v+(n:Int)) 0 else min v (n:Int))=((sIx n d (ab v):Nat):Int):=by
 show (if v<0 then max (v+(n:Int)) 0 else min v (n:Int))=(((if v<0 then (v+(n:Int)).toNat else min v.toNat n):Nat):Int);by_cases a:v<0
 .simp only[z3 a];omega
 simp only[zD a];omega
theorem xN (a b:ζ Int) (n:Nat):cp a b 1 (n:Int)=(((sIx n 0 a:Nat):Int),((sIx n n b:Nat):Int)):=by
 have c:¬((1:Int)<0):=zo
 unfold cp;simp only[c,W_];refine fw ?_ ?_
 .cases a with
  |none=>rfl
  |some v=>exact zK v n 0
 cases b with
 |none=>rfl
 |some v=>exact zK v n n
theorem xO (i j:Nat):bX (i:Int) (j:Int) 1=j - i:=by
 unfold bX;have a:(1:Int)>0:=zo
 simp only[a,if_true,qS];split <;> omega
theorem jA (p:iA v o) (h:Q o s):ax (aI prog w) A (Builtin.Slice.slicePartIndex v) Q E s:=by
 cases p with
 |none=>exact hU h
 |int i t=>exact slicePart_int h
theorem ie {Q:Int × Int × Nat->aT->Prop} (k:s.heap.IsSliceOf g f e .none) (pl:iA f a) (j:iA e d) (h:Q (((sIx n 0 a:Nat):Int),1,sIx n n d - sIx n 0 a) s):ax (aI prog w) A (dL (.ref g) (ce (n:Int))) Q E s:=by obtain⟨os,b,i,c⟩:=id k;unfold dL iS;refine a_ (a_ (DS b c (x:=f) rfl (a_ (DS b c (x:=e) rfl (a_ (DS b c (x:=.none) rfl (i_ ?_)))))));refine a_ (hU ?_);show ax _ _ (if ((1:Int)==0)=ag then _ else _) _ _ s;rw[zD zC];refine a_ (jA pl (a_ (jA j (a_ (i_ ?_)))));show ax _ _ (match cp a d 1 (n:Int) with | (a,d)=>ce (a,(1:Int),bX a d 1)) _ _ s;rw[xN a d n];show ax _ _ (ce (((sIx n 0 a:Nat):Int),(1:Int),bX ((sIx n 0 a:Nat):Int) ((sIx n n d:Nat):Int) 1)) _ _ s;rw[xO];exact i_ h
theorem EY (xs : Array av) (i k : Nat) : ((ay k).filterMap λ(m : Nat) => xs[((i : Int) + (m : Int) * 1).toNat]?).toArray = ((xs.toList.drop i).take k).toArray:=by
 have e:(λ(m:Nat)=>xs[((i:Int)+(m:Int)*1).toNat]?)=λm=>xs[i+m]?:=by
  funext m;have:((i:Int)+(m:Int)*1).toNat=i+m:=by omega
  rw[this]
 rw [e];have:=pick_run xs i k;rw [Sk] at this;have a : ((λx => xs[x]?) ∘ λx => i + x) = λm => xs[i + m]?:=rfl;rw [a] at this;rw [this]
theorem afp (e:sv s.heap t a) (o:s.heap.IsSliceOf j n l .none) (pl:iA n c) (p:iA l d) (r:¬(sIx a.size 0 c=0/\sIx a.size a.size d=a.size)) (h:Q (.ref s.heap.objs.size) { s with heap:=s.heap.push { cls:=.type "tuple",data:=.seq ((a.toList.drop (sIx a.size 0 c)).take (sIx a.size a.size d - sIx a.size 0 c)).toArray}}) (hsz:a.size<=am):ax (aI prog w) A (eW (.ref t) (.ref j)) Q E s:=by
 have b:sizeOk (.seq ((a.toList.drop (sIx a.size 0 c)).take (sIx a.size a.size d - sIx a.size 0 c)).toArray):=by show ((a.toList.drop (sIx a.size 0 c)).take (sIx a.size a.size d - sIx a.size 0 c)).toArray.size<=am;rw[m_,F3,ND,E7];omega
 have x:sIx a.size a.size d<=a.size:=Td _ _ (o_ _) d;obtain⟨os,i,f,u⟩:=id o;have g:s.TypeIs (.ref j) "slice":=⟨os,i,f⟩;unfold eW;try with_reducible refine DU ?_
 first | refine a_ (i_ ?_) | skip
 refine a_ (iX e.typeIs zC ?_);refine a_ (II (name:=cr "__getitem__") e.typeIs IP
  (EH IP e.typeIs gx ?_ (ib _ _)))
 show ax _ _ (dE (.ref t) >>= _) _ _ s;refine a_ (nS e ?_);refine a_ (LW g ?_);rw[z3 zC];refine a_ (ie o pl p ?_);have k:¬((((sIx a.size 0 c:Nat):Int)==0&&(1:Int)==1&&(sIx a.size a.size d - sIx a.size 0 c)==a.size)=ag):=by intro q;rw[F_,F_] at q;have y:((sIx a.size 0 c:Nat):Int)=0:=eq_of_beq q.1.1;have v:sIx a.size a.size d - sIx a.size 0 c=a.size:=eq_of_beq q.2;exact r ⟨zo,zo⟩
 show ax _ _ (if (((sIx a.size 0 c:Nat):Int)==0&&(1:Int)==1&&(sIx a.size a.size d - sIx a.size 0 c)==a.size)=ag then _ else _) _ _ s;rw[zD k,EY];first
  |exact a_ (m:=b9 _) (FB (i_ ⟨_,rfl,i_ h⟩) b)
  |exact a_ (m:=b9 _) (FB (a_ (i_ (i_ ⟨_,rfl,i_ h⟩))) b)
  |exact a_ (a_ (m:=b9 _) (FB (i_ (i_ ⟨_,rfl,i_ h⟩)) b))
  |exact a_ (a_ (m:=b9 _) (FB (i_ ⟨_,rfl,i_ h⟩) b))
end
end HT
namespace L2
abbrev TO:=St->Hp->(ζ Int->Hp->Prop)->Prop
def PO (X:Cx) (e:ζ Expr) (t:TO):Prop :=
 ∀(pins:ξ (ae × dP)) (s:aT) (σ:St) (H:Hp) (Q:ζ Int->Hp->Prop),Inv X pins σ H s->t σ H Q ->
  ax (aI X.prog X.w) X.A (evalPart e X.env) (λu s'=>∃o H',Inv X pins σ H' s'/\iA u o/\Q o H') X.xe s
def KQ:TO:=λ_ H Q=>Q af H
def Xf (t:TE):TO:=λσ H Q=>t σ H λx a=>∃i,x=.int i/\Q (ab i) a
theorem CH:∀{us:ξ av},zS (ns.map V.int) us->cS us ns:=by
 induction ns with
 |nil=>intro us r;rw[IA] at r;cases r;exact .nil
 |cons n ns a =>
 intro us r;rw[I_] at r;cases r with
 |cons c b =>
 obtain⟨t,e⟩:=c;subst e;exact .cons n t (a b)
section
variable {lo hi:ζ Expr}
theorem KR:PO X af KQ:=by intro pins s σ H Q I h;rw[n9];exact i_ ⟨af,H,I,.none,h⟩
theorem KY (h:PE X e te):PO X (ab e) (Xf te):=by intro pins s σ H Q I b;rw[evalPart_some];refine AE (h pins s σ H _ I b) λu g ⟨x,a,c,f,d⟩=>?_;obtain⟨i,rfl,q⟩:=d;obtain⟨t,rfl⟩:=f;exact⟨ab i,a,c,.int i t,q⟩
def IT (X:Cx) (r:V->ζ Int->ζ Int->Hp->VK->Prop):Prop :=
 ∀(pins:ξ (ae × dP)) (s:aT) (σ:St) (H:Hp) (x:V) (v c b:av) (a e:ζ Int) (d:ae) (Q:VK),Inv X pins σ H s->z4 x v->s.heap.IsSliceOf d c b .none->iA c a->iA b e->r x a e H Q ->
  ∃T f,ow (.type T) "__getitem__"=ce (ab (.builtin f))/\s.TypeIs v T/\ax (aI X.prog X.w) X.A (eW v (.ref d)) (EP X pins σ Q) X.xe s
theorem IT.or (h:IT X r) (h':IT X d):IT X (λx a b H Q=>r x a b H Q\/d x a b H Q):=by
 intro pins s σ H x v f c a b g Q I j i pl e q;rcases q with q | q
 .exact h pins s σ H x v f c a b g Q I j i pl e q
 exact h' pins s σ H x v f c a b g Q I j i pl e q
def a! (r:V->ζ Int->ζ Int->Hp->VK->Prop) (te:TE) (d a:TO):TE:=λσ H Q=>te σ H λx b=>d σ b λl c=>a σ c λu H3=>r x l u H3 Q
theorem uA (j:IT X r) (E:PE X e te) (J:PO X lo tl) (n:PO X hi th):PE X (.Subscript e (.Slice lo hi af p2) u?) (a! r te tl th):=by intro pins s σ H Q I h;refine oQ (AE (E pins s σ H _ I h) λv t ⟨x,z,C,D,G⟩=>?_);refine wpAny_Slice (AE (J pins t σ z _ C G) λc B ⟨l,m,y,pl,k⟩=>AE (n pins B σ m _ y k) λa s3 ⟨u,H3,p,i,d⟩=>?_);rw[n9];refine i_ ?_;have F:Inv X pins σ H3 { s3 with heap:=s3.heap.push { cls:=.type "slice",data:=.fields #[c,a,.none]}}:=p.kept (t':=s3.toks) λb K q=>b_ _ q;obtain⟨T,L,o,g,f⟩:=j pins { s3 with heap:=s3.heap.push { cls:=.type "slice",data:=.fields #[c,a,.none]}} σ H3 x v c a l u s3.heap.objs.size Q F D (Heap.IsSliceOf.new ..) pl i d;show ax (aI X.prog X.w) X.A (j2 e (.Slice lo hi af p2) v (.ref s3.heap.objs.size)) (EP X pins σ Q) X.xe { s3 with heap:=s3.heap.push { cls:=.type "slice",data:=.fields #[c,a,.none]}};exact yT (ops:=[.ref s3.heap.objs.size,v]) g o f (by with_unfolding_all rfl)
noncomputable def uB (xs:ξ V) (a b:ζ Int):ξ V:=(xs.drop (HT.sIx xs.length 0 a)).take (HT.sIx xs.length xs.length b - HT.sIx xs.length 0 a)
theorem lL (xs:ξ V) (a b:ζ Int):(uB xs a b).length<=xs.length:=by unfold uB;rw[F3,ND];omega
def R' (K:a5):V->ζ Int->ζ Int->Hp->VK->Prop:=λx b c H Q=>∃a xs,x=.ref a/\A3 K H a xs /\
 ¬(HT.sIx xs.length 0 b=0/\HT.sIx xs.length xs.length c=xs.length)/\∀p,H p=af->Q (.ref p) (As H p (.tup (uB xs b c)))
theorem VS:IT X (R' X.K):=by
 intro pins s σ H x v t p d f u Q I n l pl j h;obtain⟨a,xs,rfl,m,k,q⟩:=h;cases n;obtain⟨e,r,g,i⟩:=I.tuple m;have c:e.toArray.size=xs.length:=by rw[m_];exact r.length.symm
 refine⟨"tuple",_,IP.lookup,g.typeIs,?_⟩;refine HT.afp g l pl j (by rw[c];exact k) ?_ (by rw[c];exact i);rw[c];refine⟨.ref s.heap.objs.size,_,I.laid (t':=s.toks) (o:=.tup (uB xs d f)) (λb w q=>b_ _ q) (o_ _) ?_,rfl,q _ (I.hok.fresh (o_ _))⟩;exact⟨S_ (lL xs d f) i,_,(r.drop (HT.sIx xs.length 0 d)).take (HT.sIx xs.length xs.length f - HT.sIx xs.length 0 d),GV.new _ _⟩
def Y' (K:a5):R2:=λx y H Q=>∃a b ns c,x=.ref a/\y=.ref b/\A3 K H a (ns.map V.int)/\A3 K H b (c.map V.int)/\Q (.bl (HT.lexLt ns c)) H
theorem Te (g:X.A.units<br):AX X (ba .Lt) (Y' X.K):=by intro pins s σ H x y v u Q I n m h;obtain⟨a,b,ns,e,rfl,rfl,o,l,q⟩:=h;cases n;cases m;obtain⟨d,p,p1,_⟩:=I.tuple o;obtain⟨c,j,i,_⟩:=I.tuple l;have f:cS d.toArray.toList ns:=CH p;have k:cS c.toArray.toList e:=CH j;exact HT.agJ p1 i f k g ⟨.bl (HT.lexLt ns e),H,I,rfl,q⟩
def Xg (K:a5):R2:=λx y H Q=>∃a b xs c,x=.ref a/\y=.ref b/\A3 K H a xs/\A3 K H b c/\xs≠[]/\xs.length+c.length<=am /\
 (c=[]->Q (.ref a) H)/\(c≠[]->∀p,H p=af->Q (.ref p) (As H p (.tup (xs++c))))
theorem zS.nil_iff (r:zS xs us):us=[]↔xs=[]:=by
 cases r with
 |nil=>simp
 |cons _ _=>simp
theorem U':AX X (ca .Add) (Xg X.K):=by intro pins s σ H x y v u Q I n r h;obtain⟨a,b,xs,i,rfl,rfl,t,j,l,e,g,k⟩:=h;cases n;cases r;obtain⟨m,d,p1,_⟩:=I.tuple t;obtain⟨f,c,p,_⟩:=I.tuple j;refine HT.aig p1 p (λz=>l (d.nil_iff.mp z)) (λz=>⟨.ref a,H,I,rfl,g (c.nil_iff.mp z)⟩) (λz=>?_) (by rw[<- d.length,<- c.length];exact e);refine⟨.ref s.heap.objs.size,_,I.laid (t':=s.toks) (o:=.tup (xs++i)) (λb A q=>b_ _ q) (o_ _) ?_,rfl,k (λw=>z (c.nil_iff.mpr w)) _ (I.hok.fresh (o_ _))⟩;exact⟨by rw[d_];exact e,_,d.append c,GV.new _ _⟩
end
noncomputable def D9 (n:Nat) (i:Int):ζ Nat:=if 0<=i then (if i<n then ab i.toNat else af) else if -(n:Int)<=i then ab (i+n).toNat else af
noncomputable def AR {a:Type}(xs:ξ a) (i:Int):ζ a:=(D9 xs.length i).bind λj=>xs[j]?
theorem zL (h:D9 n i=ab j):seqIndex? i n=ab j/\j<n /\ -(n:Int)<=i/\i<n:=by
 unfold D9 at h;by_cases b:0<=i
 .rw[z3 b] at h;by_cases a:i<n
  .rw[z3 a] at h;have e:i.toNat=j:=O_ h;exact⟨by rw[sk b a,e],zo,zo,a⟩
  rw[zD a] at h;cases h
 rw[zD b] at h;by_cases a : -(n:Int)<=i
 .rw[z3 a] at h;have e:(i+n).toNat=j:=O_ h;exact⟨by rw[pi zo a,e],zo,a,zo⟩
 rw[zD a] at h;cases h
theorem rE {xs:ξ a}{v:a} (h:AR xs i=ab v):∃j,seqIndex? i xs.length=ab j/\xs[j]?=ab v/\j<xs.length /\ -(xs.length:Int)<=i/\i<xs.length:=by
 unfold AR at h;cases e:D9 xs.length i with
 |none=>rw[e] at h;cases h
 |some j =>
 rw[e] at h;obtain⟨f,d,b,c⟩:=zL e;exact⟨j,f,h,d,b,c⟩
theorem cA {xs:ξ a}{j:Nat}{v:a} (h:xs[j]?=ab v):AR xs (j:Int)=ab v:=by
 have b:j<xs.length:=(IR.mp h).1;have e:D9 xs.length (j:Int)=ab j:=by unfold D9;rw[z3 zo,z3 zo];simp
 unfold AR;rw[e];exact h
theorem Fb (xs:ξ a) (v:a):AR (xs++[v]) (-1)=ab v:=by
 have b:(xs++[v]).length=xs.length+1:=Ap
 have e:D9 (xs++[v]).length (-1)=ab xs.length:=by unfold D9;rw[b,zD zC,z3 zo];congr 1;omega
 unfold AR;rw[e];show (xs++[v])[xs.length]?=ab v;simp
def zM (b:Expr):Prop:=∀o i,lS b ai o i=operate [o,i] (eW o i)
def E4 (X:Cx) (r:R2):Prop :=
 ∀(b a:Expr) (pins:ξ (ae × dP)) (s:aT) (σ:St) (H:Hp) (x y:V) (v u:av) (Q:VK),Inv X pins σ H s->z4 x v->z4 y u->r x y H Q ->
  lS a ai v u=operate [v,u] (eW v u)->ax (aI X.prog X.w) X.A (j2 b a v u) (EP X pins σ Q) X.xe s
def HL (X:Cx) (a:String) (r:V->ξ V->Hp->VK->Prop):Prop :=
 ∀(pins:ξ (ae × dP)) (s:aT) (σ:St) (H:Hp) (x:V) (xs:ξ V) (v:av) (us:ξ av) (Q:VK),Inv X pins σ H s->z4 x v->zS xs us->r x xs H Q ->
  ax (aI X.prog X.w) X.A (fT (.builtin a) (v::us)) (EP X pins σ Q) X.xe s
section
variable {X:Cx}{a b:Expr}
theorem E4.or (h:E4 X r) (h':E4 X c):E4 X (λx y H Q=>r x y H Q\/c x y H Q):=by
 intro b a pins s σ H x y v u Q I f e q d;rcases q with q | q
 .exact h b a pins s σ H x y v u Q I f e q d
 exact h' b a pins s σ H x y v u Q I f e q d
theorem Xh (f:E4 X r) (k:PE X a ta) (g:PE X b tb) (e:zM b):PE X (.Subscript a b u?) (OL r ta tb):=by intro pins s σ H Q I h;exact oQ (Sw k g I h λv u d x y l c j i q=>f a b pins d σ l x y v u Q c j i q (e _ _))
def Xi (K:a5):R2:=λx y H Q=>∃p xs i v,x=.ref p/\y=.int i/\BN K H p xs/\AR xs i=ab v/\Q v H
def Xj (K:a5):R2:=λx y H Q=>∃p xs i v,x=.ref p/\y=.int i/\A3 K H p xs/\AR xs i=ab v/\Q v H
def Xk:R2:=λx y H Q=>∃z i c,x=.str z/\y=.int i/\z.length<=am/\AR z.cps.toList i=ab c/\Q (.str ⟨#[c]⟩) H
theorem h!:E4 X (Xi X.K):=by
 intro g e pins s σ H x y v u Q I A n h m;obtain⟨p,xs,i,z,rfl,rfl,hq,B,q⟩:=h;cases A;obtain⟨t,rfl⟩:=n;obtain⟨f,r,pl,J⟩:=I.list hq;obtain⟨j,b,C,F,o,E⟩:=rE B;obtain⟨w,l,c⟩:=r.get C;have D:=r.length;have G:=kO;have a:EP X pins σ Q w s:=⟨z,H,I,c,q⟩;by_cases k:0<=i
 .have d:i.toNat=j:=by rw[sk k E] at b;exact O_ b
  exact item_listR pl.isList k zo (by rw[d];simpa using l) a m
 have d:(i+(f.toArray.size:Int)).toNat=j:=by rw[pi zo o] at b;rw[m_,<- D];exact O_ b
 exact kB (x:=w) pl.isList.typeIs slot_list_getitem.lookup
  (wpAny_getItem_list_neg (Q:=λr s'=>r=w/\EP X pins σ Q r s') pl.isList zo (by rw[m_] <;> omega) zo (by rw[d];simpa using l) ⟨rfl,a⟩) m
theorem l!:E4 X (Xj X.K):=by
 intro d a pins s σ H x y v u Q I A o h l;obtain⟨p,xs,i,z,rfl,rfl,hq,e,q⟩:=h;cases A;obtain⟨t,rfl⟩:=o;obtain⟨m,r,pl,D⟩:=I.tuple hq;obtain⟨j,n,k,C,E,F⟩:=rE e;obtain⟨w,f,b⟩:=r.get k;have g:=r.length;have B:=kO;have c:EP X pins σ Q w s:=⟨z,H,I,b,q⟩;exact kB (x:=w) pl.typeIs slot_tuple_getitem.lookup
  (getItem_tuple (j:=j) (Q:=λr s'=>r=w/\EP X pins σ Q r s') pl zo zo (by rw[m_,<- g];exact n) (by simpa using f) ⟨rfl,c⟩) l
theorem Tf:E4 X Xk:=by
 intro b a pins s σ H x y v u Q I m n h l;obtain⟨z,i,c,rfl,rfl,B,e,q⟩:=h;obtain⟨t,rfl⟩:=m;obtain⟨t',rfl⟩:=n;obtain⟨j,d,g,w,f,p⟩:=rE e;have o:z.cps.toList.length=z.length:=by simp [Str.length]
 rw[o] at d f p;have A:=kO;exact yT (tS s z t) slot_str_getitem.lookup (getItem_str (c:=c) (by
  have r:decide (i < -(2^63:Int))=ai:=q_ zo
  have k:decide (i ≥ 2^63)=ai:=q_ zo
  rw[r,k,og]) (by rw[d];simpa using g) ⟨.str ⟨#[c]⟩,H,I.tok _,⟨_,rfl⟩,q⟩) l
def UZ (K:a5):R2:=λx y H Q=>Xi K x y H Q\/Xj K x y H Q\/Xk x y H Q
theorem Tg:E4 X (UZ X.K):=h!.or (l!.or Tf)
theorem xP (a:ξ av) (n j:Nat) (u:av):a9 (·.setIfInBounds j u) { cls:=.type "list",data:=.seq a.toArray n}={ cls:=.type "list",data:=.seq (a.set j u).toArray n}:=by simp [a9]
theorem Inv.lst {σ:St}{H:Hp}{s:aT}{p:ae}{xs:ξ V} (I:Inv X pins σ H s) (h:H p=ab (.lst xs)):
  ∃(a:ξ av) (n:Nat),zS xs a/\s.heap.get? p=ab { cls:=.type "list",data:=.seq a.toArray n}/\xs.length<=am:=by
 obtain⟨z,a,n,r,e⟩:=I.hok p _ h;exact⟨a,n,r,e,z⟩
theorem Inv.lstUpd {σ:St}{a its':ξ av} (I:Inv X pins σ H s) (h:H p=ab (.lst xs)) (j:s.heap.get? p=ab { cls:=.type "list",data:=.seq a.toArray n}) (g:f { cls:=.type "list",data:=.seq a.toArray n}={ cls:=.type "list",data:=.seq its'.toArray d}) (r:zS c its') (i:c.length<=am) (t:Nat):
  Inv X pins σ (As H p (.lst c)) { s with heap:=s.heap.update p f,toks:=t}:=by
 have e:(s.heap.update p f).get? p=ab { cls:=.type "list",data:=.seq its'.toArray d}:=by rw[P6 f j (by rw[g] <;> rfl),g]
 refine I.write (x:=p) (e:=p) (by rw[h];trivial) (.inl rfl) (λb u k q=>(P3 _ _ (a6 k)).trans q) ⟨_,e⟩ ?_;exact⟨i,its',d,r,e⟩
def Xl:V->V->V->Hp->(Hp->Prop)->Prop:=λo i v H Q=>∃p xs k j,o=.ref p/\i=.int k/\H p=ab (.lst xs)/\D9 xs.length k=ab j/\Q (As H p (.lst (xs.set j v)))
theorem GL:L4 X Xl:=by
 intro pins s σ H o i v E C u Q I y x A h;obtain⟨p,xs,k,j,rfl,rfl,l,z,q⟩:=h;cases y;obtain⟨t,rfl⟩:=x;obtain⟨a,n,r,c,B⟩:=I.lst l;obtain⟨b,F,g,m⟩:=zL z;have e:=r.length;have D:=kO;have w:Inv X pins σ (As H p (.lst (xs.set j v))) { s with heap:=s.heap.update p (a9 (·.setIfInBounds j u))} :=
  I.lstUpd l c (xP a n j u) (r.set A j) (by rw[li];exact B) s.toks
 by_cases f:0<=k
 .have d:k.toNat=j:=by rw[sk f m] at b;exact O_ b
  exact PySem.W.ki_setAt c f zo (by rw[m_,<- e];exact m) (by rw[d];exact⟨_,w,q⟩)
 have d:(k+(a.toArray.size:Int)).toNat=j:=by rw[pi zo g] at b;rw[m_,<- e];exact O_ b
 exact PySem.W.ki_setBack c zo (by rw[m_,<- e];exact g) zo (by rw[d];exact⟨_,w,q⟩)
theorem rF (a b:ζ Int) (n:Nat):(eP a b af n).1=((HT.sIx n 0 a:Nat):Int)/\(eP a b af n).2.1=((HT.sIx n n b:Nat):Int)/\(eP a b af n).2.2=1:=by
 refine⟨?_,?_,rfl⟩
 .cases a with
  |none=>simp [eP,HT.sIx]
  |some i =>
  simp only[eP,HT.sIx,r4,show (1:Int)>0 by decide,if_true];by_cases h:i<0
  .simp only[h,if_true] <;> omega
  simp only[h,W_] <;> omega
 cases b with
 |none=>simp [eP,HT.sIx]
 |some i =>
 simp only[eP,HT.sIx,r4,show (1:Int)>0 by decide,if_true];by_cases h:i<0
 .simp only[h,if_true] <;> omega
 simp only[h,W_] <;> omega
theorem pU (a:ξ av) (b c:ζ Int):slicePick a.toArray b c af=((a.drop (HT.sIx a.length 0 b)).take (HT.sIx a.length a.length c - HT.sIx a.length 0 b)).toArray:=by obtain⟨f,e,d⟩:=rF b c a.toArray.size;unfold slicePick;rw[f,e,d];simp only[sliceRange_one,pick_run,m_] <;> rfl
def T' (K:a5):V->ζ Int->ζ Int->Hp->VK->Prop:=λx b c H Q=>∃a xs,x=.ref a/\BN K H a xs/\∀p,H p=af->Q (.ref p) (As H p (.lst (uB xs b c)))
theorem Zp:IT X (T' X.K):=by intro pins s σ H x v p n d e t Q I m j pl i h;obtain⟨a,xs,rfl,k,q⟩:=h;cases m;obtain⟨l,r,f,g⟩:=I.list k;have c:=r.length;refine⟨"list",_,slot_list_getitem.lookup,f.isList.typeIs,?_⟩;refine wpAny_getItem_list_slice f.isList j pl i .none Ap ?_ (by rw[m_] <;> omega);rw[pU,<- c];refine⟨.ref s.heap.objs.size,_,I.laid (t':=s.toks) (o:=.lst (uB xs d e)) (λb u q=>b_ _ q) (o_ _) ?_,rfl,q _ (I.hok.fresh (o_ _))⟩;exact⟨S_ (lL xs d e) g,_,0,(r.drop (HT.sIx xs.length 0 d)).take (HT.sIx xs.length xs.length e - HT.sIx xs.length 0 d),l_ _ rfl⟩
theorem q?:DC X (.builtin "len") (λxs H Q=>∃p b,xs=[.ref p]/\(BN X.K H p b\/A3 X.K H p b)/\Q (.int b.length) H):=by
 intro pins s σ H xs us Q I r h;obtain⟨p,b,rfl,hq,q⟩:=h;obtain⟨u,rfl,f⟩:=AU r;cases f;have g:=kO;rcases hq with hq | hq
 .obtain⟨d,c,pl,e⟩:=I.list hq;have a:=c.length;exact Calls.call_len_list pl.isList (by simp only[m_] <;> omega) ⟨.int b.length,H,I.tok _,⟨s.toks+1,by rw[m_,a]⟩,q⟩
 obtain⟨d,c,pl,e⟩:=I.tuple hq;have a:=c.length;exact len_tuple pl (by simp only[m_] <;> omega) ⟨.int b.length,H,I.tok _,⟨s.toks+1,by rw[m_,a]⟩,q⟩
theorem rG:DC X (.builtin "len") (λxs H Q=>∃z,xs=[.str z]/\z.length<=am/\Q (.int z.length) H):=by intro pins s σ H xs us Q I r h;obtain⟨z,rfl,b,q⟩:=h;obtain⟨u,rfl,t,rfl⟩:=AU r;have a:=kO;exact len_str zo ⟨.int z.length,H,I.tok _,⟨_,rfl⟩,q⟩
theorem DC.or {r b:ξ V->Hp->VK->Prop} (h:DC X f r) (h':DC X f b):DC X f (λxs H Q=>r xs H Q\/b xs H Q):=by
 intro pins s σ H xs us Q I a q;rcases q with q | q
 .exact h pins s σ H xs us Q I a q
 exact h' pins s σ H xs us Q I a q
theorem rH:DC X (.type "list") (λxs H Q=>∃p c,xs=[.ref p]/\(BN X.K H p c\/A3 X.K H p c)/\∀l,H l=af->Q (.ref l) (As H l (.lst c))):=by
 intro pins s σ H xs us Q I r h;obtain⟨p,c,rfl,hq,q⟩:=h;obtain⟨u,rfl,y⟩:=AU r;cases y;have j:∀(a:ξ av),zS c a->c.length<=am->∀(h':cn) (f:Nat),(∀b x,s.heap.get? b=ab x->h'.get? b=ab x) ->
   h'.get? s.heap.objs.size=ab { cls:=.type "list",dict:=af,data:=.seq a.toArray f,slots:=#[]}->EP X pins σ Q (.ref s.heap.objs.size) { s with heap:=h'}:=λa d g h' f i e =>
  ⟨.ref s.heap.objs.size,_,I.laid (t':=s.toks) i (o_ _) (show W2 X.prog X.w _ h' _ (.lst c) from ⟨g,a,f,d,e⟩),rfl,q _ (I.hok.fresh (o_ _))⟩
 rcases hq with hq | hq
 .obtain⟨a,d,pl,g⟩:=I.list hq;have k:=d.length;obtain⟨o,t,v,n,m⟩:=pl.isList;exact xv p (.inl rfl) t v m (λh' f i e=>j a d g h' f i e) (by simp only[m_] <;> omega)
 obtain⟨a,d,pl,g⟩:=I.tuple hq;have k:=d.length;obtain⟨o,t,v,n,m⟩:=pl;exact xv p (.inr rfl) t v m (λh' f i e=>j a d g h' f i e) (by simp only[m_] <;> omega)
theorem pW:DC X (.type "tuple") (λxs H Q=>∃p c,xs=[.ref p]/\((BN X.K H p c/\∀l,H l=af->Q (.ref l) (As H l (.tup c)))\/(A3 X.K H p c/\Q (.ref p) H))):=by
 intro pins s σ H xs us Q I r h;obtain⟨p,c,rfl,h⟩:=h;obtain⟨u,rfl,m⟩:=AU r;cases m;rcases h with ⟨hq,q⟩ | ⟨hq,q⟩
 .obtain⟨a,d,pl,f⟩:=I.list hq;have g:=d.length;refine call_tuple_list pl.isList (λh' k=>?_) (by simp only[m_] <;> omega);have i:Inv X pins σ H { s with heap:=h'}:=I.kept (t':=s.toks) k;have j:Inv X pins σ (As H h'.objs.size (.tup c)) { s with heap:=h'.push { cls:=.type "tuple",data:=.seq a.toArray}} :=
   i.laid (t':=s.toks) (λb o e=>b_ _ e) (o_ _) (show W2 X.prog X.w _ _ _ (.tup c) from ⟨f,a,d,GV.new _ _⟩)
  exact⟨.ref h'.objs.size,_,j,rfl,q _ (i.hok.fresh (o_ _))⟩
 obtain⟨a,d,pl,f⟩:=I.tuple hq;exact call_tuple_same pl ⟨.ref p,H,I,rfl,q⟩
def P5 (K:a5) (T:String) (x:V) (H:Hp):Prop:=match x with
 |.str _=>T="str"
 |.int _=>T="int"
 |.ref p=>(T="list"/\∃xs,BN K H p xs)\/(T="tuple"/\∃xs,A3 K H p xs) \/
   (T="dict"/\((∃kvs,H p=ab (.dK kvs))\/∃kvs,H p=ab (.dT kvs)))\/(T="set"/\∃S n,H p=ab (.set S n))
 |_=>False
theorem Fd {σ:St} (I:Inv X pins σ H s) (r:z4 x v) (h:P5 X.K T x H):
  s.TypeIs v T/\∀a,v=.ref a->∃m,s.heap.get? a=ab m/\m.dict=af:=by
 cases x with
 |str z=>obtain⟨t,rfl⟩:=r;cases (show T="str" from h);exact⟨tS s z t,λ_ e=>nomatch e⟩
 |int i=>obtain⟨t,rfl⟩:=r;cases (show T="int" from h);exact⟨tT s i t,λ_ e=>nomatch e⟩
 |ref p =>
  cases r;rcases h with ⟨rfl,xs,hq⟩ | ⟨rfl,xs,b⟩ | ⟨rfl,b⟩ | ⟨rfl,S,n,b⟩
  .obtain⟨f,_,pl,_⟩:=I.list hq;refine⟨pl.isList.typeIs,λa e=>?_⟩;cases e;obtain⟨o,n,e,c,g,_⟩:=pl;exact⟨o,e,g⟩
  .rcases b with b | ⟨o,f,n,b,k,g,_⟩
   .obtain⟨_,f,r,o,l,k,n,g,q⟩:=b.ok I.hok;refine⟨⟨o,l,k⟩,λa e=>?_⟩;cases e;exact⟨o,l,q⟩
   refine⟨⟨o,I.kIn p o b,k⟩,λa e=>?_⟩;cases e;exact⟨o,I.kIn _ o b,g⟩
  .have z:∃o,s.heap.get? p=ab o/\o.ExactDict:=by
    rcases b with ⟨kvs,b⟩ | ⟨kvs,b⟩
    .obtain⟨_,_,_,_,o,_,_,e,d,_⟩:=I.hok p _ b;exact⟨o,e,d⟩
    obtain⟨_,_,_,_,o,_,_,e,d,_⟩:=I.hok p _ b;exact⟨o,e,d⟩
   obtain⟨o,e,d⟩:=z;refine⟨⟨o,e,d.1⟩,λa j=>?_⟩;cases j;exact⟨o,e,d.2.1⟩
  obtain⟨o,_,_,_,e,d,_⟩:=I.hok p _ b;refine⟨⟨o,e,d.1⟩,λa j=>?_⟩;cases j;exact⟨o,e,d.2.1⟩
 |_=>exact df h
def ZN (K:a5) (T:String) (r:V->ξ V->Hp->VK->Prop) (b:TE):TE:=λσ H Q=>b σ H λx a=>P5 K T x a/\r x [] a Q
def j? (K:a5) (T:String) (r:V->ξ V->Hp->VK->Prop) (b:TE) (t:TA):TE:=λσ H Q=>b σ H λx a=>P5 K T x a/\t σ a λxs c=>r x xs c Q
variable {w? v?:gE}{T id:String}
theorem Th (i:o0 T) (c:Slot T name id) (d:y3 (.builtin id)=ce (.type "method_descriptor")) (m:HL X id r) (g:PE X o to)
  (a:da o name X.env (bt o X.env)=bt o X.env:=by rfl) (b:(w?.endLine==v?.line)=ag:=by rfl):PE X (.Call (.Attribute o name w?) [] [] v?) (ZN X.K T r to):=by
 intro pins s σ H Q I h;refine kn a b (AE (g pins s σ H _ I h) λv l ⟨x,k,f,e,q,p⟩=>?_);obtain⟨n,j⟩:=Fd f e q;exact⟨T,id,i,c,d,n,j,SI rfl (nz (m pins l σ k x [] v [] Q f e .nil p))⟩
theorem Xm (D:o0 T) (f:Slot T name id) (g:y3 (.builtin id)=ce (.type "method_descriptor")) (F:HL X id r) (p:PE X o to) (m:PA X (e::es) t)
  (b:da o name X.env (bt o X.env)=bt o X.env:=by rfl)
  (d:((cf v? (aE (e::es) X.env)).all (λx=>!x.1)&&(pV v? (i5 [] X.env)).all (λx=>x.1.isSome)
   && decide ((e::es).length+([]:ξ qA).length+(if ([]:ξ qA).isEmpty then 0 else 1)<30))=ag:=by rfl)
  (c:(w?.endLine==v?.line)=ag:=by rfl) (q:aE (e::es) X.env=(ai,bt e X.env)::aE es X.env:=by rfl) (a:(cf v? (aE es X.env)).any (·.1)=ai:=by rfl) :
  PE X (.Call (.Attribute o name w?) (e::es) [] v?) (j? X.K T r to t):=by
 intro pins s σ H Q I h;refine wpAny_Call_method_late b d c rfl (AE (p pins s σ H _ I h) λv u ⟨x,z,j,k,C,G⟩=>?_);obtain⟨w,E⟩:=Fd j k C;refine⟨T,id,D,f,g,w,E,?_⟩;have i:=m v? pins u σ z _ j G;rw[q] at i |-;refine SI (by show (ai||(cf v? (aE es X.env)).any (·.1))=ai;rw[a] <;> rfl) (mI ?_);exact AE i λus B ⟨vs,n,y,A,l⟩=>F pins B σ n x vs v us Q y k A l
end
def RU (X:Cx) (a:String) (r:V->ξ V->Hp->VK->Prop):Prop :=
 ∀(pins:ξ (ae × dP)) (s:aT) (σ:St) (H:Hp) (x:V) (xs:ξ V) (v:av) (us:ξ av) (Q:VK),Inv X pins σ H s->z4 x v->zS xs us->r x xs H Q ->
  ax (aI X.prog X.w) X.A (fT (.builtin a) (v::us)) (EP X pins σ Q) X.xe s
theorem zS.one (r:zS [x] us):∃u,us=[u]/\z4 x u:=AU r
theorem zS.zero:∀{us:ξ av},zS [] us->us=[]
 |_,.nil=>rfl
theorem zS.dropLast (h:zS xs us):zS xs.dropLast us.dropLast:=by
 induction h with
 |nil=>exact .nil
 |cons r t a =>
 cases t with
 |nil=>exact .nil
 |cons q t'=>exact .cons r a
theorem zS.reverse (h:zS xs us):zS xs.reverse us.reverse:=by
 induction h with
 |nil=>exact .nil
 |cons r t a=>rw[ja,ja];exact zS.append a (.cons r .nil)
theorem zS.rep (h:zS xs us):∀k:Nat,zS (a3 k xs).flatten (a3 k us).flatten
 |0=>.nil
 |k+1=>by
  rw[HV,HV,LB,LB]
  exact zS.append h (zS.rep h k)
theorem xQ {c:Type}(l:ξ c):l.eraseIdx (l.length - 1)=l.dropLast:=by
 induction l with
 |nil=>rfl
 |cons a r d =>
 cases r with
 |nil=>rfl
 |cons b r =>
  have e:(a::b::r).length - 1=((b::r).length - 1)+1:=by
   have g:(a::b::r).length=r.length+2:=rfl
   have f:(b::r).length=r.length+1:=rfl
   omega
  rw[e,List.eraseIdx_cons_succ,d]
  all_goals rfl
theorem DA (b:ξ av):∀(k:Nat) (a:ξ av),
  w_ (λd c=>d++c) a.toArray (a3 k b.toArray)=(a++(a3 k b).flatten).toArray
 |0,a=>by simp
 |k+1,a=>by
  have e:a.toArray++b.toArray=(a++b).toArray:=Ap
  have f:(a++b)++(a3 k b).flatten=a++(a3 (k+1) b).flatten:=by
   rw[HV,LB,N4]
  rw[<- f,<- DA b k (a++b),<- e,HV,f8]
section
variable {X:Cx}{pins:ξ (ae × dP)}{σ:St}
theorem Inv.lset {a its':ξ av} (I:Inv X pins σ H s) (i:H l=ab (.lst xs)) (e:s.heap.get? l=ab { cls:=.type "list",data:=.seq a.toArray n}) (d:f a.toArray=its'.toArray) (g:zS ys its') (c:ys.length<=am):
  Inv X pins σ (As H l (.lst ys)) { s with heap:=s.heap.update l (a9 f),toks:=t'}:=by
 have q:=PySem.IsL.update e f;rw[d] at q;refine I.write (x:=l) (e:=l) (by rw[i];exact trivial) (.inl rfl) (λj u h b=>(P3 s.heap (a9 f) (a6 h)).trans b) ⟨_,q⟩ ?_;exact⟨c,its',_,g,q⟩
theorem Inv.lnew (I:Inv X pins σ H s) (b:zS ys a) (c:ys.length<=am):
  Inv X pins σ (As H s.heap.objs.size (.lst ys)) { s with heap:=s.heap.push { cls:=.type "list",data:=.seq a.toArray},toks:=t'} :=
 I.laid (λ_ _ q=>b_ _ q) (o_ _) ⟨c,a,0,b,l_ _ rfl⟩
theorem Inv.fresh (I:Inv X pins σ H s):H s.heap.objs.size=af:=I.hok.fresh (o_ _)
theorem Inv.lstM (I:Inv X pins σ H s) (b:H l=ab (.lst xs)):xs.length<=am/\∃(a:ξ av) (n:Nat),zS xs a/\xs.length=a.length/\s.heap.get? l=ab { cls:=.type "list",data:=.seq a.toArray n}:=by obtain⟨z,a,n,r,e⟩:=I.hok l _ b;exact⟨z,a,n,r,r.length,e⟩
theorem uC (h:n<=am):d6 n=ai:=by unfold d6;exact q_ zo
def KZ:V->ξ V->Hp->VK->Prop:=λx vs H Q=>∃l xs y,x=.ref l/\vs=[y]/\H l=ab (.lst xs)/\xs.length<am/\Q .non (As H l (.lst (xs++[y])))
theorem CG:RU X "list.append" KZ:=by intro pins s σ H x vs v us Q I d f h;obtain⟨l,xs,y,rfl,rfl,b,g,q⟩:=h;cases d;obtain⟨u,rfl,c⟩:=f.one;obtain⟨z,a,n,r,i,e⟩:=I.lstM b;refine LA o1 ⟨_,e,rfl⟩ nL (mE _ _) (list_append l a.toArray n u (by rw[m_];omega)) ⟨e,?_⟩;refine⟨.non,_,I.lset (its':=a++[u]) b e Ap (r.append (.cons c .nil)) ?_,rfl,q⟩;rw[d_,z_];omega
def K1:V->ξ V->Hp->VK->Prop:=λx vs H Q=>∃l b xs a,x=.ref l/\vs=[.ref b]/\H l=ab (.lst xs)/\H b=ab (.lst a)/\xs.length+a.length<=am/\Q .non (As H l (.lst (xs++a)))
theorem CJ:RU X "list.extend" K1:=by
 intro pins s σ H x vs v us Q I p t h;obtain⟨l,b,xs,w,rfl,rfl,f,o,y,q⟩:=h;cases p;obtain⟨u,rfl,i⟩:=t.one;cases i;obtain⟨z,c,n,r,B,e⟩:=I.lstM f;obtain⟨A,a,j,k,g,m⟩:=I.lstM o;have hsz:c.toArray.size+a.toArray.size<=am:=by rw[m_,m_];omega
 have d:¬(!c.toArray.isEmpty&&d6 (c.toArray.size+a.toArray.size))=ag:=by rw[uC hsz,mM];exact M_
 refine LA F.slot_list_extend ⟨_,e,rfl⟩ F.entry_list_extend (F.args_list_extend_2 _ _)
  (AutoSeq1.list_extend_list_list_0 l c.toArray n b a.toArray j d (by rw[m_];omega) zo) ⟨e,m,?_⟩
 refine⟨.non,_,I.lset (its':=c++a) f e Ap (r.append k) ?_,rfl,q⟩;rw[d_];omega
def J':V->ξ V->Hp->VK->Prop:=λx vs H Q=>∃l xs y,x=.ref l/\vs=[]/\H l=ab (.lst xs)/\xs[xs.length - 1]?=ab y/\Q y (As H l (.lst xs.dropLast))
theorem Ti:RU X "list.pop" J':=by
 intro pins s σ H x vs v us Q I j k h;obtain⟨l,xs,y,rfl,rfl,d,i,q⟩:=h;cases j;have c:=k.zero;subst c;obtain⟨z,a,n,r,m,e⟩:=I.lstM d;obtain⟨u,f,g⟩:=r.get i;have b:a.toArray[a.toArray.size - 1]?=ab u:=by show a.toArray[a.length - 1]?=ab u;rw[<- MD,<- m];exact f
 refine LA F.slot_list_pop ⟨_,e,rfl⟩ F.entry_list_pop (F.args_list_pop_1 _) (MeetsSeq.list_pop_last l a.toArray n u b (by rw[m_];omega)) ⟨e,?_⟩;refine⟨y,_,I.lset (its':=a.dropLast) d e ?_ r.dropLast ?_,g,q⟩
 .show a.toArray.eraseIdxIfInBounds (a.toArray.size - 1)=a.dropLast.toArray;rw[m_,List.eraseIdxIfInBounds_toArray,xQ]
 rw[fz];omega
def Fe:V->ξ V->Hp->VK->Prop:=λx vs H Q=>∃l xs,x=.ref l/\vs=[]/\H l=ab (.lst xs)/\Q .non (As H l (.lst xs.reverse))
theorem xR:RU X "list.reverse" Fe:=by intro pins s σ H x vs v us Q I d f h;obtain⟨l,xs,rfl,rfl,c,q⟩:=h;cases d;have b:=f.zero;subst b;obtain⟨z,a,n,r,g,e⟩:=I.lstM c;refine LA F.slot_list_reverse ⟨_,e,rfl⟩ F.entry_list_reverse (F.args_list_reverse_1 _) (AutoSeq1.list_reverse_list_0 l a.toArray n (by rw[m_];omega)) ⟨e,?_⟩;refine⟨.non,_,I.lset (its':=a.reverse) c e Ap r.reverse ?_,rfl,q⟩;rw[IG];omega
def b?:R2:=λx y H Q=>∃l b xs a,x=.ref l/\y=.ref b/\H l=ab (.lst xs)/\H b=ab (.lst a)/\xs.length+a.length<=am/\∀p,H p=af->Q (.ref p) (As H p (.lst (xs++a)))
theorem J!:AX X (ca .Add) b?:=by
 intro pins s σ H x y v u Q I k m h;obtain⟨l,b,xs,p,rfl,rfl,j,i,t,q⟩:=h;cases k;cases m;obtain⟨z,c,n,r,B,e⟩:=I.lstM j;obtain⟨A,a,w,f,d,g⟩:=I.lstM i;refine PySem.P.add_list e g ?_ (by rw[m_,m_];omega);have o:c.toArray++a.toArray=(c++a).toArray:=Ap
 rw[o];exact⟨.ref _,_,I.lnew (t':=s.toks) (r.append f) (by rw[d_];omega),rfl,q _ I.fresh⟩
def X!:R2:=λx y H Q=>∃l k xs,x=.ref l/\y=.int k/\H l=ab (.lst xs) /\ -(2^63)<=k/\k<2^63/\xs.length*k.toNat<=am /\
 ∀p,H p=af->Q (.ref p) (As H p (.lst (a3 k.toNat xs).flatten))
theorem IL {a:Type}(xs:ξ a) (k:Nat):(a3 k xs).flatten.length=k*xs.length:=by
 induction k with
 |zero=>simp
 |succ k b=>rw[HV,LB,d_,b,Nat.succ_mul,qk]
theorem Tj:AX X (ca .Mult) X!:=by
 intro pins s σ H x y v u Q I G E h;obtain⟨l,k,xs,rfl,rfl,C,D,B,p,q⟩:=h;cases G;obtain⟨t,rfl⟩:=E;obtain⟨z,b,n,r,w,e⟩:=I.lstM C;have f:b.toArray.size*k.toNat<=am:=by rw[m_,<- w];exact p
 have i:¬b.toArray.size*k.toNat>(2^63 - 1) / 8:=by
  have:(am:Nat)<=(2^63 - 1) / 8:=by decide
  omega
 have g:¬(!Builtin.List.listFitsIndex k)=ag:=by rw[fitsIndex_both D B];exact M_
 have c:¬d6 (b.toArray.size*k.toNat)=ag:=by rw[uC f];exact M_
 have d:w_ (λo j=>o++j) #[] (a3 (if b.toArray.isEmpty=ag then 0 else k.toNat) b.toArray)=(a3 k.toNat b).flatten.toArray:=by
  have A:∀m:Nat,w_ (λo j=>o++j) #[] (a3 m b.toArray)=(a3 m b).flatten.toArray:=λm=>by have:=DA b m [];rw[SV] at this;exact this
  rw[A];cases b with
  |nil=>simp
  |cons a J=>rw[zD Ap]
 refine wpAny_binaryOp_repeat_ref (T:="list") (U:="int") zC ⟨_,e,rfl⟩ (λs'=>tT s' k t) noFill_list_mul F.fills_int_mul s0 repeat_list F.slot_int_index.lookup
  (LA s0 (tT s k t) F.entry_int_rmul (F.args_int_rmul_2 _ _) (int___rmul___int_list k t l b.toArray n)
   ⟨e,rfl,⟨_,e,rfl⟩,LA F.slot_list_mul ⟨_,e,rfl⟩ F.entry_list_mul (F.args_list_mul_2 _ _) (AutoListH.list___mul___list_int_3 l b.toArray n k t g i c) ⟨e,?_⟩⟩)
 rw[d];exact⟨.ref _,_,I.lnew (t':=s.toks) (r.rep k.toNat) (by rw[IL,Nat.mul_comm];exact p),rfl,q _ I.fresh⟩
set_option maxRecDepth 100000 in
end
section
variable {κ:Type}[DecidableEq κ]
noncomputable def gC (kvs:ξ (κ × V)) (k:κ):ζ V:=(kvs.find? λa=>decide (a.1=k)).map (·.2)
noncomputable def A0 (kvs:ξ (κ × V)) (k:κ) (v:V):ξ (κ × V) :=
 if (kvs.any λa=>decide (a.1=k))=ag then kvs.map (λa=>if a.1=k then (a.1,v) else a) else kvs++[(k,v)]
theorem gD {k:κ} (e:p.1=k):gC (p::r) k=ab p.2:=by simp [gC,F5,e]
theorem gF {k:κ} (e:¬p.1=k):gC (p::r) k=gC r k:=by simp [gC,F5,e]
theorem uD (k:κ):∀kvs:ξ (κ × V),(kvs.any λa=>decide (a.1=k))=(gC kvs k).isSome
 |[]=>rfl
 |p::r=>by
  rw[M0]
  by_cases e:p.1=k
  ·
   simp only[gD e,p_ e,rb,io]
  ·
   rw[gF e,q_ e,ON];exact uD k r
theorem gM (kvs:ξ (κ × V)) (k:κ) (v:V):(A0 kvs k v).length<=kvs.length+1:=by
 unfold A0;split
 .rw[g_];omega
 rw[d_,n_,EW];omega
theorem DD.isSome_eq (r:DD o u):o.isSome=u.isSome:=by
 cases o with
 |none=>cases u with
  |none=>rfl
  |some _=>exact (show False from r).elim
 |some _=>cases u with
  |none=>exact (show False from r).elim
  |some _=>rfl
theorem KV.val (r:KV kvs vs) (k:κ):DD (gC kvs k) (mS vs k):=by
 unfold KV at r;induction r with
 |nil=>exact cx
 |@cons p q ps a h t f =>
 obtain⟨d,g⟩:=h;by_cases e:p.1=k
 .have c:q.1=k:=d.symm.trans e;have b:mS (q::a) k=ab q.2:=by simp [mS,F5,c]
  rw[gD e,b];exact g
 have c:¬q.1=k:=λz=>e (d.trans z);have b:mS (q::a) k=mS a k:=by simp [mS,F5,c]
 rw[gF e,b];exact f
theorem KV.any (r:KV kvs vs) (k:κ):(kvs.any λa=>decide (a.1=k))=vs.any λa=>decide (a.1=k):=by
 unfold KV at r;induction r with
 |nil=>rfl
 |cons h t b=>rw[M0,M0,b,h.1]
theorem KV.repl (r:KV kvs vs) (k:κ) (f:z4 y u):
  KV (kvs.map λa=>if a.1=k then (a.1,y) else a) (vs.map λa=>if a.1=k then (a.1,u) else a):=by
 unfold KV at r |-;induction r with
 |nil=>exact .nil
 |@cons p q ps g h t c =>
 rw[I_,I_];refine .cons ?_ c;obtain⟨b,d⟩:=h;by_cases e:p.1=k
 .rw[z3 e,z3 (b.symm.trans e)];exact⟨b,f⟩
 rw[zD e,zD (λz=>e (b.trans z))];exact⟨b,d⟩
theorem KV.put (r:KV kvs vs) (k:κ) (a:z4 y u):KV (A0 kvs k y) (stored vs k u):=by
 unfold A0 stored;rw[r.any k];by_cases e:(vs.any λb=>decide (b.1=k))=ag
 .rw[z3 e,z3 e];exact r.repl k a
 rw[zD e,zD e];exact KF r ⟨rfl,a⟩
theorem KV.length {vs:ξ (κ × av)} (r:KV kvs vs):kvs.length=vs.length:=EO r
end
theorem nF (r:z4 (kV k) u):(bc P w).is k u=ag:=by
 cases k with
 |inl i=>obtain⟨t,e⟩:=(show ∃t,u=c9 i t from r);subst e;exact uh P w i t
 |inr x=>obtain⟨t,e⟩:=(show ∃t,u=nr x t from r);subst e;exact um P w x t
theorem kZ:∀{ks:ξ AG}{us:ξ av},zS (ks.map kV) us->ItemsAre (bc P w) ks us
 |[],_,r=>by rw[IA] at r;cases r;exact .nil
 |k::ks,_,r=>by
  rw[I_] at r
  cases r with
  |cons h t=>exact .cons (nF h) (kZ t)
abbrev KT (H:Hp):ξ (ξ AG × V)->ξ (ξ AG × ae × av)->Prop:=dQ λp q=>p.1=q.1/\H q.2.1=ab (.tup (p.1.map kV))/\z4 p.2 q.2.2
theorem KT.val (r:KT H kvs xs) (k:ξ AG):DD (gC kvs k) ((lc xs k).map (·.2)):=by
 induction r with
 |nil=>exact cx
 |@cons p q ps a h t f =>
 obtain⟨d,_,g⟩:=h;by_cases e:p.1=k
 .have c:q.1=k:=d.symm.trans e;have b:lc (q::a) k=ab q.2:=by simp [lc,F5,c]
  rw[gD e,b];exact g
 have c:¬q.1=k:=λz=>e (d.trans z);have b:lc (q::a) k=lc a k:=by simp [lc,F5,c]
 rw[gF e,b];exact f
theorem KT.repl (r:KT H kvs xs) (k:ξ AG) (g:z4 y u):
  KT H (kvs.map λb=>if b.1=k then (b.1,y) else b) (xs.map (zd k u)):=by
 induction r with
 |nil=>exact .nil
 |@cons p q ps i h t f =>
 rw[I_,I_];refine .cons ?_ f;obtain⟨a,c,d⟩:=h;unfold zd;by_cases e:p.1=k
 .rw[z3 e,z3 (a.symm.trans e)];exact⟨a,c,g⟩
 rw[zD e,zD (λz=>e (a.trans z))];exact⟨a,c,d⟩
theorem KT.put (r:KT H kvs xs) (k:ξ AG) (c:H b=ab (.tup (k.map kV))) (a:z4 y u):
  KT H (A0 kvs k y) (gL xs k b u):=by
 have e:(kvs.any λd=>decide (d.1=k))=(lc xs k).isSome:=by rw[uD,(r.val k).isSome_eq,IJ]
 unfold A0 gL;rw[e];by_cases q:(lc xs k).isSome=ag
 .rw[z3 q,z3 q];exact r.repl k a
 rw[zD q,zD q];exact KF r ⟨rfl,c,a⟩
theorem KT.keeps (r:KT H kvs xs) (a:∀b ys,H b=ab (.tup ys)->H' b=ab (.tup ys)):KT H' kvs xs :=
 Paired.mapP r λ_ _ z=>⟨z.1,a _ _ z.2.1,z.2.2⟩
section
variable {P:bb}{w:bg}
theorem Px (b:A8 P w H h) (e:Rd H a u):W2 P w H h a u:=e.ok b
theorem nG (b:A8 P w H h) (e:Rd H a (.dK kvs)):kvs.length<=am/\(a==cw)=ai/\∃vs,KV kvs vs/\h.DictOf (bc P w) a vs :=
 show W2 P w H h a (.dK kvs) from Px b e
theorem zN (b:A8 P w H h) (e:H a=ab (.dK kvs)):kvs.length<=am/\(a==cw)=ai/\∃vs,KV kvs vs/\h.DictOf (bc P w) a vs:=nG b (.inl e)
theorem nH (g:A8 P w H h) (e:H a=ab (.tup (ks.map kV))):(ej (bc P w)).is h ks a:=by obtain⟨_,b,r,o,f,d,n,c,_⟩:=(show W2 P w H h a (.tup (ks.map kV)) from g a _ e);exact⟨o,b.toArray,n,f,d,c,by simpa using kZ r⟩
theorem qG (d:A8 P w H h) (e:Rd H a (.dT kvs)):kvs.length<=am/\(a==cw)=ai /\
  ∃xs,KT H kvs xs/\h.DictOfH (ej (bc P w)) a xs:=by
 obtain⟨z,y,xs,r,o,k,ep,n,j,f,i,s⟩:=(show W2 P w H h a (.dT kvs) from Px d e);refine⟨z,y,xs,r,o,k,ep,n,j,f,i,λx b=>?_,s⟩;have c:∀{l:ξ (ξ AG × V)} {m:ξ (ξ AG × ae × av)},KT H l m->∀x∈m,(ej (bc P w)).is h x.1 x.2.1:=by
  intro l m q;induction q with
  |nil=>intro x b;exact nomatch b
  |@cons p q ps u hq t g =>
  intro x b;rcases v_.mp b with e | b
  .subst e;exact nH d (by rw[<- hq.1];exact hq.2.1)
  exact g x b
 exact c r x b
theorem Xn (b:A8 P w H h) (e:H a=ab (.dT kvs)):kvs.length<=am/\(a==cw)=ai /\
  ∃xs,KT H kvs xs/\h.DictOfH (ej (bc P w)) a xs:=qG b (.inl e)
end
def EA (H:Hp) (a:ae) (y:V) (r:ζ V):Prop :=
 (∃kvs k,Rd H a (.dK kvs)/\y=kV k/\r=gC kvs k)\/∃kvs k b,Rd H a (.dT kvs)/\y=.ref b/\H b=ab (.tup (k.map kV))/\r=gC kvs k
def MY (H:Hp) (a:ae) (y v:V) (H':Hp):Prop :=
 (∃kvs k,H a=ab (.dK kvs)/\y=kV k/\kvs.length<am/\H'=As H a (.dK (A0 kvs k v))) \/
 ∃kvs k b,H a=ab (.dT kvs)/\y=.ref b/\H b=ab (.tup (k.map kV))/\kvs.length<am/\H'=As H a (.dT (A0 kvs k v))
theorem EA.k {k:AG} (e:H a=ab (.dK kvs)):EA H a (kV k) (gC kvs k):=.inl ⟨kvs,k,.inl e,rfl,rfl⟩
theorem EA.t {k:ξ AG} (e:H a=ab (.dT kvs)) (c:H b=ab (.tup (k.map kV))):EA H a (.ref b) (gC kvs k):=.inr ⟨kvs,k,b,.inl e,rfl,c,rfl⟩
theorem MY.k {k:AG} (e:H a=ab (.dK kvs)) (b:kvs.length<am):MY H a (kV k) v (As H a (.dK (A0 kvs k v))):=.inl ⟨kvs,k,e,rfl,b,rfl⟩
theorem MY.t {k:ξ AG} (e:H a=ab (.dT kvs)) (c:H b=ab (.tup (k.map kV))) (d:kvs.length<am):
  MY H a (.ref b) v (As H a (.dT (A0 kvs k v))):=.inr ⟨kvs,k,b,e,rfl,c,d,rfl⟩
section
variable {X:Cx}{pins:ξ (ae × dP)}{σ:St}
theorem Inv.big (I:Inv X pins σ H s):cw<s.heap.objs.size:=by have h:bo<s.heap.objs.size:=(I.mod.glob.keeps I.bk).lt;exact CM zC h
theorem CK (t:A.units+1<br) (I:Inv X pins σ H s) (g:EA H a y (ab v)) (q:z4 y u) (h:∀f s',Inv X pins σ H s'->z4 v f->Q f s'):
  ax (aI X.prog X.w) A (eW (.ref a) u) Q E s:=by
 rcases g with ⟨kvs,k,e,j,l⟩ | ⟨kvs,k,b,e,j,B,l⟩
 .subst j;obtain⟨z,r,vs,d,m⟩:=nG I.hok e;obtain⟨f,n,c⟩:=DD.some_of (v:=v) (o:=mS vs k) (by rw[l];exact d.val k);exact wpAny_getItem_of (nF q) m.mapOf n (h f _ (I.tok _) c)
 subst j;cases (show u=aS b from q);obtain⟨z,r,xs,d,m⟩:=qG I.hok e;obtain⟨f,n,c⟩:=DD.some_of (v:=v) (o:=(lc xs k).map (·.2)) (by rw[l];exact d.val k);obtain⟨p,x,i⟩:=Pv.mp n;refine wpAny_getItem_heap (RH t) (nH I.hok B) m x ?_;rw[i];exact h f _ (I.tok _) c
theorem w! (m:A.units+1<br) (I:Inv X pins σ H s) (g:EA H a y o) (j:z4 y u) (h:∀s',Inv X pins σ H s'->Q (.bool o.isSome) s'):
  ax (aI X.prog X.w) A (ba .In u (.ref a)) Q E s:=by
 rcases g with ⟨kvs,k,e,d,l⟩ | ⟨kvs,k,b,e,d,n,l⟩
 .subst d;obtain⟨z,i,vs,c,f⟩:=nG I.hok e;refine wpAny_in_of (nF j) i f.mapOf ?_;rw[<- (c.val k).isSome_eq,<- l];exact h _ (I.tok _)
 subst d;cases (show u=aS b from j);obtain⟨z,i,xs,c,f⟩:=qG I.hok e;refine nN (RH m) (nH I.hok n) i f ?_;have q:=(c.val k).isSome_eq;rw[IJ] at q;rw[<- q,<- l];exact h _ (I.tok _)
theorem K3 (m:A.units+1<br) (I:Inv X pins σ H s) (g:EA H a y o) (j:z4 y u) (h:∀s',Inv X pins σ H s'->Q (.bool (!o.isSome)) s'):
  ax (aI X.prog X.w) A (ba .NotIn u (.ref a)) Q E s:=by
 rcases g with ⟨kvs,k,e,d,l⟩ | ⟨kvs,k,b,e,d,n,l⟩
 .subst d;obtain⟨z,i,vs,c,f⟩:=nG I.hok e;refine wpAny_notIn_of (nF j) i f.mapOf ?_;rw[<- (c.val k).isSome_eq,<- l];exact h _ (I.tok _)
 subst d;cases (show u=aS b from j);obtain⟨z,i,xs,c,f⟩:=qG I.hok e;refine ki (RH m) (nH I.hok n) i f ?_;have q:=(c.val k).isSome_eq;rw[IJ] at q;rw[<- q,<- l];exact h _ (I.tok _)
theorem jf (I:Inv X pins σ H s) (mu:Me (H a)) (g:db a s.heap h') (f:∃q,h'.get? a=ab q) (c:W2 X.prog X.w (As H a d) h' a d):
  Inv X pins σ (As H a d) { s with heap:=h',toks:=t'} :=
 I.write (x:=a) (e:=a) mu (.inl rfl) (λb q h z=>(g.2 b h).trans z) f c
theorem xT (z:kvs.length<=am) (c:(a==cw)=ai) (b:KV kvs vs) (d:h'.DictOf (bc P w) a vs):
  W2 P w H' h' a (.dK kvs):=⟨z,c,vs,b,d⟩
theorem CN (G:A.units+1<br) (I:Inv X pins σ H s) (g:MY H a y v H') (x:z4 y u) (C:z4 v r) (h:∀s',Inv X pins σ H' s'->Q () s'):
  ax (aI X.prog X.w) A (tm (.ref a) u r) Q E s:=by
 rcases g with ⟨kvs,k,e,n,l,o⟩ | ⟨kvs,k,b,e,n,D,l,o⟩
 .subst n o;obtain⟨z,j,vs,d,m⟩:=zN I.hok e;have p:vs.length<=am:=by rw[<- d.length];exact z
  have t:(A0 kvs k v).length<=am:=by have:=gM kvs k v;omega
  refine wpAny_setItem_pairs (hsz:=p) (nF x) m λh' f i=>h _ ?_;have L:∃q,h'.get? a=ab q:=let ⟨q,_,_,hq,_⟩:=f;⟨q,hq⟩;exact jf I (by rw[e];exact cx) i L (xT t j (d.put k C) f)
 subst n o;cases (show u=aS b from x);obtain⟨z,j,xs,d,m⟩:=Xn I.hok e;have p:xs.length<=am:=by rw[<- EO d];exact z
 have t:(A0 kvs k v).length<=am:=by have:=gM kvs k v;omega
 refine oj (hsz:=p) (RH G) (nH I.hok D) m λh' f i=>h _ ?_;obtain⟨q,K,ep,hq,M,F,J,_,N⟩:=f;refine jf I (by rw[e];exact cx) i ⟨q,hq⟩ ⟨t,j,_,(d.put k D C).keeps λc O B=>?_,q,K,ep,hq,M,F,J,N⟩;rw[aL (WD B e (λz=>nomatch z))];exact B
end
def K4 (i:Expr):Prop:=∀b a,lS i ai b a=operate [b,a] (eW b a)
theorem K5 (q:ow (.type T) "__getitem__"=ce (ab (.builtin n))) (p:K4 a) (h:ax (aI prog w) A (bt b env) (λo e=>ax (aI prog w) A (bt a env) (λi c=>c.TypeIs o T/\ax (aI prog w) A (eW o i) Q E c) E e) E s):
  ax (aI prog w) A (bt (.Subscript b a l) env) Q E s:=by
 refine oQ (CA h (λo e j=>CA j (λi c d=>?_) λ_ _ x=>x) λ_ _ x=>x);obtain⟨m,d⟩:=d;unfold j2;refine a_ ?_;rw[getitemInPython_of_ne m.not_modules];refine a_ (LS m q ?_);have g:ax (aI prog w) A (lS a ai o i) (λr f=>ax (aI prog w) A (letTemporaryGo b o r >>= λ_=>ce r) Q E f) E c:=by rw[p o i];exact wpAny_operating (CA d (λr f k=>a_ (wpAny_letTemporaryGo (i_ k))) λ_ _ x=>x)
 first
  |exact i_ (a_ g)
  |exact a_ (i_ (a_ g))
  |exact a_ g
theorem uE {σ:St} (I:Inv X pins σ H s) (g:EA H a y o):s.TypeIs (.ref a) "dict":=by
 rcases g with ⟨kvs,k,e,_,_⟩ | ⟨kvs,k,b,e,_,_,_⟩
 .obtain⟨_,_,vs,_,c⟩:=nG I.hok e;exact c.typeIs
 obtain⟨_,_,xs,_,c⟩:=qG I.hok e;exact c.typeIs
def Xo (c e:TE):TE:=λσ H Q=>c σ H λx d=>e σ d λy b=>∃a v,x=.ref a/\EA b a y (ab v)/\Q v b
def m? (e c:TE):TE:=λσ H Q=>e σ H λy d=>c σ d λx b=>∃a o,x=.ref a/\EA b a y o/\Q (.bl o.isSome) b
def K6 (e c:TE):TE:=λσ H Q=>e σ H λy d=>c σ d λx b=>∃a o,x=.ref a/\EA b a y o/\Q (.bl (!o.isSome)) b
def Xp (d g e:TE):TS:=λD σ H=>e σ H λv c=>d σ c λx f=>g σ f λy H3=>∃a b,x=.ref a/\MY H3 a y v b/\D.nx σ b
theorem zO (l:X.A.units+1<br) (m:PE X o td) (e:PE X i ty) (p:K4 i):PE X (.Subscript o i u?) (Xo td ty):=by intro pins s σ H Q I h;refine K5 PySem.F.slot_dict_getitem.lookup p (AE (m pins s σ H _ I h) λu q ⟨x,t,w,r,z⟩=>AE (e pins q σ t _ w z) λC D ⟨y,k,c,f,a,v,j,g,d⟩=>?_);subst j;obtain rfl:u=aS a:=r;exact⟨uE c g,CK l c g f λB E n b=>⟨v,k,n,b,d⟩⟩
theorem Tn (c:X.A.units+1<br) (p:PE X i ty) (d:PE X o td):PC X .In i o (m? ty td):=by intro pins s σ H Q I h;refine AE (p pins s σ H _ I h) λB m ⟨y,j,k,r,b⟩=>AE (d pins m σ j _ k b) λu z ⟨x,v,e,q,a,n,t,g,l⟩=>?_;subst t;obtain rfl:u=aS a:=q;exact w! c e g r λw f=>⟨.bl n.isSome,v,f,rfl,l⟩
theorem qH (c:X.A.units+1<br) (p:PE X i ty) (d:PE X o td):PC X .NotIn i o (K6 ty td):=by intro pins s σ H Q I h;refine AE (p pins s σ H _ I h) λB m ⟨y,j,k,r,b⟩=>AE (d pins m σ j _ k b) λu z ⟨x,v,e,q,a,n,t,g,l⟩=>?_;subst t;obtain rfl:u=aS a:=q;exact K3 c e g r λw f=>⟨.bl (!n.isSome),v,f,rfl,l⟩
theorem K7 (l:X.A.units+1<br) (m:PE X o td) (e:PE X i ty) (c:PE X value tv) (p:eh value (ab (.Subscript o i x?)) u?.line X.env=ce ai) :
  PS X (.Assign [.Subscript o i x?] value u?) (Xp td ty tv):=by
 intro pins s σ H D I h;refine kA (AE (c pins s σ H _ I h) λr q ⟨v,z,C,E,J⟩=>AE (m pins q σ z _ C J) λu B ⟨x,k,w,t,d⟩=>AE (e pins B σ k _ w d) λK M ⟨y,H3,n,f,a,G,j,g,b⟩=>?_) p;subst j;obtain rfl:u=aS a:=t;exact CN l n g f E λL F=>⟨σ,G,F,b⟩
theorem uF (h:cn) (a:cw<h.objs.size):W2 P w H (h.push { cls:=.type "dict",data:=.dict #[]}) h.objs.size (.dK []) :=
 ⟨B8 _,EB.mpr (a6 (H_ a)),[],.nil,Heap.DictOf.new h⟩
def Tp:TE:=λ_ H Q=>∀p,H p=af->Q (.ref p) (As H p (.dK []))
theorem uG:PE X (.Dict [] [] u?) Tp:=λpins s σ H Q I h =>
 ri ⟨.ref s.heap.objs.size,_,I.laid (a:=s.heap.objs.size) (o:=.dK []) (t':=s.toks) (λ_ _ q=>b_ _ q) (o_ _) (uF s.heap I.big),rfl,h _ (I.hok.fresh (o_ _))⟩
noncomputable def xU:ξ (TE × TE)->St->Hp->(ξ (V × V)->Hp->Prop)->Prop
 |[],_,H,Q=>Q [] H
 | (tk,tv)::r,σ,H,Q=>tk σ H λx a=>tv σ a λy b=>xU r σ b λps H3=>Q ((x,y)::ps) H3
abbrev VV:ξ (V × V)->ξ (av × av)->Prop:=dQ λp q=>z4 p.1 q.1/\z4 p.2 q.2
def Sb (X:Cx) (c:gE) (b:ξ (ζ Expr)) (a:ξ Expr) (d:ξ (TE × TE)):Prop :=
 ∀(pins:ξ (ae × dP)) (s:aT) (σ:St) (H:Hp) (Q:ξ (V × V)->Hp->Prop),Inv X pins σ H s->xU d σ H Q ->
  ax (aI X.prog X.w) X.A (evalPairs (pairTrees b a X.env c)) (λvs s'=>∃ps H',Inv X pins σ H' s'/\VV ps vs/\Q ps H') X.xe s
theorem zP:Sb X a [] [] []:=λpins s σ H Q I h=>oy ⟨[],H,I,.nil,h⟩
theorem uH (w:PE X k tk) (f:PE X v d) (g:Sb X b ks vs a):
  Sb X b (ab k::ks) (v::vs) ((tk,d)::a):=λpins s σ H Q I h =>
 ny (AE (w pins s σ H _ I h) λu n ⟨x,q,t,o,z⟩=>AE (f pins n σ q _ t z) λA r ⟨y,l,p,j,i⟩ =>
  AE (g pins r σ l _ p i) λws B ⟨ps,H3,m,c,e⟩=>⟨(x,y)::ps,H3,m,.cons ⟨o,j⟩ c,e⟩)
noncomputable def jB (kvs a:ξ (AG × V)):ξ (AG × V):=a.foldl (λb c=>A0 b c.1 c.2) kvs
theorem KV.merge:∀{a:ξ (AG × V)}{b:ξ (AG × av)}{kvs:ξ (AG × V)}{vs:ξ (AG × av)},KV a b->KV kvs vs->KV (jB kvs a) (merged vs b):=by
 intro a b kvs vs r;unfold KV at r;induction r generalizing kvs vs with
 |nil=>intro q;exact q
 |@cons p q ps f h t c =>
 intro d;have e:KV (A0 kvs p.1 p.2) (stored vs q.1 q.2):=by have:=d.put p.1 h.2;rw[<- h.1];exact this
 exact c e
theorem jy:∀(a kvs:ξ (AG × V)),(jB kvs a).length<=kvs.length+a.length
 |[],kvs=>by show kvs.length<=kvs.length+0;omega
 |p::r,kvs=>by
  have b:=jy r (A0 kvs p.1 p.2)
  have c:=gM kvs p.1 p.2
  show (jB (A0 kvs p.1 p.2) r).length<=_
  rw[n_];omega
theorem nJ:∀{kvs:ξ (AG × V)}{ws:ξ (av × av)},VV (kvs.map λe=>(kV e.1,e.2)) ws->∃d,Carries (bc P w) ws d/\KV kvs d
 |[],_,r=>by rw[IA] at r;cases r;exact⟨[],cx,.nil⟩
 |p::kvs,_,r=>by
  rw[I_] at r
  cases r with
  |@cons a b j g h t =>
   obtain⟨d,c,q⟩:=nJ (P:=P) (w:=w) t
   obtain⟨i,f⟩:=b
   exact⟨(p.1,f)::d,⟨nF h.1,rfl,c⟩,.cons ⟨rfl,h.2⟩ q⟩
def Xq (a:ξ (TE × TE)):TE:=λσ H Q=>∀p,H p=af->xU a σ (As H p (.dK [])) λps c=>c p=ab (.dK [])/\∃kvs:ξ (AG × V),ps=kvs.map (λb=>(kV b.1,b.2))/\kvs.length<=15/\Q (.ref p) (As c p (.dK (jB [] kvs)))
theorem zQ (h:Sb X i b d g) (f:b.all (·.isSome)=ag) (G:b.length=d.length) (n:b≠[]) (k:b.length<=15):PE X (.Dict b d i) (Xq g):=by
 intro pins s σ H Q I q;have t:=I.hok.fresh (o_ s.heap.objs.size);have C:=I.laid (a:=s.heap.objs.size) (o:=.dK []) (h':=s.heap.push { cls:=.type "dict",data:=.dict #[]}) (t':=s.toks) (λ_ _ q=>b_ _ q) (o_ _) (uF s.heap I.big);refine wpAny_Dict_walk (knd:=bc X.prog X.w) f G n k (AE (h pins _ σ _ _ C (q _ t)) λws L ⟨ps,K,m,l,e,kvs,ep,J,r⟩=>?_);subst ep;obtain⟨p,c,F⟩:=nJ (P:=X.prog) (w:=X.w) l;obtain⟨z,y,A,u,B⟩:=zN m.hok e;cases u;refine⟨p,c,B,λh' j v=>⟨.ref s.heap.objs.size,_,?_,rfl,r⟩⟩;have E:(jB [] kvs).length<=am:=by have x:=jy kvs [];rw[EW] at x;rw[E8];omega
 have D:∃q,h'.get? s.heap.objs.size=ab q:=let ⟨q,_,_,hq,_⟩:=j;⟨q,hq⟩;exact jf m (by rw[e];exact cx) v D (xT E y (F.merge .nil) j)
structure M2 (X:Cx) (o:Expr) (m:aw) (apos:gE) (e f:Expr) (cpos:gE):Prop where
 base:da o m X.env (bt o X.env)=bt o X.env
 few:((cf cpos (aE [e,f] X.env)).all (λx=>!x.1)&&(pV cpos (i5 [] X.env)).all (λx=>x.1.isSome)
  && decide (([e,f]:List Expr).length+([]:List qA).length+(if ([]:List qA).isEmpty then 0 else 1)<30))=ag
 line:(apos.endLine==cpos.line)=ag
 trees:cf cpos (aE [e,f] X.env)=[(ai,bt e X.env),(ai,bt f X.env)]
def X2 (H:Hp) (a:ae):Prop:=(∃kvs,Rd H a (.dK kvs))\/∃kvs,Rd H a (.dT kvs)
theorem Ff {σ:St} (I:Inv X pins σ H s) (d:X2 H a):
  s.TypeIs (.ref a) "dict"/\(∀b,aS a=.ref b->∃c,s.heap.get? b=ab c/\c.dict=af)/\(a==cw)=ai:=by
 rcases d with ⟨kvs,e⟩ | ⟨kvs,e⟩
 .obtain⟨_,i,vs,_,f⟩:=nG I.hok e;refine⟨f.typeIs,λb q=>?_,i⟩;cases q;obtain⟨c,_,_,h,g,_⟩:=f;exact⟨c,h,g.2.1⟩
 obtain⟨_,i,xs,_,f⟩:=qG I.hok e;refine⟨f.typeIs,λb q=>?_,i⟩;cases q;obtain⟨c,_,_,h,g,_⟩:=f;exact⟨c,h,g.2.1⟩
end L2
namespace Att
open PySem PySem.W PySem.Calls PyProof.Rows
theorem my:∀(ns:ξ Int) (vs:ξ av),WellAll P h vs (ns.map WData.int)->cS vs ns:=by
 intro ns;induction ns with
 |nil=>intro vs w;rw[IA] at w;cases w;exact .nil
 |cons n ns c =>
 intro vs w;rw[I_] at w;cases w with
 |cons a b =>
 cases a;exact .cons _ _ (c _ b)
theorem CP {l:OpenLaw} (p:l.most=ab n) (c:l.row.toRowW.claim.pre args=ag) (j:WellAll P h b args):
  ∃a vs ns,b=[aS a]/\args=[WData.list (ns.map WData.int)]/\h.get? a=ab { cls:=.type "list",data:=.seq vs.toArray}/\cS vs ns/\ns.length<=n:=by
 have k:WShape.hasAll [] args [.list .int]=ag:=(pre_splitW c).1;have m:l.pre.holds [] { args:=args}=ag:=(pre_splitW c).2;obtain⟨d,r,rfl,u,t⟩:=hasAllW_cons k;obtain rfl:=hasAllW_nil t;obtain⟨xs,rfl,o⟩:=hasW_list u;obtain⟨ns,rfl⟩:=items_int o;have e:ns.length<=n:=by
  unfold OpenLaw.pre at m;have g:(WTm.not (.lt (.lit (.int (n:Int))) (.len (.arg 0)))).holds [] { args:=[.list (ns.map .int)]}=ag:=by have g:=(holds_andW m).1;rw[p] at g;exact g
  have i:=condW_of g (w_not (w_lt w_lit (w_len_list (w_arg rfl))));rw[g_] at i;refine Nat.le_of_not_lt λq=>?_;have v:(n:Int)<((ns.length:Nat):Int):=zo
  first
   | (rw[p_ v] at i;exact AL i zC)
   | (simp at i;omega)
 cases j with
 |cons w x =>
 cases x;cases w with
 |list s f=>exact⟨_,_,ns,rfl,rfl,s,my ns _ f,e⟩
theorem CQ (l:OpenLaw) (args:ξ WData):l.row.toRowW.claim.post args (.bool ag) args=ag :=
 postW_of (r:=l.row.toRowW) (X:=(ag==ag))
  (show WShape.has [] (.bool ag) .bool=ag by first | rfl | decide | simp [WShape.has,WShape.arms,WShape.armsAll])
  (show (WTm.eq .res (.lit (.bool ag))).value [] { args:=args,res:=ab (.bool ag),after:=args}=ab (.bool (ag==ag)) from w_eq_bool (w_res rfl) w_lit) rfl
theorem agj {l:OpenLaw} (H:l.most=ab n) (y:d.params.defaults=[]) (k:∀(w:bg) (c b:aT) (mg v:aw->ζ av) (j:ae) (o:dP) (s p e:av) (a:ae) (vs:ξ av) (ns:ξ Int),
   Ground q loose [] XP w c mg v b.heap->YP w b.heap ->
   b.heap.get? j=ab o->o.data=.func (docDef d.name d.params d.body d.scope s p e)->b.heap.CodeRec p d.name->mg d.name=ab (.ref j) ->
   b.heap.get? a=ab { cls:=.type "list",data:=.seq vs.toArray}->cS vs ns->ns.length<=n->b.gens=#[] ->
   eJ (aI l.prog w) nk (.call (.ref j) ⟨[.ref a],[]⟩) (λr s'=>r=.ok (.ret (.bool ag))/\OldK b.heap s'.heap/\s'.os=b.os/\jv s'.gens) b):
  WalkO q loose XP YP l.row.toRowW d [] (λf vs=>wP f vs):=by
 intro w c b mg v G Y j o s p e dV kV I K t z u E A B O i C F x L;obtain rfl:dV=.none:=Dflts.none z y;obtain rfl:kV=.none:=Dflts.noKw z;obtain⟨a,vs,ns,rfl,rfl,m,g,h⟩:=CP H i x;refine enter_call (gN (k w c b mg v j o s p e a vs ns G Y I (fd_plain K) t u m g h E) λr s' hq=>?_);obtain⟨rfl,M,D,J⟩:=hq;exact⟨.inl ⟨.bool ag,.bool ag,[],rfl,λ_=>rfl,.bool ag,CQ l _,λ_=>⟨jp,λ_ N=>(nomatch N)⟩⟩,M,D,J⟩
noncomputable def Ta (h : cn) (L d : ae) : ξ (ae × dP):=(ay h.objs.size).filterMap λa => if a = L \/ a = d then af else (h.get? a).map λo => (a,o)
end Att
namespace L2
theorem qI:∀{vs:ξ av}{ns:ξ Int},cS vs ns->zS (ns.map V.int) vs
 |_,_,.nil=>.nil
 |_,_,.cons n t h=>.cons ⟨t,rfl⟩ (qI h)
noncomputable abbrev KOf {K:a5}{h:cn}(_:K.In h):a5:=K
end L2
namespace L2
abbrev KM:MG:=λ_ _ _ _ _ _=>False
abbrev E0:XK:=λ_ _ _=>False
theorem Fg:kY KM X E0:=λ_ _ _ _ _ _ _ h=>h.elim
structure G1 (K:a5) (x qual:aw) (st:ez) (f:ae) (fd:d4):Prop where
 ex:∃(oc:av) (od:Option ae) (kV doc pm:av) (an:Option ae) (cdv ct:av) (osl:Array (Option av)),
  fd=oB x qual (dw st) (cP st) (aB st) .none kV doc pm an cdv ct/\K.lookup f=ab ⟨oc,od,.func fd,osl⟩/\rX K cdv qual=ag
 kp:kD K (.ref f)=ag
section
variable {P:bb}{w:bg}{K:a5}
theorem G1.ok {st:ez} (F:G1 K x qual st f i) (S:gV N ps (aB st)) (d:∀vs H Q E,sp vs H Q E->vs.length=ps.length) (c:∀(b:av) (A:dn) (a:ξ yA) (s:aT) (H:Hp) (vs:ξ V) (Q:VK) (E:XK),xr k (A.deeper (hZ qual (aB st) s.heap.objs.size f b))->sp vs H Q E ->
   ∃t,Da (ux KM P w K mg base N qual (aB st) f b A a s H E).nox (cP st) t/\t { nx:=λ_ H'=>Q .non H',rt:=Q} (start N vs) H):HM P w K mg base KM (k+1) f i ps sp:=by
 obtain⟨u,o,kV,l,r,v,b,p,n,rfl,j,e⟩:=F.ex;refine Pu j e S d λA a s H vs Q E m g=>?_;obtain⟨t,h,q⟩:=c b A a s H vs Q E m g;exact⟨t,h.nox,q⟩
theorem G1.binds {st:ez} (F:G1 K x qual st f g) (h:∀(kV b d:av) (e:ζ ae) (a c:av) (us:ξ av),us.length=ps.length->c8 (oB x qual (dw st) (cP st) (aB st) .none kV b d e a c) ⟨us,[]⟩=ce (ps.zip us)):A5 K g ps []:=by obtain⟨m,k,kV,b,d,e,a,c,j,rfl,l,i⟩:=F.ex;exact .all (h kV b d e a c)
theorem Fi {st:ez}{kV b g a e:av} (l:K.lookup f=ab ⟨j,i,.func (oB x qual (dw st) (cP st) (aB st) .none kV b g h a e),d⟩) (c:rX K a qual=ag) (k:kD K (.ref f)=ag):G1 K x qual st f (oB x qual (dw st) (cP st) (aB st) .none kV b g h a e):=⟨⟨j,i,kV,b,g,h,a,e,d,rfl,l,c⟩,k⟩
variable {X:Cx}
theorem pv (i:Nat) {b:gE} (d:X.N[i]?=ab x:=by rfl) (c:Os X.env.scope x:=by first | exact im rfl | exact e5 (im rfl) | exact e5 (e5 rfl)) (e:(x==("__debug__":aw))=ai:=by decide) (a:(x==("__classdict__":aw))=ai:=by decide):PE X (.Name x b) (WF i):=RD d c e a
end
theorem l? {A B:Prop}(h:B):if ai=ag then A else B:=by rw[zD M_];exact h
theorem U! {A B:Prop}(h:A):if ag=ag then A else B:=by rw[z3 rfl];exact h
section
variable {κ:Type}[DecidableEq κ]
theorem jR:∀{l:ξ κ}{k:κ},l.Nodup->¬k∈l->(l++[k]).Nodup
 |[],k,_,_=>by simp
 |a::r,k,h,hk=>by
  obtain⟨b,c⟩:=EZ.mp h
  show (a::(r++[k])).Nodup
  refine EZ.mpr ⟨λm=>?_,jR c λm=>hk (v_.mpr (e5 m))⟩
  rcases x_.mp m with q | q
  ·
   exact b q
  ·
   exact hk (v_.mpr (im (j_.mp q).symm))
end
theorem lM {F:aw × er->aw × er} (b:∀p,(F p).1=p.1):∀{a:ξ (aw × er)},a.lookup x=ab k->(a.map F).lookup x=ab (F (x,k)).2
 |[],h=>by cases h
 | (m,q)::r,h=>by
  have d:=b (m,q)
  rw[I_,show F (m,q)=(m,(F (m,q)).2) from fw d rfl]
  by_cases e:x=m
  ·
   subst e
   rw[List.lookup_cons_self] at h |-
   cases h
   rfl
  ·
   have c:(x==m)=ai:=EB.mpr e
   simp only[d3,c] at h |-
   exact lM b h
theorem jt {env:yA}{a:ξ (aw × er)} (h:a.lookup x=ab .free):
  (a.map λ(n,k)=>if (k==dy&&env.scope.kind==.function&&env.kindOf n==ab .cell) then (n,eD) else (n,k)).lookup x=ab .cell \/
  (a.map λ(n,k)=>if (k==dy&&env.scope.kind==.function&&env.kindOf n==ab .cell) then (n,eD) else (n,k)).lookup x=ab .free:=by
 rw[lM (F:=λ(n,k)=>if (k==dy&&env.scope.kind==.function&&env.kindOf n==ab .cell) then (n,eD) else (n,k)) (λp=>by dsimp only;split <;> rfl) h];dsimp only;split
 .exact .inl rfl
 exact .inr rfl
theorem jC (h:∀y∈scope.names,y.2=.free->∃c,env.cells.lookup y.1=ab c):
  ∃d,vS scope env=ce d/\(∀x c,d.lookup x=ab c->env.cells.lookup x=ab c)/\∀y∈scope.names,y.2=.free->∃c,d.lookup y.1=ab c:=by
 have key:∀(b:ξ (aw × er)) (g:ξ (aw × ae)),(∀y∈b,y.2=.free->∃c,env.cells.lookup y.1=ab c)->(∀x c,g.lookup x=ab c->env.cells.lookup x=ab c) ->
   ∃d:ξ (aw × ae),(forIn b g (λ(x:aw × er) (r:ξ (aw × ae))=>(do
    if x.2==.free then do
     let a <- yy env x.1
     ce (cv ((x.1,a)::r))
    else ce (cv r):Sem (ForInStep (ξ (aw × ae))))):Sem (ξ (aw × ae)))=ce d/\(∀x c,d.lookup x=ab c->env.cells.lookup x=ab c) /\
    (∀x c,g.lookup x=ab c->∃s,d.lookup x=ab s)/\∀y∈b,y.2=.free->∃c,d.lookup y.1=ab c:=by
  intro b
  induction b with
  |nil=>intro g _ u;exact⟨g,rfl,u,λx c e=>⟨c,e⟩,λy f=>nomatch f⟩
  |cons y r z =>
   intro g v u
   obtain⟨n,k⟩:=y
   by_cases w:k=.free
   ·
    subst w
    obtain⟨c,A⟩:=v (n,.free) A_ rfl
    have i:yy env n=ce c:=by unfold yy;rw[A]
    obtain⟨d,e,p,o,l⟩:=z ((n,c)::g) (λy f=>v y (E_ _ f)) (λx s q=>by
     simp only[F1] at q
     cases j:x==n with
     |true=>rw[j] at q;cases q;rw[eq_of_beq j];exact A
     |false=>rw[j] at q;exact u x s q)
    refine⟨d,?_,p,λx s q=>?_,λy f t=>?_⟩
    ·
     rw[HC]
     show ((if (dy==dy)=ag then (yy env n >>= λa=>ce (cv ((n,a)::g))) else ce (cv g)) >>= _)=_
     rw[i]
     exact e
    ·
     cases j:x==n with
     |true=>exact o x c (by simp only[F1,j])
     |false=>exact o x s (by simp only[F1,j];exact q)
    ·
     rcases v_.mp f with rfl | f
     ·
      exact o n c (by simp [F1])
     ·
      exact l y f t
   ·
    obtain⟨d,e,p,o,l⟩:=z g (λy f=>v y (E_ _ f)) u
    have B:(k==dy)=ai:=by simpa using w
    refine⟨d,?_,p,o,λy f t=>?_⟩
    ·
     rw[HC]
     show ((if (k==dy)=ag then (yy env n >>= λa=>ce (cv ((n,a)::g))) else ce (cv g)) >>= _)=_
     rw[B]
     exact e
    ·
     rcases v_.mp f with rfl | f
     ·
      exact AL t w
     ·
      exact l y f t
 obtain⟨d,e,p,_,l⟩:=key scope.names [] h (λx c q=>by simp at q);refine⟨d,?_,p,l⟩;unfold vS;exact U_ (λm=>m >>= λr=>ce r) e
noncomputable def cG (X:Cx) (N':ξ aw) (scope:Scope) (b:ξ (aw × ae)) (pins:ξ (ae × dP)) (s:aT) (H:Hp) (C:ae) (a:ξ ae):Cx where
 prog:=X.prog
 w:=X.w
 K:=X.K
 mg:=X.mg
 base:=X.base
 A:=X.A
 N:=N'
 s₀:=s
 H₀:=H
 env:=compEnvC scope b C X.env
 outer:=X.stack
 stack:=X.stack
 ex:=a
 fn:=λx=>scope.names.lookup x==ab .cell
 calm:=X.calm
 pn:=X.pn++pins
 xe:=λ_ _=>False
def NA (X:Cx) (a:ξ Expr) (t:TT):Prop :=
 ∀(pins:ξ (ae × dP)) (s:aT) (σ:St) (H:Hp) (Q:Bool->Hp->Prop),Inv X pins σ H s->t σ H Q ->
  ax (aI X.prog X.w) X.A (forIn a ag λc r=>if r=ag then do let b <- isTrue c X.env (bt c X.env);ce (cv b) else ce (cv r)) (TP X pins σ Q) X.xe s
def o?:TT:=λ_ H Q=>Q ag H
theorem K8:NA X [] o?:=λ_ _ _ H _ I h=>wpAny_tests_nil ⟨H,I,h⟩
theorem K9 (h:PT X c t):NA X [c] t:=λpins s σ H Q I hq=>wpAny_tests_one (h pins s σ H Q I hq)
theorem rJ (I:Nat->aT->Prop) (E:∀n s,I n s->ax (aI prog w) A (fI it) (λr b=>match r with | .none=>R (.ok .next) b | .some v=>ax (aI prog w) A (fR a it v) (λ_ e=>ax (aI prog w) A (ia a env v) (λ_ g=>ax (aI prog w) A (forIn u ag λc r=>if r=ag then do let D <- isTrue c env (bt c env);ce (cv D) else ce (cv r)) (λD d=>if D=ag then ax (aI prog w) A (bt t env) (λx l=>ax (aI prog w) A (fT (.builtin "list.append") [q,x]) (λ_ k=>∃m,m<n/\I m k) (λ_ _=>False) l) (λ_ _=>False) d else ∃m,m<n/\I m d) (λ_ _=>False) g) (λ_ _=>False) e) (λ_ _=>False) b) (λ_ _=>False) s) (n:Nat) (h:I n s):eJ (aI prog w) A (.compLoop (.ListComp t [⟨a,i,u,0⟩] scope F) 0 it q env) R s:=by
 refine codeAny_loop rfl I (λj o G=>?_) n h;show ax _ A ((compTurn (.ListComp t [⟨a,i,u,0⟩] scope F) 0 it q env).onRaise (λx=>do noteFrame x env;theTreesLotGoes x)) _ _ o;refine wpAny_noted ?_;rw[compTurn_list];refine a_ (jI (a_ (CA (E j o G) (λr b f=>?_) λ_ _ h'=>h'.elim)));cases r with
 |none=>exact i_ f
 |some v =>
 refine a_ (CA f (λ_ e y=>?_) λ_ _ h'=>h'.elim);refine a_ (CA y (λ_ g z=>a_ (CA z (λD d p=>?_) λ_ _ h'=>h'.elim)) λ_ _ h'=>h'.elim);cases D with
 |false=>exact (i_ (And.intro rfl p))
 |true =>
 exact a_ (a_ (CA p (λx l B=>a_ (CA B (λ_ k C=>i_ (i_ ⟨rfl,C⟩)) λ_ _ h'=>h'.elim)) λ_ _ h'=>h'.elim))
def zR (J:It) (g:TG) (tt:TT) (te:TE) (h:ξ V->Hp->Prop) (c:St) (e:Hp):Prop :=
 ∃W:Nat->Nat->ξ V->St->Hp->Prop,(∃m,W 0 m [] c e)/\∀i m d σ H,W i m d σ H ->
  (J.stop i H/\d.length<=am/\h d H) \/
  (J.go i H/\∀x H',J.yld i H x H'->g x σ H' λa k=>tt a k λb H3=>if b=ag then te a H3 λy j=>d.length<am/\∃f,f<m/\W (i+1) f (d++[y]) a j else ∃f,f<m/\W (i+1) f d a H3)
noncomputable def pX (nt:Nat) (cap:ξ Nat) (σ:St):St:=a3 nt af++cap.map λj=>(σ[j]?).getD af
structure Lo (X:Cx) (N':List aw) (nt:Nat) (cap:List Nat) (scope:Scope):Prop where
 kind:scope.kind=.function
 cells:∀y∈scope.names,y.2=.cell->scope.names.lookup y.1=ab .cell
 names:∀x∈scope.names,x.2=.local->scope.names.lookup x.1=ab .local
 free:∀y∈scope.names,y.2=.free->X.env.kindOf y.1=ab .cell\/X.env.kindOf y.1=ab .free
 len:N'.length=nt+cap.length
 caps:∀(j:Nat) (x:aw),N'[nt+j]?=ab x->∃i,cap[j]?=ab i/\X.N[i]?=ab x/\scope.names.lookup x=ab .free
theorem mz (e:s.heap.get? l=ab { cls:=.type "list",data:=.seq a.toArray n}) (f:a.length<am) (h:∀h' n',h'.get? l=ab { cls:=.type "list",data:=.seq (a++[u]).toArray n'}->(∀b o,b≠l->s.heap.get? b=ab o->h'.get? b=ab o)->Q .none { s with heap:=h'}):
  ax (aI P w) A (fT (.builtin "list.append") [.ref l,u]) Q E s:=by
 refine LA o1 ⟨_,e,rfl⟩ nL (mE _ _) (list_append l a.toArray n u (by rw[m_];omega)) ⟨e,?_⟩;have q:=PySem.IsL.update e (·.push u);rw[List.push_toArray] at q;exact h _ _ q (λb o d c=>(P3 s.heap _ (a6 d)).trans c)
theorem cH:∀(a:ξ (aw × er)) (n:Nat) (b:ξ (aw × ae)),bm n a b=bm n a []++b
 |[],_,_=>rfl
 | (x,k)::r,n,b=>by
  unfold bm
  split
  ·
   rw[cH r (n+1) ((x,n)::b),cH r (n+1) [(x,n)],N4]
   rfl
  ·
   exact cH r n b
theorem fj {a:Type}(x:aw):∀(l m:ξ (aw × a)),(l++m).lookup x=(l.lookup x).or (m.lookup x)
 |[],_=>rfl
 | (y,v)::r,m=>by
  rw[Q1,F1,F1,fj x r m]
  cases x==y <;> rfl
theorem iC (h:(bm n a b).lookup x=ab c):(bm n a []).lookup x=ab c\/((bm n a []).lookup x=af/\b.lookup x=ab c):=by
 rw[cH,fj] at h;cases e:(bm n a []).lookup x with
 |some d=>rw[e] at h;exact .inl h
 |none=>rw[e] at h;exact .inr ⟨rfl,h⟩
theorem jD:∀{a:ξ (aw × er)}{n:Nat}{b:ξ (aw × ae)},(x,c)∈bm n a b->(x,eD)∈a\/(x,c)∈b
 |[],_,_,h=>.inr h
 | (y,k)::r,n,b,h=>by
  unfold bm at h
  split at h
  ·
   rename_i d
   rcases jD h with q | q
   ·
    exact .inl (E_ _ q)
   ·
    rcases v_.mp q with q | q
    ·
     cases q
     have:k=.cell:=by simpa using d
     subst this
     exact .inl A_
    ·
     exact .inr q
  ·
   rcases jD h with q | q
   ·
    exact .inl (E_ _ q)
   ·
    exact .inr q
theorem La (e:Q (newEnv scope s.heap.objs.size b (bm (s.heap.objs.size+1) scope.names a) qual af .none (ab env) h9) { s with heap:=nh (s.heap.push { cls:=.type "dict",data:=.dict #[]}) scope.names}):
  ax M A (l7 scope b a [] qual af .none (ab env)) Q E s:=by
 simp only[l7,io,if_true];refine a_ (wpAny_alloc ?_);refine a_ (wpAny_layCells _ (λname kind d=>by cases c:kind==eD <;> simp [c]) _ _ _ _ ?_);rw[show ({ s with heap:=s.heap.push { cls:=.type "dict",data:=.dict #[]}}:aT).heap.objs.size=s.heap.objs.size+1 from JI ..];refine a_ ?_;rw[MM];exact i_ (i_ e)
theorem Fj {σ:St}{T:ξ ae}{C:ae} (S:Lo X N' nt cap scope) (I:Inv X pins σ H s) (O:∀x c,A.lookup x=ab c->X.env.cells.lookup x=ab c) (D:∀y∈scope.names,y.2=.free->∃c,A.lookup y.1=ab c) (hf:∀b∈T,m7 X pins H b) (Q:∀b∈T,b<s.heap.objs.size) (t:s.heap.objs.size<C) (hn:h'.Ns C λ_=>af) (G:∀b o,s.heap.get? b=ab o->h'.get? b=ab o) (hp:∀p∈pl,h'.get? p.1=ab p.2/\s.heap.objs.size=p.1/\∀v,p.2.data≠.cell v) (w:CellsOk h' (C+1) (bm (C+1) scope.names [])):
  Inv (cG X N' scope (bm (C+1) scope.names A) pins s H C T) pl (pX nt cap σ) H { s with heap:=h',toks:=tk}:=by
 have g:∀x c,(bm (C+1) scope.names A).lookup x=ab c->(C+1<=c/\(bm (C+1) scope.names []).lookup x=ab c)\/X.env.cells.lookup x=ab c:=λx c e=>by
  rcases iC e with q | q
  .exact .inl ⟨(w.empty x c (mem_of_lookup q)).2,q⟩
  exact .inr (O x c q.2)
 have K:∀x c,X.env.cells.lookup x=ab c->c<s.heap.objs.size:=λx c e=>by obtain⟨v,q⟩:=I.cell x c e;exact q.lt
 have hok:(cG X N' scope (bm (C+1) scope.names A) pins s H C T).Ok:=by
  refine⟨I.ok.mod,S.kind,I.ok.glob,I.ok.blt,D0 t,λx y c e1 h=>?_,λx hx=>?_,λx c z e=>?_,I.ok.hd,I.ok.frames,.inl rfl,λb r=>?_,I.bs,S_ I.ok.bsz I.sz,λb o e r=>?_,λb r z=>?_,I.stack,I.stkFree⟩
  .rcases g x c e1 with ⟨U,p1⟩ | U
   .rcases g y c h with ⟨J,p2⟩ | J
    .exact name_of_addr w.apart (mem_of_lookup p1) (mem_of_lookup p2)
    exact AL (R_ (IU (CM (K y c J) t)) U) (CU _)
   rcases g y c h with ⟨J,p2⟩ | J
   .exact AL (R_ (IU (CM (K x c U) t)) J) (CU _)
   exact I.ok.inj x y c U J
  .have W:(xS scope X.env).names.lookup x=ab .cell\/(xS scope X.env).names.lookup x=ab .free:=hx;have hm:∃k,(x,k)∈(xS scope X.env).names/\(k=.cell\/k=.free):=by
    rcases W with z | z
    .exact⟨_,mem_of_lookup z,.inl rfl⟩
    exact⟨_,mem_of_lookup z,.inr rfl⟩
   obtain⟨k,hm,G⟩:=hm;obtain⟨⟨n,R⟩,L,e⟩:=t_.mp hm;have B:(if (R==dy&&X.env.scope.kind==.function&&X.env.kindOf n==ab .cell)=ag then (n,eD) else (n,R))=(x,k):=e;by_cases E:R=.free
   .subst E;have en:n=x:=by split at B <;> exact U_ Prod.fst B
    subst en;obtain⟨c,ec⟩:=D (n,.free) L rfl;show ∃c,(bm (C+1) scope.names A).lookup n=ab c;rw[cH,fj,ec];cases (bm (C+1) scope.names []).lookup n with
    |none=>exact⟨c,rfl⟩
    |some d=>exact⟨d,rfl⟩
   have r:(R==dy)=ai:=by simpa using E
   rw[r] at B;simp only[LZ,u_,W_] at B;cases B;rcases G with rfl | rfl
   .obtain⟨c,ec⟩:=jQ (n:=C+1) (S.cells _ L rfl);refine⟨c,?_⟩;show (bm (C+1) scope.names A).lookup _=ab c;rw[cH,fj,ec];rfl
   exact AL rfl E
  .have z':scope.names.lookup x=ab .cell:=by simpa [cG] using z
   obtain⟨d,ed⟩:=jQ (n:=C+1) z';have B:(bm (C+1) scope.names A).lookup x=ab c:=e;rw[cH,fj,ed] at B;cases B;have:=(w.empty x _ (mem_of_lookup ed)).2;show s.heap.objs.size<=_;omega
  .obtain⟨f0,f1,f2,f3,V,f5⟩:=hf b r;refine⟨λz=>AL (Q b r) (K0.mpr (by rw[show b=C from z];exact D0 t)),λx c e=>?_⟩;rcases g x c e with ⟨q,_⟩ | q
   .intro z;rw[z] at q;exact AL (R_ (IU (CM (Q b r) t)) q) (CU _)
   exact V x c q
  .obtain⟨f0,f1,f2,f3,V,f5⟩:=hf b r;rcases f3 with q | q
   .exact I.ok.noex b o e q
   exact AL (y_ (I.ok.bs b o e).1) (K0.mpr q)
  obtain⟨f0,f1,f2,f3,V,f5⟩:=hf b r;rcases v_.mp (I.stkSub b z) with q | q
  .exact f1 q
  exact f2 q
 obtain⟨m,hnm,hl⟩:=id I.loc;refine⟨hok,rfl,I.bare,Un.kept G,⟨_,hn,λi x v e1 h e3=>?_⟩,λx c e=>?_,I.hok.fresh (D0 t),λx c e=>?_,λp Y=>?_,I.hok.kept G,?_⟩
 ·-- a name of the block: one that it takes from around
  unfold pX at h;by_cases hi:i<nt
  .rw[NR (by simpa using hi),Sr] at h;split at h <;> cases h
  obtain⟨j,rfl⟩:∃j,i=nt+j:=⟨i - nt,zo⟩;obtain⟨k,ck,hN,f⟩:=S.caps j x e1;rw[Z_ Ap,IQ,Nat.add_sub_cancel_left,C_,ck] at h;have l:(σ[k]?).getD af=ab v:=O_ h;have N:σ[k]?=ab (ab v):=by
   cases q:σ[k]? with
   |none=>rw[q] at l;cases l
   |some z=>rw[q] at l;exact U_ ab l
  have P:=S.free (x,.free) (mem_of_lookup f) rfl;obtain⟨u,ru,lk⟩:=hl k x v hN N (.inr P);refine⟨u,ru,.inr ⟨jt f,?_⟩⟩;rcases lk with ⟨kl,_⟩ | ⟨_,c,hc,F⟩
  .rcases P with z | z <;> (rw[kl] at z;cases z)
  obtain⟨c',M⟩:=D (x,.free) (mem_of_lookup f) rfl;have e:=O x c' M;rw[hc] at e;cases e;obtain⟨o,Z,hd⟩:=F;refine⟨c,?_,o,G _ _ Z,hd⟩;show (bm (C+1) scope.names A).lookup x=ab c;rw[cH,fj];cases q:(bm (C+1) scope.names []).lookup x with
  |none=>exact M
  |some d =>
  rcases jD (mem_of_lookup q) with z | z
  .have:=S.cells _ z rfl;rw[f] at this;cases this
  cases z
 .rcases g x c e with ⟨_,q⟩ | q
  .exact⟨af,(w.empty x c (mem_of_lookup q)).1⟩
  obtain⟨v,o,Z,hd⟩:=I.cell x c q;exact⟨v,o,G _ _ Z,hd⟩
 .rcases g x c e with ⟨q,_⟩ | q
  .exact I.hok.fresh (D0 (R_ (IU t) q))
  exact I.freeC x c q
 .rcases x_.mp Y with z | z
  .obtain⟨e,n,n1,n2,d⟩:=I.pin p z;refine⟨G _ _ e,n,λq=>?_,λq=>?_,d⟩
   .exact AL (y_ e) (K0.mpr (by rw[show p.1=C from q];exact D0 t))
   rcases v_.mp (I.stkSub p.1 q) with q | q
   .exact n1 q
   exact n2 q
  obtain⟨e,n,d⟩:=hp p z;refine⟨e,I.hok.fresh zo,λq=>?_,λq=>?_,d⟩
  .exact AL (n.trans (show p.1=C from q)) (H_ t)
  have:=I.stkSub p.1 q;rcases v_.mp this with q | q
  .exact AL I.lt (K0.mpr (by rw[<- q,n];exact o_ _))
  exact I.nofs zo q
 unfold pX;show _=N'.length;rw[d_,IQ,g_,S.len]
theorem A8.track (x:A8 P w H h) (g:H a=af) (l:H C=af) (k:∀b u,b≠C->h.get? b=ab u->h'.get? b=ab u) (d:W2 P w (As H a o) h' a o):A8 P w (As H a o) h':=λb u e=>by
 by_cases j:b=a
 .subst j;rw[aZ] at e;cases e;exact d
 rw[aL j] at e;have i:∀c z,H c=ab z->c≠C:=λc z q r=>by rw[r,l] at q;cases q
 refine (x b u e).stay (λc v f q=>k c v ?_ q) (λc q=>by rw[aL (bL q g)];exact q) λc xs q=>by rw[aL (bL q g)];exact q
 rcases f with rfl | f
 .exact i c u e
 exact i c _ f
theorem uI {σ:St}{RR:av->ae->Result->aT->Prop} (hc:X.calm=ag) (S:Lo X N' nt cap scope) (E?:∀x c,G.lookup x=ab c->X.env.cells.lookup x=ab c) (hclh:∀y∈scope.names,y.2=.free->∃c,G.lookup y.1=ab c) (hX:∀G pins s H C j,PG (cG X N' scope G pins s H C j) tg g/\NA (cG X N' scope G pins s H C j) ifs tt/\PE (cG X N' scope G pins s H C j) elt te) (I:Inv X pins σ a s₂) (T:D7 X.prog X.w X.K tg J j it tn) (st:tn 0 s₂.heap) (hf:∀b∈j,m7 X pins a b) (hw:zR J g tt te fin (pX nt cap σ) a) (hRR:∀(D C:ae) (s₄:aT) (m:aw->ζ av) (R:ξ V) (H':Hp),s₄.heap.Ns C m->s₂.heap.objs.size<=D->s₂.heap.objs.size<=C->C≠D->H' D=af->H' C=af->R.length<=am->fin R H' ->
   (∀h',(∀b o,b≠C->s₄.heap.get? b=ab o->h'.get? b=ab o)->Inv X pins σ (As H' D (.lst R)) { s₄ with heap:=h'})->RR (.ref D) C (.ok .next) s₄):
  ax (aI X.prog X.w) X.A (yb []) (λacc t=>ax (aI X.prog X.w) X.A (l7 scope X.env.globals G [] X.env.qual af .none (ab X.env)) (λcenv s₄ =>
   eJ (aI X.prog X.w) X.A (.compStart (.ListComp elt [⟨tg,iter,ifs,0⟩] scope u?) 0 (.ref it) acc { cenv with scope:=xS scope X.env}) (RR acc cenv.locals) s₄) E t) E s₂:=by
 refine FB (La ?_);dsimp only;generalize hH2:s₂.heap.push { cls:=.type "list",dict:=af,data:=.seq ([]:ξ av).toArray}=B;generalize U:s₂.heap.objs.size=D;have hB:B.objs.size=D+1:=by rw[<- hH2,JI,U]
 have F:CellsOk (nh (B.push { cls:=.type "dict",data:=.dict #[]}) scope.names) (B.objs.size+1) (bm (B.objs.size+1) scope.names []):=by have:=cellsFrom_ok scope.names (B.push { cls:=.type "dict",data:=.dict #[]}) (B.objs.size+1) [] ⟨λ_ _ hm=>(nomatch hm),jp⟩ (by rw[JI];exact o_ _);rw[JI] at this;exact this
 have l:(nh (B.push { cls:=.type "dict",data:=.dict #[]}) scope.names).Ns B.objs.size λ_=>af:=(Heap.Ns.new B (.type "dict")).keeps (sA _ _);have L:∀b o,B.get? b=ab o->(nh (B.push { cls:=.type "dict",data:=.dict #[]}) scope.names).get? b=ab o:=λb o e=>sA _ _ b o (b_ _ e);generalize hCe:B.objs.size=C at l F |-;generalize nh (B.push { cls:=.type "dict",data:=.dict #[]}) scope.names=N at l F L |-;have hCD:C=D+1:=hCe.symm.trans hB;have hDC:D≠C:=by rw[hCD];exact H_ (HP _)
 have O:s₂.heap.objs.size<C:=by rw[U,hCD];exact HP _
 have Z:∀b o,s₂.heap.get? b=ab o->b≠C/\b≠D:=λb o e=>by have:=y_ e;rw[U] at this;exact⟨by rw[hCD];exact H_ (IU this),H_ this⟩
 have old:∀b o,s₂.heap.get? b=ab o->N.get? b=ab o:=λb o e=>L b o (hH2▸b_ _ e);have hacc:N.get? D=ab { cls:=.type "list",data:=.seq ([]:ξ av).toArray 0}:=L _ _ (hH2▸U▸l_ _ rfl);have M:tn 0 N:=T.keep _ _ _ st λb h o e=>old b o e;have hfl:∀b∈j,b<s₂.heap.objs.size:=λb h=>by obtain⟨o,e,_⟩:=T.obj _ _ st b h;exact y_ e
 obtain⟨W,⟨m0,w0⟩,turn⟩:=hw;obtain⟨hg,hi,he⟩:=hX (bm (C+1) scope.names G) pins s₂ a C j;have stat:∀{H':Hp} {k:Nat} {f:ξ av},(∀b∈j,H' b=af)->∀b∈j,m7 (cG X N' scope (bm (C+1) scope.names G) pins s₂ a C j) [(D,{ cls:=.type "list",data:=.seq f.toArray k})] H' b:=λ{H' k f} hn b h=>by
  obtain⟨f0,f1,f2,f3,f4,f5⟩:=hf b h;have hlt:=hfl b h;refine⟨hn b h,λz=>?_,λz=>?_,.inl h,λx c e=>?_,λp hp=>?_⟩
  .rw[show b=C from z] at hlt;exact AL hlt (K0.mpr (D0 O))
  .rcases v_.mp (I.stkSub b z) with q | q
   .exact f1 q
   exact f2 q
  .rcases iC e with q | q
   .have:=(F.empty x c (mem_of_lookup q)).2;intro z;rw[z] at this;exact AL (R_ (IU (CM hlt O)) this) (CU _)
   exact f4 x c (E? x c q.2)
  rcases x_.mp hp with z | z
  .exact f5 p z
  rw[j_.mp z];intro e;rw[<- (show D=b from e),U] at hlt;exact CU _ hlt
 have loop:∀t:aT,t={ s₂ with heap:=N}->eJ (aI X.prog X.w) X.A (.compLoop (.ListComp elt [⟨tg,iter,ifs,0⟩] scope u?) 0 (.ref it) (.ref D) (compEnvC scope (bm (C+1) scope.names G) C X.env)) (RR (.ref D) C) t:=by
  rintro t rfl;refine rJ (λn s'=>∃i R f k σ' H',Inv (cG X N' scope (bm (C+1) scope.names G) pins s₂ a C j) [(D,{ cls:=.type "list",data:=.seq f.toArray k})] σ' H' s'/\zS R f/\tn i s'.heap/\(∀b∈j,H' b=af)/\W i n R σ' H'/\R.length<=am) ?_ m0
   ⟨0,[],[],0,pX nt cap σ,a,Fj (tk:=s₂.toks) S I E? hclh hf hfl O l old (λp hp=>?_) F,.nil,M,λb h=>(hf b h).1,w0,B8 _⟩
  .rintro n s3 ⟨i,R,f,k,σ3,H3,I3,rv,st3,fr3,w3,hz⟩;have pD:=I3.pin (D,{ cls:=.type "list",data:=.seq f.toArray k}) (J_ _ (j_.mpr rfl));rcases turn i n R σ3 H3 w3 with ⟨stop,hz',hfin⟩ | ⟨go,step⟩
   .refine AE (T.done (cG X N' scope (bm (C+1) scope.names G) pins s₂ a C j) rfl rfl rfl hc i _ s3 σ3 H3 (λ_ _=>False) I3 (stat fr3) st3 stop) λr s4 ⟨hr,I4⟩=>?_;subst hr;obtain⟨m4,hn4,_⟩:=I4.loc;have pD4:=I4.pin (D,{ cls:=.type "list",data:=.seq f.toArray k}) (J_ _ (j_.mpr rfl));refine hRR D C s4 m4 R H3 hn4 (by rw[U];exact o_ _) (D0 O) (a6 hDC) pD4.2.1 I4.free hz' hfin λh' k'=>?_;have nD:∀b u,H3 b=ab u->b≠D:=λb u e z=>by rw[z,pD4.2.1] at e;cases e
    have nDs:∀b o,s₂.heap.get? b=ab o->b≠D/\b≠C:=λb o e=>⟨(Z b o e).2,(Z b o e).1⟩;have B4:=I4.base;refine I.call' (s':={ s4 with heap:=h'}) (ch:=j) I4.os ⟨λb o e n h hx=>k' b o (nDs b o e).2 (B4.keep b o e n h hx),λb o e n h hx=>?_,λb o e n hx=>?_,λb o e hx=>?_,λb xs e=>?_,λb o u e=>?_,λb ps e=>?_⟩ ?_ I4.bare λb h=>?_
    .obtain⟨sl,q⟩:=B4.slot b o e n h hx;exact⟨sl,k' b _ (nDs b o e).2 q⟩
    .rw[aL (nDs b o e).1];exact B4.free b o e n hx
    .obtain⟨o',q⟩:=B4.there b o e hx;exact⟨o',k' b _ (nDs b o e).2 q⟩
    .have q:=B4.tups b xs e;rw[aL (nD _ _ q)];exact q
    .have q:=B4.frzs b o u e;rw[aL (nD _ _ q)];exact q
    .obtain⟨more,q⟩:=B4.tbls b ps e;exact⟨more,by rw[aL (nD _ _ q)];exact q⟩
    .exact I4.hok.track pD4.2.1 I4.free k' ⟨hz',f,k,rv,k' D _ hDC pD4.1⟩
    obtain⟨f0,f1,f2,f3,f4,f5⟩:=hf b h;exact⟨f3,f1,f4,f5⟩
   refine AE (T.item (cG X N' scope (bm (C+1) scope.names G) pins s₂ a C j) rfl rfl rfl hc i _ s3 σ3 H3 (λ_ _=>False) I3 (stat fr3) st3 go) λr s4 ⟨u,hr,h4⟩=>?_;subst hr;refine AE h4 λ_ s5 ⟨x,H5,I5,r5,y5,st5,fr5⟩=>?_;have I5':=I5.pinned (stat fr5) (T.obj _ _ st5);refine AE (hg _ s5 σ3 H5 x u _ I5' r5 (step x H5 y5)) λ_ s6 ⟨Y,H6,I6,q6⟩=>?_;refine AE (hi _ s6 Y H6 _ I6 q6) λok s7 ⟨H7,I7,q7⟩=>?_;have P:∀{σ8:St} {H8:Hp} {s8:aT},Inv (cG X N' scope (bm (C+1) scope.names G) pins s₂ a C j) ([(D,{ cls:=.type "list",data:=.seq f.toArray k})]++m9 j s5.heap) σ8 H8 s8->tn (i+1) s8.heap/\∀b∈j,H8 b=af:=λ{σ8 H8 s8} I8 =>
    ⟨T.keep _ _ _ st5 λb h o e=>(I8.pin (b,o) (J_ _ (J_ _ (iz h e)))).1,λb h=>by
     obtain⟨o,e,d⟩:=T.obj _ _ st5 b h
     exact (I8.pin (b,o) (J_ _ (J_ _ (iz h e)))).2.1⟩
   cases ok with
   |false=>rw[zD M_] at q7 |-;obtain⟨m',hm,w7⟩:=q7;exact⟨m',hm,i+1,R,f,k,Y,H7,I7.unpinned,rv,(P I7).1,(P I7).2,w7,hz⟩
   |true =>
   rw[z3 rfl] at q7 |-;refine AE (he _ s7 Y H7 _ I7 q7) λuy s8 ⟨y,H8,I8,ry,hz8,m',hm,w8⟩=>?_;have Q:=I8.pin (D,{ cls:=.type "list",data:=.seq f.toArray k}) (J_ _ (FU _ (j_.mpr rfl)));have hl:=rv.length;refine mz Q.1 zo λh' k' e' kk=>?_;have I9:Inv (cG X N' scope (bm (C+1) scope.names G) pins s₂ a C j) [] Y H8 { s8 with heap:=h'}:=by
    refine Inv.turned (t':=s8.toks) (it:=D) (I8.pins_of (pins':=[]) (λp hp=>nomatch hp)) (λb o h e=>kk b o h e) Q.2.1 Q.2.2.1 (.inr (by show s₂.heap.objs.size<=D;rw[U];exact o_ _)) (λx c e z=>?_) (λp hp z=>?_)
    .rcases iC e with q | q
     .have:=(F.empty x c (mem_of_lookup q)).2;rw[z,hCD] at this;omega
     obtain⟨v,q⟩:=I.cell x c (E? x c q.2);have:=q.lt;rw[z,U] at this;exact CU _ this
    rw[C9] at hp;have:=y_ (I.pin p hp).1;rw[z,U] at this;exact CU _ this
   refine⟨m',hm,i+1,R++[y],f++[uy],k',Y,H8,I9.pins_of λp hp=>?_,rv.append (.cons ry .nil),?_,(P I8).2,w8,?_⟩
   .rw[j_.mp hp];exact⟨e',Q.2.1,Q.2.2.1,Q.2.2.2.1,λv z=>by cases z⟩
   .refine T.keep _ _ _ (P I8).1 λb h o e=>kk b o (λz=>?_) e;have:=hfl b h;rw[z,U] at this;exact CU _ this
   rw[d_,z_];omega
  rw[j_.mp hp];exact⟨hacc,U,λv z=>by cases z⟩
 exact codeAny_compStart_list (loop _ rfl) (T.self _ 0 _ _ _ M (loop _ rfl))
def Xr (c:TI) (g:TG) (tt:TT) (te:TE) (nt:Nat) (cap:ξ Nat):TE:=λσ H Q=>c σ H λJ b=>zR J g tt te (λa H'=>∀p,H' p=af->Q (.ref p) (As H' p (.lst a))) (pX nt cap σ) b
theorem Lb (Z:X.calm=ag) (S:Lo X N' nt cap scope) (G:PI X r a B) (Y:∀n pins s H C l,PG (cG X N' scope n pins s H C l) r g/\NA (cG X N' scope n pins s H C l) i tt/\PE (cG X N' scope n pins s H C l) f te) (O:∀x,dS a X.env x=ce x:=by intro _;rfl):PE X (.ListComp f [⟨r,a,i,0⟩] scope z) (Xr B g tt te nt cap):=by intro pins s σ H Q I h;rw[eval_ListComp];obtain⟨n,c,t,j⟩:=jC (scope:=scope) (env:=X.env) λy F V=>I.ok.has y.1 (S.free y F V);refine j1 (use:=af) rfl O c S.kind S.names (AE (G pins s σ H _ I h) λv s1 U=>AE U λM s2 h2=>?_);obtain⟨it,l,tn,J,H2,rfl,W,T,u,R,E⟩:=h2;refine uI (RR:=λq C=>compPost (aI X.prog X.w) X.A X.xe af (EP X pins σ Q) q C) Z S t j Y W T u R E λD C s4 m ys H' L hD hC N K nC hz d k=>?_;refine⟨m,L,λh' p=>?_⟩;exact⟨.ref D,_,k h' λb o P e=>p.extBut b o P e,rfl,d D K⟩
def Fl (c:TI) (g:TG) (tt:TT) (te:TE) (nt:Nat) (cap:ξ Nat) (i:Nat):TS:=λD σ H=>c σ H λJ b=>zR J g tt te (λa H'=>∀p,H' p=af->D.nx (σ.set i (ab (.ref p))) (As H' p (.lst a))) (pX nt cap σ) b
theorem Ld {r f n:gE} (hc:X.calm=ag) (hN:X.N.Nodup) (hi':X.N[i]?=ab x) (hx:HG X.env.scope x) (S:Lo X N' nt cap scope) (hi:PI X E d wi) (hX:∀O pins s H C L,PG (cG X N' scope O pins s H C L) E g/\NA (cG X N' scope O pins s H C L) l tt/\PE (cG X N' scope O pins s H C L) j te) (Y:eh (.ListComp j [⟨E,d,l,0⟩] scope r) (ab (.Name x f)) n.line X.env=ce ag:=by rfl) (hs:∀x,dS d X.env x=ce x:=by intro _;rfl) (hf:X.fn x=ag\/X.env.scope.names.lookup x=ab .local:=by first | exact .inl rfl | exact .inr rfl | assumption):
  PS X (.Assign [.Name x f] (.ListComp j [⟨E,d,l,0⟩] scope r) n) (Fl wi g tt te nt cap i):=by
 intro pins s σ H Dn I h;rw[exec_Assign_Name_used _ _ _ _ Y];obtain⟨O,t,Z,K⟩:=jC (scope:=scope) (env:=X.env) λy hy hf=>I.ok.has y.1 (S.free y hy hf);refine a_ (jI (a_ ?_));show ax _ X.A (do let _ <- comprehension (.ListComp j [⟨E,d,l,0⟩] scope r) scope X.env _ (yb []) ai (bt d X.env) (ab (ia (.Name x f) X.env))) _ _ s;refine a_ (CA (j1 (use:=ab (ia (.Name x f) X.env)) (Q:=λ_ s'=>SP X pins Dn .next s') rfl hs t S.kind S.names
  (AE (hi pins s σ H _ I h) λv s1 h1=>AE h1 λitv s2 h2=>?_)) (λ_ s' hq=>i_ (i_ hq)) λ_ _ e=>e)
 obtain⟨it,L,tn,J,H2,rfl,G,T,st2,f2,hw⟩:=h2;refine uI (RR:=λV C=>compPost (aI X.prog X.w) X.A X.xe (ab (ia (.Name x f) X.env)) (λ_ s'=>SP X pins Dn .next s') V C) hc S Z K hX G T st2 f2 hw λD C s4 m ys H' hn hD M W nD nC hz B k=>?_;show ax _ X.A (ia (.Name x f) X.env (.ref D)) _ _ s4;have I4:=k s4.heap λb o _ e=>e;have F:C≠X.env.locals:=λz=>by have:=G.lt;rw[<- z] at this;exact AL this (K0.mpr M)
 have u:∀y c,X.env.cells.lookup y=ab c->c≠C:=λy c e z=>by obtain⟨v,q⟩:=G.cell y c e;have:=q.lt;rw[z] at this;exact AL this (K0.mpr M)
 refine pb (qw I4 hN hi' hx (show z4 (.ref D) (.ref D) from rfl) (λs5 I5 ⟨a,sb,U⟩=>?_) hf);have P:C≠a:=by
  rcases U with rfl | U
  .exact F
  exact λz=>u x a U z.symm
 refine⟨m,hn.sameBut sb P,λh' R=>⟨_,_,Inv.turned (t':=s5.toks) (it:=C) I5 (λb o hb e=>R.extBut b o hb e) (by rw[aL W];exact nC) F (.inr (S_ G.sz M)) u (λp hp z=>?_),B D nD⟩⟩;have:=y_ (G.pin p hp).1;rw[z] at this;exact AL this (K0.mpr M)
open PySem.W
theorem nM {ps:ξ aw}{us:ξ av}{i:Nat} (a:ps.Nodup) (k:ps[i]?=ab x) (f:us[i]?=ab u):(ps.zip us).reverse.lookup x=ab u:=by
 have sub:∀(ps:ξ aw) (us:ξ av),((ps.zip us).map (·.1)).Sublist ps:=λps=>by
  induction ps with
  |nil=>intro us;exact List.Sublist.refl _
  |cons p r d =>
  intro us;cases us with
  |nil=>exact List.nil_sublist _
  |cons w us=>exact (d us).cons₂ p
 have g:((ps.zip us).map (·.1)).Nodup:=a.sublist (sub ps us);rw[lookup_reverse_of_nodup _ g];have j:∀(ps:ξ aw) (us:ξ av) (i:Nat),ps.Nodup->ps[i]?=ab x->us[i]?=ab u->(ps.zip us).lookup x=ab u:=λps=>by
  induction ps with
  |nil=>intro us i _ h;simp at h
  |cons p r d =>
  intro us i a c b;cases us with
  |nil=>simp at b
  |cons w us =>
  rw[EZ] at a;cases i with
  |zero=>simp at c b;subst c;subst b;simp [F1]
  |succ i =>
  rw[Mb] at c b;have e:(x==p)=ai:=EB.mpr λz=>a.1 (z▸E5 c);rw[On,F1,e];exact d us i a.2 c b
 exact j ps us i a k f
structure Qb (N' ps:List aw) (scope:Scope):Prop where
 kind:scope.kind=.function
 co:scope.isCoroutine=ai
 gen:scope.isGenerator=ai
 nocell:∀x∈scope.names,x.2≠.cell
 pre:N'.take ps.length=ps
 nd:ps.Nodup
 par:∀x∈ps,scope.names.lookup x=ab .local
noncomputable def lN (X:Cx) (N':ξ aw) (qual:aw) (scope:Scope) (f:ae) (a:av) (b:ξ (aw × ae)) (A:dn) (s:aT) (H:Hp):Cx where
 prog:=X.prog
 w:=X.w
 K:=X.K
 mg:=X.mg
 base:=X.base
 A:=A.deeper (envX qual scope s.heap.objs.size f a b)
 N:=N'
 s₀:=s
 H₀:=H
 env:=envX qual scope s.heap.objs.size f a b
 outer:=X.stack
 stack:=envX qual scope s.heap.objs.size f a b::X.stack
 ex:=[]
 calm:=ag
 fn:=λ_=>ai
 pn:=[]
 xe:=λ_ _=>False
section
variable {X:Cx}{pins:ξ (ae × dP)}{σ σ':St}
theorem Le (I:Inv X pins σ H s) (P:A.frames=ab X.stack) (Z:A.handled=af) (k:A.depth<lT) (Y:s.heap.get? f=ab (tr name qual params body scope cl pm c' ctv)) (G:s.heap.CodeRec (.ref c') qual)
  (hb:c8 (y8 name qual params body scope cl pm (.ref c') ctv) ⟨us,[]⟩=ce (ps.zip us)) (hl:us.length=ps.length) (S:Qb N' ps scope)
  (M:∀x,scope.names.lookup x=ab .free->∃c,cl.lookup x=ab c) (d:∀x c,cl.lookup x=ab c->X.env.cells.lookup x=ab c) (E:σ'.length=N'.length)
  (D:∀(i:Nat) (x:aw) (v:V),N'[i]?=ab x->σ'[i]?=ab (ab v)->(i<ps.length->∃u,us[i]?=ab u/\z4 v u)/\(ps.length<=i->scope.names.lookup x=ab .free/\∃c u,cl.lookup x=ab c/\s.heap.IsCell c (ab u)/\z4 v u))
  (m:PE (lN X N' qual scope f (.ref c') cl A s H) body te) (F:te σ' H Q):ax (aI X.prog X.w) A (fT (.ref f) us) (EP X pins σ Q) (λ_ _=>False) s:=by
 have L:s.heap.NoLimit:=I.ok.mod.nolimit.keeps I.bk;refine tJ (kla_callFunE k Y rfl S.co S.gen rfl G ?_);rw[hb];refine i_ (wpAny_newFunctionEnv S.nocell (λx T=>S.par x.1 (L0 T).1) (λg K r=>⟨L.fresh _ r,?_⟩) S.kind);have a:∀b o,s.heap.get? b=ab o->g.get? b=ab o:=λb o e=>r.extBut b o (H_ (y_ e)) (b_ _ e);have l:∀b:ae,b∉(lN X N' qual scope f (.ref c') cl A s H).ex:=λb z=>AL (show b∈([]:ξ ae) from z) Ap;have J:Inv (lN X N' qual scope f (.ref c') cl A s H) [] σ' H { s with heap:=g,toks:=s.toks+(ps.zip us).length}:=by
  refine⟨⟨I.ok.mod,S.kind,rfl,rfl,o_ _,λy z c t N=>I.ok.inj y z c (d _ _ t) (d _ _ N),λy j=>?_,λy c z _=>AL z (by simp [lN]),λ_=>Z,mP P,.inr ⟨rfl,rfl⟩,λb z=>AL z (l b),I.bs,S_ I.ok.bsz I.sz,λb _ _=>l b,λb z=>AL z (l b),I.stack,I.stkFree⟩,
   rfl,I.bare,Un.kept a,⟨_,K,λi y v t N h3=>?_⟩,λy c h=>?_,I.hok.fresh (o_ _),λy c h=>I.freeC y c (d _ _ h),λp n=>AL (show p∈([]:ξ (ae × dP)) from n) Ap,I.hok.kept a,E⟩
  .have j:scope.names.lookup y=ab .cell\/scope.names.lookup y=ab .free:=j;rcases j with j | j
   .exact AL rfl (S.nocell _ (mem_of_lookup j))
   exact M y j
  .obtain⟨p1,p2⟩:=D i y v t N;by_cases U:i<ps.length
   .obtain⟨u,W,B⟩:=p1 U;refine⟨u,B,.inl ⟨?_,?_⟩⟩
    .have n:ps[i]?=ab y:=by rw[<- S.pre,TN zo];exact t
     exact S.par y (E5 n)
    have n:ps[i]?=ab y:=by rw[<- S.pre,TN zo];exact t
    exact nM S.nd n W
   obtain⟨q1,c,u,R,O,B⟩:=p2 zo;exact⟨u,B,.inr ⟨.inr q1,c,R,O.keeps a⟩⟩
  obtain⟨v,D⟩:=I.cell y c (d _ _ h);exact⟨v,D.keeps a⟩
 show eJ _ _ (.expr body (envX qual scope s.heap.objs.size f (.ref c') cl)) _ _;refine kla_codeExpr (CA (m [] _ σ' H Q J F) (λv s' h=>?_) λ_ _ y=>y.elim);obtain⟨x,H',C,B,q⟩:=h;exact I.after ⟨x,H',C.os,C.bare,C.base,C.hok,B,q⟩
end
def Py (b:dP) (qual:aw):Prop:=∃vs a,b.data=.fields vs/\vs[1]?=ab (.str qual a)
noncomputable def CY (P:ae) (ps:Array av):HO:=.tbl ps
noncomputable def Jn (a:dP):HO:=.frz a (.ext λ_=>True)
def Fo (H:Hp) (P:ae) (a:gE) (qual:aw):Prop :=
 ∃ps:Array av,H P=ab (CY P ps)/\TriplesOk ps.toList/\(codeAmong a ps.toList=af\/∃c b,codeAmong a ps.toList=ab (.ref c)/\H c=ab (Jn b)/\Py b qual)
def Tq (H H':Hp) (P:ae):Prop:=H'=H\/∃ps c b,H P=ab (CY P ps)/\H c=af/\c≠P/\∃a,H'=As (As H P (CY P a)) c (Jn b)
section
variable {X:Cx}{pins:ξ (ae × dP)}{σ:St}
theorem CY.ok (e:h.get? P=ab (y4 ps)):W2 p w H h P (CY P ps):=e
theorem A8.grow (i:A8 p w H h) (d:H P=ab (CY P ps)) (k:∀b u,b≠P->h.get? b=ab u->h'.get? b=ab u) (e:W2 p w (As H P g) h' P g):A8 p w (As H P g) h':=λb u q=>by
 by_cases f:b=P
 .subst f;rw[aZ] at q;cases q;exact e
 rw[aL f] at q;refine (i b u q).stay (λc v a r=>k c v ?_ r) (λc r=>by rw[aL (λz=>by rw[z,d] at r;cases r)];exact r) λc xs r=>by rw[aL (λz=>by rw[z,d] at r;cases r)];exact r
 rcases a with rfl | a
 .exact f
 intro z;rw[z,d] at a;cases a
theorem Jn.ok (e:h.get? a=ab b):W2 p w H h a (Jn b):=⟨e,AD,⟨_,e⟩,λ_ _ _ _=>trivial⟩
theorem A8.trackN (x:A8 p w H h) (f:H a=af) (d:W2 p w (As H a o) h a o):A8 p w (As H a o) h:=λb u e=>by
 by_cases g:b=a
 .subst g;rw[aZ] at e;cases e;exact d
 rw[aL g] at e;refine (x b u e).stay (λ_ v _ r=>r) (λc r=>by rw[aL (bL r f)];exact r) λc xs r=>by rw[aL (bL r f)];exact r
theorem Fp (I:Inv X pins σ H s) (hc:X.env.code=.ref c) (C:y9 X.base c P) (hB:X.base.BuiltinsAt X.mg P) (hT:Fo H P u? qual) (hq:X.env.qual++"<lambda>"=qual) (G:vS scope X.env=ce cl) (K:vF params X.env=([],[])) (O:bo≠P) (k:∀f d pm i H' s',Inv X pins σ H' s'->s'.heap.get? f=ab (tr "<lambda>" qual params body scope cl pm d i)->H' f=af->s.heap.objs.size<=f->(∃j,H' d=ab (Jn j)/\Py j qual)->Fo H' P u? qual->Tq H H' P->R (.ref f) s'):
  ax (aI X.prog X.w) X.A (bt (.Lambda params body scope u?) X.env) R X.xe s:=by
 obtain⟨ps,l,y,cases⟩:=hT;have J:s.heap.get? P=ab (y4 ps):=I.hok P _ l;have Cs:y9 s.heap c P:=C.keeps I.bk;have Bs:s.heap.BuiltinsAt X.mg P:=hB.keeps I.bk;have Gs:s.heap.Ns bo X.mg:=I.ok.mod.glob.keeps I.bk;refine kla_eval K ?_;rw[hq];rcases cases with hn | ⟨M,j,hs,Q,ro⟩
 .refine kla_makeFunction (mg:=X.mg) G I.ok.glob Gs hc Cs J y hn O Bs λd i h' tk hx h r E x=>?_;obtain⟨c2,j,vs,D,ec,hoc,F,B⟩:=E;cases ec;have g:H d=af:=I.hok.fresh h;have m:d≠P:=λz=>by rw[z,l] at g;cases g
  have L:∀b u,b≠P->s.heap.get? b=ab u->h'.get? b=ab u:=λb u hb e=>hx b u hb e;have U:A8 X.prog X.w (As H P (CY P (ps++#[cy u?.line,cy u?.col,.ref d]))) h':=I.hok.grow l L (CY.ok x);generalize t:tr "<lambda>" qual params body scope cl ((X.mg "__name__").getD .none) d i=fo;have p:∀b u,h'.get? b=ab u->(h'.push fo).get? b=ab u:=λb u e=>b_ _ e;have Z:=U.kept p;have S:As H P (CY P (ps++#[cy u?.line,cy u?.col,.ref d])) d=af:=by rw[aL m];exact g
  have T:=Z.trackN (a:=d) (o:=Jn j) S (Jn.ok (p _ _ hoc));have Y:∀{b:ae} {o:dP},s.heap.get? b=ab o->b≠d:=λe=>H_ (R_ (y_ e) h);have V:∀{b:ae},H b=af->b≠P:=λn z=>by rw[z,l] at n;cases n
  have u:Un X.fs [] H (As (As H P (CY P (ps++#[cy u?.line,cy u?.col,.ref d]))) d (Jn j)) s.heap (h'.push fo) :=
   ⟨λb o e n _ _=>p _ _ (L b o (V n) e),λb o e n _ _=>⟨o.slots,p _ _ (L b o (V n) e)⟩,λb o e n _=>by rw[aL (Y e),aL (V n)];exact n,λb o e _=>by
    by_cases z:b=P
    ·
     rw[z];exact⟨_,p _ _ x⟩
    ·
     exact⟨o,p _ _ (L b o z e)⟩,λb xs e=>by
    rw[aL (λz=>by rw[z,g] at e;cases e),aL (λz=>by rw[z,l] at e;cases e)];exact e,λb o v e=>by
    rw[aL (λz=>by rw[z,g] at e;cases e),aL (λz=>by rw[z,l] at e;cases e)];exact e,λb q e=>by
    by_cases z:b=P
    ·
     subst z
     rw[l] at e;cases e
     exact⟨#[cy u?.line,cy u?.col,.ref d],by rw[aL (a6 m)];exact aZ⟩
    ·
     exact⟨#[],by rw[aL (λz=>by rw[z,g] at e;cases e),aL z,iF];exact e⟩⟩
  have I2:=I.un (t':=tk) u T;have N:As (As H P (CY P (ps++#[cy u?.line,cy u?.col,.ref d]))) d (Jn j) h'.objs.size=af:=by have W:P<h'.objs.size:=y_ x;rw[aL (B9 r),aL (B9 W)];exact I.hok.fresh (D0 (JU h r))
  refine k _ d _ i _ _ I2 (by rw[<- t];exact l_ _ rfl) N (D0 (JU h r)) ⟨j,aZ,vs,D,F,B⟩ ?_ (.inr ⟨ps,d,j,l,g,m,_,rfl⟩);refine⟨_,by rw[aL (a6 m)];exact aZ,?_,.inr ⟨d,j,?_,aZ,vs,D,F,B⟩⟩
  .rw[show (ps++#[cy u?.line,cy u?.col,aS d]).toList=ps.toList++[cy u?.line,cy u?.col,aS d] by simp];exact TriplesOk_snoc _ _ _ _ y
  rw[show (ps++#[cy u?.line,cy u?.col,aS d]).toList=ps.toList++[cy u?.line,cy u?.col,aS d] by simp];exact codeAmong_snoc _ y hn
 have ho:=I.hok M _ Q;obtain⟨vs,D,F,B⟩:=ro;refine kla_makeFunctionHit (mg:=X.mg) G I.ok.glob Gs hc Cs J y hs Bs λi h' tk hk h=>?_;generalize t:y8 "<lambda>" qual params body scope cl ((X.mg "__name__").getD .none) (.ref M) i=fd;have p:∀b u,s.heap.get? b=ab u->(h'.push { cls:=.type "function",data:=.func fd}).get? b=ab u:=λb u e=>b_ _ (hk _ _ e);refine k _ M _ i H _ (I.kept p) (by rw[<- t];exact l_ _ rfl) (I.hok.fresh h) h ⟨j,Q,vs,D,F,B⟩ ⟨ps,l,y,.inr ⟨M,j,hs,Q,vs,D,F,B⟩⟩ (.inl rfl)
end
section
variable {prog:bb}{w:bg}{A:dn}{s:aT}
theorem qJ {st:wE}(v:s.heap.get? kS=ab (a4 "list" keys e)) (y:s.heap.get? a=ab (a4 "list" #[] e1)) (f:kS≠a)
  (t:cS keys.toList kz) (n:kz.length=vs.length) (x:vs.length<64) (p:(ev st).Perm (keys.zip vs.toArray)) (z:SortedTo (ev st) (ev st).size) (l:fq st=af)
  (h:∀h' out c,(∀b u,b≠kS->b≠a->s.heap.get? b=ab u->h'.get? b=ab u)->h'.get? a=ab (a4 "list" out c)->(∃o,h'.get? kS=ab o)->KskOut ai kz vs out.toList->P (.done (.ret .none)) { s with heap:=h'}) :
  ax (aI prog w) A (ksk_tail a ai e1 (.ref kS) st) P E s:=by
 have hsz:keys.size=vs.length:=by have k:=t.length;rw[E7] at k;omega
 have i:(ev st).size=vs.length:=by rw[p.size_eq,xh,hsz,m_,qc]
 have g:((ev st).map (·.2)).size=vs.length:=by rw[Array.size_map];exact i
 have q:=Lm s.heap kS (a9 λ_=>(#[]:Array av));have d:(s.heap.update kS (a9 λ_=>(#[]:Array av))).get? a=ab (a4 "list" #[] e1):=(q.2 a f.symm).trans y;have r:=Lm (s.heap.update kS (a9 λ_=>(#[]:Array av))) a (a9 λ_=>(ev st).map (·.2));obtain⟨m,j⟩:∃m,((s.heap.update kS (a9 λ_=>(#[]:Array av))).update a (a9 λ_=>(ev st).map (·.2))).get? a=ab (a4 "list" ((ev st).map (·.2)) m):=⟨_,GN d λ_=>(ev st).map (·.2)⟩;unfold ksk_tail;try dsimp only
 refine a_ (ID v rfl ?_ (by rw[hsz,E8];omega) (B8 _));refine a_ (i3 ?_);refine a_ (MA d rfl ?_);refine a_ (ID d rfl ?_ (B8 _) (S_ (gS g) (by rw[E8];omega)));rw[l];simp only[Sj,u_,W_];refine i_ (h _ _ m (λb u k B C=>(r.2 b B).trans ((q.2 b k).trans C)) j ⟨_,(r.2 kS f).trans (GN v λ_=>#[])⟩ (ksk_out (b:=ai) t p z))
theorem Fq (t:s.heap.get? kS=ab (a4 "list" keys e)) (r:s.heap.get? a=ab (a4 "list" #[] e1)) (m:kS≠a) (n:cS keys.toList kz) (f:kz.length=vs.length) (g:vs.length<64)
  (h:∀h' out c,(∀b u,b≠kS->b≠a->s.heap.get? b=ab u->h'.get? b=ab u)->h'.get? a=ab (a4 "list" out c)->(∃o,h'.get? kS=ab o)->KskOut ai kz vs out.toList->P (.done (.ret .none)) { s with heap:=h'}) :
  ax (aI prog w) A (ksk_end a ai vs.toArray e1 (.ref kS) keys) P E s:=by
 have hsz:keys.size=vs.length:=by have z:=n.length;rw[E7] at z;omega
 have k:(keys.zip vs.toArray).size=vs.length:=by rw[xh,hsz,m_,qc]
 unfold ksk_end;simp only[u_,W_];by_cases l:vs.toArray.size<2
 .rw[z3 l,z3 l];refine a_ (i_ ?_);rw[lf];refine a_ (i_ ?_);try dsimp only
  refine qJ (st:=ic general' (keys.zip vs.toArray) #[] 7 af) t r m n f g (Array.Perm.refl _) ?_ rfl h;intro i j v C;have p:j<(keys.zip vs.toArray).size:=C;rw[k] at p;rw[m_] at l;have:i=j:=by omega
  subst this;exact N9 _
 rw[zD l,zD l];rw[m_] at l;rw[ksk_kind n (by rw[hsz];omega)];refine a_ (i_ ?_);refine a_ (CA (wpS_sortRuns (a₀:=keys.zip vs.toArray) (st:=ic oneType' (keys.zip vs.toArray) #[] 7 af)
  (Q:=λ_ d=>(ev d).Perm (keys.zip vs.toArray)/\fq d=af/\SortedTo (ev d) (keys.zip vs.toArray).size)
  (ksk_intKeys n) ⟨Array.Perm.refl _,rfl,rfl,rfl⟩ (by rw[k];omega) (by rw[k];exact g) λd F D y=>⟨F,D,y⟩) ?_ λ_ _ e=>e)
 rintro⟨⟨⟩,d⟩ s' ⟨rfl,q,B,x⟩;try dsimp only
 exact qJ t r m n f g q (by rw[q.size_eq];exact x) B h
variable {X:Cx}{pins:ξ (ae × dP)}{σ:St}{b:ae}
structure EN (X:Cx) (pins:List (ae × dP)) (H:Hp) (b:ae):Prop where
 h0:X.s₀.heap.objs.size<=b
 hn:H b=af
 hL:b≠X.env.locals
 hc:∀x c,X.env.cells.lookup x=ab c->c≠b
 hp:∀p∈X.pn++pins,p.1≠b
theorem EN.new (I:Inv X pins σ H s) (h:s.heap.objs.size<=b):EN X pins H b :=
 ⟨S_ I.sz h,I.hok.fresh h,B9 (R_ I.lt h),λx c e=>by
  obtain⟨v,o,d,_⟩:=I.cell x c e
  exact H_ (R_ (y_ d) h),λp a=>H_ (R_ (y_ (I.pin p a).1) h)⟩
theorem Inv.poke {ch:ξ ae} (I:Inv X pins σ H s) (a:∀b∈ch,EN X pins H b) (k:∀c u,c∉ch->s.heap.get? c=ab u->h'.get? c=ab u):Inv X pins σ H { s with heap:=h',toks:=t'}:=by
 refine I.call (g':=s.gens) (d':=s.drawn) (ch:=ch) ⟨λc o e _ _ f=>k c o f e,λc o e _ _ f=>⟨o.slots,k c o f e⟩,λc o e n _=>n,λc o e f=>⟨o,k c o f e⟩,λ_ _ e=>e,λ_ _ _ e=>e,λ_ ps e=>⟨#[],by rw[iF];exact e⟩⟩ (λc o e=>?_) I.bare λb z=>⟨.inr (a b z).h0,(a b z).hL,(a b z).hc,(a b z).hp⟩;have h:∀{d:ae} {v:HO},H d=ab v->d∉ch:=λq z=>by rw[(a _ z).hn] at q;cases q
 refine (I.hok c o e).stay (λd u g q=>k d u ?_ q) (λ_ q=>q) λ_ _ q=>q;rcases g with rfl | g
 .exact h e
 exact h g
theorem Inv.trackD (I:Inv X pins σ H s) (w:EN X pins H b) (a:W2 X.prog X.w (As H b o) s.heap b o):Inv X pins σ (As H b o) s:=by
 have f:∀{c:ae} {u:dP},X.s₀.heap.get? c=ab u->c≠b:=λe=>H_ (R_ (y_ e) w.h0);refine⟨I.ok,I.os,I.bare,⟨I.base.keep,I.base.slot,λc u e n h=>by rw[aL (f e)];exact I.base.free c u e n h,I.base.there,λc xs e=>?_,λc u v e=>?_,λc ps e=>?_⟩,I.loc,I.cell,by rw[aL (a6 w.hL)];exact I.free,λx c e=>by rw[aL (w.hc x c e)];exact I.freeC x c e,λp d=>?_,I.hok.trackN w.hn a,I.len⟩
 .have:=I.base.tups c xs e;rw[aL (bL this w.hn)];exact this
 .have:=I.base.frzs c u v e;rw[aL (bL this w.hn)];exact this
 .obtain⟨m,q⟩:=I.base.tbls c ps e;exact⟨m,by rw[aL (bL q w.hn)];exact q⟩
 obtain⟨j,g,i⟩:=I.pin p d;exact⟨j,by rw[aL (w.hp p d)];exact g,i⟩
theorem Inv.addpin (I:Inv X pins σ H s) (w:EN X pins H b) (e:s.heap.get? b=ab o) (c:∀v,o.data≠.cell v) (d:b∉X.fs):Inv X ((b,o)::pins) σ H s:=I.pins_of λp a=>by
 rcases v_.mp a with rfl | a
 .exact⟨e,w.hn,w.hL,d,c⟩
 exact I.pin p (J_ _ a)
variable {f:ae}{x:av}{Q:av->aT->Prop}
theorem Lf (J:Hp->Prop) (hx:∀E',ax (aI X.prog X.w) A.in1 (kH x) (λvs s1=>∃(B:Hp) (l:ξ Int),Inv X pins σ B s1/\J B/\l.length=vs.length/\vs.length<64 /\
   (∀(p2:ξ (ae × dP)) (s':aT) (H':Hp),Inv X (p2++pins) σ H' s'->J H'->∀(i:Nat) (v:av) (k:Int),vs[i]?=ab v->l[i]?=ab k ->
    ax (aI X.prog X.w) A.in1.in1 (fT (.ref f) [v]) (λu d=>∃H'' t,Inv X (p2++pins) σ H'' d/\J H''/\u=.int k t) (λ_ _=>False) s') /\
   ∀(s':aT) (H':Hp) (D:ae) (out:Array av) (c:Nat),Inv X pins σ H' s'->J H'->EN X pins H' D->s'.heap.get? D=ab (a4 "list" out c)->KskOut ai l vs out.toList->Q (.ref D) s') E' s) :
  ax (aI X.prog X.w) A (fT (.builtin "sorted") [x] [(cr "key",.ref f)]) Q E s:=by
 refine call_function_entry_kw l8 kC kF (ksk_s1 _ _) ?_;unfold dt.«sorted»;refine a_ (m:=oC "sorted" 1 1 _) (i_ ?_);refine a_ (CA (hx _) (λvs s1 hv=>?_) λ_ _ e=>e);obtain⟨B,l,I,hJ,T,h64,Z,fin⟩:=hv;refine a_ (IZ ?_ (by rw[E8];omega));have O:EN X pins B s1.heap.objs.size:=EN.new I (o_ _);have fa:s1.heap.objs.size∉X.fs:=I.nofs (o_ _);have r:(s1.heap.push (a4 "list" vs.toArray 0)).get? s1.heap.objs.size=ab (a4 "list" vs.toArray 0):=l_ _ rfl;have L:Inv X pins σ B { s1 with heap:=s1.heap.push (a4 "list" vs.toArray 0)}:=I.kept λb u e=>b_ _ e;generalize s1.heap.objs.size=a at *;generalize s1.heap.push (a4 "list" vs.toArray 0)=h2 at *;refine a_ (DU (wpAny_call_entry_kw hH ⟨_,r,rfl⟩ fS ?body (ksk_l1 _ _)));show ax (aI X.prog X.w) A.in1.in1 (dt.«list.sort» ⟨[.ref a],[(cr "key",.ref f)]⟩) _ _ _;rw[ksk_t1];unfold ksk_tree;have sb:=Lm h2 a (a9 λ_=>(#[]:Array av));obtain⟨F,U⟩:∃F,(h2.update a (a9 λ_=>(#[]:Array av))).get? a=ab (a4 "list" #[] F):=⟨_,GN r λ_=>#[]⟩;refine a_ (NC r rfl ?_);refine a_ (ID r rfl ?_ (by rw[m_,E8];omega) (B8 _));have I3:=L.poke (ch:=[a]) (t':=s1.toks) (h':=h2.update a (a9 λ_=>(#[]:Array av))) (λb z=>by rw[j_.mp z];exact O) λc u P e=>(sb.2 c (by simpa using P)).trans e;generalize h2.update a (a9 λ_=>(#[]:Array av))=h3 at *;clear sb r L;refine a_ (MA U rfl ?_);refine a_ (hG ?_ (by show vs.length<=_;rw[E8];omega));refine a_ (IZ ?_ (B8 _));refine DU ?_;have I4:Inv X pins σ B { s1 with heap:=h3.push (a4 "tuple" vs.toArray 0)}:=I3.kept λb u e=>b_ _ e;have V:(h3.push (a4 "tuple" vs.toArray 0)).get? a=ab (a4 "list" #[] F):=b_ _ U;generalize h3.push (a4 "tuple" vs.toArray 0)=G at *;have C:EN X pins B G.objs.size:=EN.new I4 (o_ _);have fk:G.objs.size∉X.fs:=I4.nofs (o_ _);have I5:Inv X pins σ B { s1 with heap:=G.push (a4 "list" #[] 0)}:=I4.kept λb u e=>b_ _ e;have Y:G.objs.size≠a:=B9 (y_ V);have ho5:(G.push (a4 "list" #[] 0)).get? a=ab (a4 "list" #[] F):=b_ _ V;have hk5:(G.push (a4 "list" #[] 0)).get? G.objs.size=ab (a4 "list" #[] 0):=l_ _ rfl;generalize G.objs.size=g at *;generalize G.push (a4 "list" #[] 0)=h5 at *;have nc:∀(xs:Array av) (n:Nat) (v:ζ av),(a4 "list" xs n).data≠.cell v:=λ_ _ _ z=>by cases z
 have y:∀{H':Hp} {o:dP},H' g=af->EN X ((a,o)::pins) H' g:=λhn=>⟨C.h0,hn,C.hL,C.hc,λp q=>by
  rcases x_.mp q with q | q
  ·
   exact C.hp p (FU _ q)
  ·
   rcases v_.mp q with rfl | q
   ·
    exact a6 Y
   ·
    exact C.hp p (J_ _ q)⟩
 have I6:Inv X ((g,a4 "list" #[] 0)::(a,a4 "list" #[] F)::pins) σ B { s1 with heap:=h5}:=(I5.addpin O ho5 (nc _ _) fa).addpin (y C.hn) hk5 (nc _ _) fk;unfold ksk_rest;refine a_ (LY ?_);first
  |rw[List.forIn_toArray]
  | (rw[<- Po];simp only[List.toList_toArray])
  |rw[<- Po]
 refine a_ (ksk_fold (λi s'=>∃H' h e,Inv X ((g,a4 "list" h e)::(a,a4 "list" #[] F)::pins) σ H' s'/\J H'/\cS h.toList (l.take i)) vs 0 _ ⟨B,#[],0,I6,hJ,by simpa using IntsAre.nil⟩ ?step ?done)
 case step =>
  rintro j x s' hx ⟨H',h,e,N,M,R⟩
  simp only[kN] at R |-
  have hj:j<vs.length:=(IR.mp hx).1
  obtain⟨k,S⟩:∃k,l[j]?=ab k:=⟨_,e_ zo⟩
  have hz:h.size<=vs.length:=by
   have h1:=R.length
   rw[E7,F3] at h1
   omega
  refine a_ (NJ (CA (Z [(g,a4 "list" h e),(a,a4 "list" #[] F)] s' H' N M j x k hx S) (λv d he=>?_) λ_ _ hF=>hF.elim))
  obtain⟨H2,K,L,hJ2,rfl⟩:=he
  have L:Inv X ((g,a4 "list" h e)::(a,a4 "list" #[] F)::pins) σ H2 d:=L
  try dsimp only
  obtain⟨W,H,_⟩:=L.pin (g,a4 "list" h e) (J_ _ (.head _))
  have s2:=Lm d.heap g (a9 (·.push (.int k K)))
  obtain⟨c2,hc2⟩:∃c2,(d.heap.update g (a9 (·.push (.int k K)))).get? g=ab (a4 "list" (h.push (.int k K)) c2):=⟨_,GN W (·.push (.int k K))⟩
  have ek:l.take (j+1)=l.take j++[k]:=by rw[List.take_add_one,S];simp
  have ea:(h.push (c9 k K)).toList=h.toList++[c9 k K]:=Ap
  refine a_ (ID W rfl ?_ (by rw[E8];omega) (S_ (gS (Array.size_push ..)) (by rw[E8];omega)))
  have I3:Inv X ((a,a4 "list" #[] F)::pins) σ H2 d:=L.pins_of λp q=>L.pin p (J_ _ (.tail _ q))
  have I4:=I3.poke (ch:=[g]) (t':=d.toks) (h':=d.heap.update g (a9 (·.push (.int k K)))) (λb z=>by rw[j_.mp z];exact y H) λc u P e=>(s2.2 c (by simpa using P)).trans e
  exact i_ ⟨rfl,H2,h.push (.int k K),c2,I4.addpin (y H) hc2 (nc _ _) fk,hJ2,by rw[ea,ek];exact ksk_snoc R⟩
 case done =>
  rintro s' ⟨H',h,e,N,M,R⟩
  have hk':cS h.toList l:=by
   have e3:l.take (0+vs.length)=l:=NY zo
   rw[e3] at R
   exact R
  obtain⟨W,H,_⟩:=N.pin (g,a4 "list" h e) (J_ _ (.head _))
  obtain⟨na,nan,_⟩:=N.pin (a,a4 "list" #[] F) (J_ _ (.tail _ (.head _)))
  try dsimp only
  refine a_ (NC W rfl ?_)
  refine Fq W na Y hk' T h64 λh' out c kp g1 g2 ko=>⟨_,rfl,?_⟩
  have I7:Inv X pins σ H' s':=N.pins_of λp q=>N.pin p (J_ _ (.tail _ (.tail _ q)))
  have oa':EN X pins H' a:=⟨O.h0,nan,O.hL,O.hc,O.hp⟩
  have I8:=I7.poke (ch:=[g,a]) (t':=s'.toks) (h':=h') (λb z=>by
   rcases v_.mp z with rfl | z
   ·
    exact⟨C.h0,H,C.hL,C.hc,C.hp⟩
   ·
    rw[j_.mp z];exact oa') λc u P e=>kp c u (λz=>P (by rw[z];exact .head _)) (λz=>P (by rw[z];exact .tail _ (.head _))) e
  exact i_ ⟨_,rfl,fin _ H' a out c I8 M oa' g1 ko⟩
end
abbrev TK:=ξ AG
def KB (ks:ξ (TK × ae × V)) (xs:ξ (TK × ae × av)):Prop:=dQ (λp q=>p.1=q.1/\p.2.1=q.2.1/\z4 p.2.2 q.2.2) ks xs
noncomputable def fW (ks:ξ (TK × ae × V)) (k:TK):ζ V:=(ks.find? λx=>decide (x.1=k)).map (·.2.2)
noncomputable def mC (ks:ξ (TK × ae × V)) (k:TK) (b:ae) (v:V):ξ (TK × ae × V):=if (fW ks k).isSome then ks.map (λx=>if x.1=k then (x.1,x.2.1,v) else x) else ks++[(k,b,v)]
theorem KB.look (r:KB ks xs) (k:TK):DD (fW ks k) ((lc xs k).map (·.2)):=by
 induction r with
 |nil=>exact trivial
 |@cons p q l m h t a =>
 obtain⟨p1,i,f⟩:=p;obtain⟨d,g,c⟩:=q;obtain⟨rfl,rfl,b⟩:=h;unfold fW lc at a |-;rw[F5,F5];by_cases e:p1=k
 .rw[p_ (by exact e)];exact b
 rw[q_ (by exact e)];exact a
theorem KB.put (r:KB ks xs) (k:TK) (b:ae) (d:z4 v u):KB (mC ks k b v) (gL xs k b u):=by
 have e:=(r.look k).isSome_eq;rw[IJ] at e;unfold mC gL;rw[e];split
 .rename_i c;clear e c;induction r with
  |nil=>exact .nil
  |@cons p q l m h t a =>
  obtain⟨p1,o,j⟩:=p;obtain⟨i,n,g⟩:=q;obtain⟨rfl,rfl,f⟩:=h;refine .cons ?_ a;unfold zd;dsimp only;split <;> exact⟨rfl,rfl,by assumption⟩
 exact KF r ⟨rfl,rfl,d⟩
theorem uJ:(mC ks k b v).length<=ks.length+1:=by
 unfold mC;split
 .rw[g_];omega
 rw[d_];exact o_ _
def YO (P:bb) (w:bg) (a:ae) (ks:ξ (TK × ae × V)) (h:cn):Prop:=ks.length<=am/\(a==cw)=ai/\∃xs,KB ks xs/\∃o b ep,h.get? a=ab o/\o.ExactDict/\o.data=.dict b ep/\b.toList=xs.map (λx=>⟨tupleKeyHash (bc P w) x.1,.ref x.2.1,x.2.2⟩)/\(xs.map (·.1)).Nodup
noncomputable def BQ (P:bb) (w:bg) (a:ae) (ks:ξ (TK × ae × V)):HO:=.ext (YO P w a ks)
theorem BQ.ok (x:YO P w a ks h):W2 P' b H h a (BQ P w a ks) :=
 ⟨x,let ⟨_,_,_,_,o,_,_,e,_⟩:=x;⟨o,e⟩,λ_ _ ⟨z,y,xs,r,o,c,ep,e,q⟩ k=>⟨z,y,xs,r,o,c,ep,k o e,q⟩⟩
def E9 (K:a5) (H:Hp) (k:TK) (a:ae):Prop:=A3 K H a (k.map kV)
def uK (K:a5) (H:Hp) (ks:ξ (TK × ae × V)):Prop:=∀x∈ks,E9 K H x.1 x.2.1
section
variable {X:Cx}{pins:ξ (ae × dP)}{σ:St}
theorem E9.is (I:Inv X pins σ H s) (h:E9 X.K H k a):(ej (bc X.prog X.w)).is s.heap k a:=by obtain⟨b,r,⟨o,d,e,n,c⟩,_⟩:=I.tuple h;exact⟨o,b.toArray,n,d,e,c,by simpa using kZ r⟩
theorem rK (I:Inv X pins σ H s) (e:H a=ab (BQ X.prog X.w a ks)) (n:uK X.K H ks):ks.length<=am/\(a==cw)=ai/\∃xs,KB ks xs/\s.heap.DictOfH (ej (bc X.prog X.w)) a xs:=by
 obtain⟨z,t,xs,r,o,j,ep,p,i,f,h,u⟩:=(show W2 X.prog X.w H s.heap a (BQ X.prog X.w a ks) from I.hok a _ e).1;refine⟨z,t,xs,r,o,j,ep,p,i,f,h,λx b=>?_,u⟩;have d:∀{l:ξ (TK × ae × V)} {m:ξ (TK × ae × av)},KB l m->∀x∈m,∃y∈l,y.1=x.1/\y.2.1=x.2.1:=λq=>by
  induction q with
  |nil=>intro x b;exact nomatch b
  |cons hq _ g =>
  intro x b;rcases v_.mp b with rfl | b
  .exact⟨_,.head _,hq.1,hq.2.1⟩
  obtain⟨y,c,z⟩:=g x b;exact⟨y,.tail _ c,z⟩
 obtain⟨y,c,v,k⟩:=d r x b;have:=(n y c).is I
 rwa [v,k] at this
theorem Xu (g:A.units+30<br) (I:Inv X pins σ H s) (e:H a=ab (BQ X.prog X.w a ks)) (n:uK X.K H ks) (d:E9 X.K H k b) (h:∀s',Inv X pins σ H s'->Q (.bool (fW ks k).isSome) s'):ax (aI X.prog X.w) A (ba .In (.ref b) (.ref a)) Q E s:=by obtain⟨z,c,xs,r,f⟩:=rK I e n;refine nN (knd:=ej (bc X.prog X.w)) (show A.units+1<br by omega) (d.is I) c f ?_;have q:=(r.look k).isSome_eq;rw[IJ] at q;rw[<- q];exact h _ (I.tok _)
theorem Ft (g:A.units+30<br) (I:Inv X pins σ H s) (e:H a=ab (BQ X.prog X.w a ks)) (n:uK X.K H ks) (d:E9 X.K H k b) (h:∀s',Inv X pins σ H s'->Q (.bool (!(fW ks k).isSome)) s'):ax (aI X.prog X.w) A (ba .NotIn (.ref b) (.ref a)) Q E s:=by obtain⟨z,c,xs,r,f⟩:=rK I e n;refine ki (knd:=ej (bc X.prog X.w)) (show A.units+1<br by omega) (d.is I) c f ?_;have q:=(r.look k).isSome_eq;rw[IJ] at q;rw[<- q];exact h _ (I.tok _)
theorem Tr (y:A.units+30<br) (I:Inv X pins σ H s) (e:H a=ab (BQ X.prog X.w a ks)) (n:uK X.K H ks) (m:E9 X.K H k b) (C:ks.length<am) (o:z4 v r) (h:∀s',Inv X pins σ (As H a (BQ X.prog X.w a (mC ks k b v))) s'->Q () s'):ax (aI X.prog X.w) A (tm (.ref a) (.ref b) r) Q E s:=by
 obtain⟨z,u,xs,d,i⟩:=rK I e n;have g:xs.length<=am:=by rw[<- EO d];exact z
 refine oj (knd:=ej (bc X.prog X.w)) (hsz:=g) (show A.units+1<br by omega) (m.is I) i λh' c t=>h _ ?_;obtain⟨q,p,ep,hq,l,f,j,_,x⟩:=c;have B:=uJ (ks:=ks) (k:=k) (b:=b) (v:=v);exact jf I (by rw[e];exact cx) t ⟨q,hq⟩ (BQ.ok ⟨zo,u,_,d.put k b o,q,p,ep,hq,l,f,j,x⟩)
theorem Fv (I:Inv X pins σ H s):Inv X pins σ (As H s.heap.objs.size (BQ X.prog X.w s.heap.objs.size [])) { s with heap:=s.heap.push { cls:=.type "dict",data:=.dict #[]}} :=
 I.laid (a:=s.heap.objs.size) (t':=s.toks) (λ_ _ q=>b_ _ q) (o_ _) (BQ.ok ⟨B8 _,EB.mpr (a6 (H_ I.big)),[],.nil,_,#[],0,l_ _ rfl,⟨rfl,rfl,rfl⟩,rfl,rfl,LJ⟩)
end
abbrev NK:=Int × ξ aw
section
variable {s:aT}
noncomputable def uL (ns:ξ aw):ξ AG:=ns.map bv
theorem nO:∀{a b:ξ aw},uL a=uL b->a=b
 |[],[],_=>rfl
 |x::a,y::b,h=>by
  injection h with h1 h2
  rw[NW h1,nO (a:=a) (b:=b) h2]
def DE (prog:bb) (w:bg) (h:cn) (k:NK) (a:ae):Prop:=∃o t b n,h.get? a=ab o/\o.cls=.type "tuple"/\o.data=.seq #[.int k.1 t,.ref b] n/\xb (bc prog w) h (uL k.2) b
noncomputable def xV (w:bg) (k:NK):Int:=ox (iP [Rx w (.inl k.1),ox (iP ((uL k.2).map (Rx w)))])
theorem DE.ty (x:DE prog w s.heap k a):s.TypeIs (.ref a) "tuple":=let ⟨o,_,_,_,ho,hc,_⟩:=x;⟨o,ho,hc⟩
theorem DE.inj (l:DE prog w h x a) (k:DE prog w h y a):x=y:=by obtain⟨o,t,b,n,i,_,r,m⟩:=l;obtain⟨z,t',u,A,d,_,c,f⟩:=k;rw[i] at d;cases d;rw[r] at c;obtain⟨s,g⟩:=x;obtain⟨v,p⟩:=y;simp at c;obtain⟨⟨⟨q,_⟩,j⟩,_⟩:=c;subst q j;have e:g=p:=nO (m.inj f);rw[e]
theorem Fw (h:Q (ox z) s):ax (aI prog w) A (pyHashByItsType.reduced z) Q E s:=by
 show ax _ _ (if (decide (-(2:Int)^63<=z)&&decide (z<2^63))=ag then _ else _) Q E s;unfold ox at h;by_cases c:(decide (-(2:Int)^63<=z)&&decide (z<2^63))=ag
 .rw[z3 c] at h |-;exact i_ h
 rw[zD c] at h |-;exact a_ (LY (i_ h))
theorem Lg (f:A.units+1<br) (d:DE prog w s.heap k a) (h:Q (xV w k) { s with toks:=s.toks+(k.2.length+3)}):ax (aI prog w) A (pyHash (.ref a)) Q E s:=by
 have c:=d.ty;obtain⟨o,t,b,n,g,_,j,i⟩:=d;unfold pyHash;first | unfold pyHashByItsType | skip
 first | refine a_ (wpAny_cRoomFor_or (.inr zo) ?_) | skip
 refine a_ (LS c Q2.lookup ?_);show ax _ _ (if (ab (j3 "tuple.__hash__")==ab bp)=ag then _ else _) Q E s;rw[zD (by rw[beq_builtin_none];exact M_)];refine a_ (LS c Q2.lookup ?_);show ax _ _ (callSpecialIfBoundUnlessNone? (.ref a) "__hash__" _ >>= _) Q E s;refine a_ (wpAny_callSpecialIfBoundUnlessNone?_slot c Q2 (EH Q2 c F.entry_tuple_hash ?_ (F.args_tuple_hash_1 _)));show ax _ _ (dE (.ref a) >>= _) _ _ s;refine a_ (g5 g j (a_ ?_));rw[<- Po];show ax _ _ (forIn [c9 k.1 t,aS b] _ _) _ _ _;rw[HC];refine a_ (a_ ((bc prog w).pyHash (k:=.inl k.1) (qt k.1 t) (i_ ?_)));dsimp only;rw[HC];refine a_ (a_ (wpAny_pyHash_tuple (s:={ s with toks:=s.toks+1}) f i (i_ ?_)));dsimp only;rw[MM];refine i_ (wpAny_ret_mkInt ?_);refine Fw ?_;have e:k.2.length+3=1+((uL k.2).length+1)+1:=by unfold uL;rw[g_];omega
 rw[e,<- xA,<- xA] at h;exact h
theorem Tt (m:A.units<br) (v:DE prog w s.heap x a) (j:DE prog w s.heap y b) (h:R (.done (.ret (.bool (decide (x=y))))) s):ax (aI prog w) A (dt.«tuple.__eq__» ⟨[.ref a,.ref b],[]⟩) R E s:=by
 have u:=j.ty;obtain⟨o,t,c,n,r,_,p,k⟩:=v;obtain⟨F,t',D,G,g,_,f,d⟩:=j;show ax _ _ (uS (.ref b) (.type "tuple") >>= _) _ _ s;refine a_ (Of u fb ?_);simp only[Fm,u_,W_];refine a_ (g5 r p (a_ (g5 g f (a_ ?_))));show ax _ _ (forIn [(c9 x.1 t,c9 y.1 t'),(aS c,aS D)] _ _) _ _ _;rw[HC];refine a_ (a_ (rh ?_));obtain⟨q,l⟩:=x;obtain⟨B,C⟩:=y;dsimp only at h k d |-;by_cases e:q=B
 .subst e;rw[zD Ap];refine i_ ?_;dsimp only;rw[HC];refine a_ (a_ (wpAny_eqBool_tuple m k d ?_));by_cases i:l=C
  .subst i;rw[p_ rfl] at h;rw[p_ rfl,zD zC];refine i_ ?_;dsimp only;rw[MM];exact i_ (i_ h)
  rw[q_ (λz=>i (nO z)),z3 zC];rw[q_ (λz=>i (i8 z).2)] at h;exact a_ (i_ (i_ (i_ (i_ h))))
 rw[z3 (by simp [e])];rw[q_ (λz=>e (i8 z).1)] at h;exact a_ (i_ (i_ (i_ (i_ h))))
theorem Xv (f:A.units+1<br) (c:DE prog w s.heap x a) (d:DE prog w s.heap y b) (h:Q (decide (x=y)) s):ax (aI prog w) A (eqBool (.ref a) (.ref b)) Q E s:=by
 unfold eqBool;try with_reducible refine DU ?_
 show ax _ _ (if (aS a==aS b)=ag then _ else _) Q E s;by_cases e:(aS a==aS b)=ag
 .rw[z3 e];have g:a=b:=by have:=eq_of_beq e;injection this
  subst g;obtain rfl:=DE.inj c d;exact a_ (LY (i_ (by simpa using h)))
 rw[zD e];exact a_ (wpAny_richCompare_same_room (op:=.Eq) c.ty d.ty sR (EH sR c.ty F.entry_tuple_eq (Tt f c d ⟨_,rfl,(λe=>nomatch e),GO h⟩) (F.args_tuple_eq_2 _ _)) zo)
theorem Fx (x:DE prog w h k a) (f:h.get? d=ab o) (j:o.data=.dict es ep) (i:db d h h'):DE prog w h' k a:=by
 obtain⟨m,t,b,n,e,p,c,l⟩:=x;have g:a≠d:=by rintro rfl;rw[e] at f;cases f;rw[j] at c;cases c
 exact⟨m,t,b,n,(i.2 a g).trans e,p,c,l.keeps f j i⟩
theorem Tu (f:xb (bc prog w) s.heap ks a) (h:Q ag s):ax (aI prog w) A (rS 7 (.ref a)) Q E s:=by
 have e:=f.typeIs;obtain⟨o,c,n,i,_,k,j⟩:=f;unfold rS;refine a_ (LS e F.slot_tuple_eq.lookup ?_);show ax _ _ (uS (.ref a) (.type "tuple") >>= _) _ _ s;refine a_ (Of e fb ?_);simp only[Fm,u_,W_];refine a_ (Gc i k (a_ ?_));show ax _ _ (forIn c _ _) _ _ s;rw[<- Po];refine rf _ (λAB r s'=>r.1=af/\s'=s/\∀v∈AB,carriedByValue v=ag) _ ?_ ?_ _ _ ⟨rfl,rfl,j.byValue⟩
 .rintro v AB r s' ⟨g,rfl,b⟩;rw[pT _ (b v A_)];refine a_ (i_ ?_);simp only[Fm,u_,W_];exact i_ ⟨rfl,rfl,λu d=>b u (E_ _ d)⟩
 rintro⟨m,l⟩ s' ⟨g,rfl,_⟩;cases g;exact i_ h
theorem Fy (d:DE prog w s.heap k a) (h:Q ag s):ax (aI prog w) A (rS 8 (.ref a)) Q E s:=by have c:=d.ty;obtain⟨o,t,b,n,e,_,g,f⟩:=d;unfold rS;refine a_ (LS c F.slot_tuple_eq.lookup ?_);show ax _ _ (uS (.ref a) (.type "tuple") >>= _) _ _ s;refine a_ (Of c fb ?_);simp only[Fm,u_,W_];refine a_ (Gc e g (a_ ?_));show ax _ _ (forIn (#[c9 k.1 t,aS b]:Array av) _ _) _ _ s;rw[<- Po];show ax _ _ (forIn [c9 k.1 t,aS b] _ _) _ _ s;rw[HC,pT _ rfl];refine a_ (a_ (i_ ?_));rw[zD zC];refine i_ ?_;dsimp only;rw[HC];refine a_ (a_ (Tu f ?_));rw[zD zC];refine i_ ?_;dsimp only;rw[MM];exact i_ (i_ h)
end
noncomputable def fP (prog:bb) (w:bg):HeapKind prog w NK where
 is:=DE prog w
 hash:=xV w
 draws:=λk=>k.2.length+3
 room:=λA=>A.units+1<br
 inj:=λd c=>DE.inj d c
 keeps:=λx e g f=>Fx x e g f
 pyHash:=λa b h=>Lg a b h
 eqBool:=λa d c h=>Xv a d c h
 quiet:=λb h=>Fy b h
def KA (ks:ξ (NK × ae × V)) (xs:ξ (NK × ae × av)):Prop:=dQ (λp q=>p.1=q.1/\p.2.1=q.2.1/\z4 p.2.2 q.2.2) ks xs
noncomputable def fX (ks:ξ (NK × ae × V)) (k:NK):ζ V:=(ks.find? λx=>decide (x.1=k)).map (·.2.2)
noncomputable def Fz (ks:ξ (NK × ae × V)) (k:NK) (b:ae) (v:V):ξ (NK × ae × V):=if (fX ks k).isSome then ks.map (λx=>if x.1=k then (x.1,x.2.1,v) else x) else ks++[(k,b,v)]
theorem KA.look (r:KA ks xs) (k:NK):DD (fX ks k) ((lc xs k).map (·.2)):=by
 induction r with
 |nil=>exact trivial
 |@cons p q l m h t a =>
 obtain⟨p1,i,f⟩:=p;obtain⟨d,g,c⟩:=q;obtain⟨rfl,rfl,b⟩:=h;unfold fX lc at a |-;rw[F5,F5];by_cases e:p1=k
 .rw[p_ (by exact e)];exact b
 rw[q_ (by exact e)];exact a
theorem KA.put (r:KA ks xs) (k:NK) (b:ae) (d:z4 v u):KA (Fz ks k b v) (gL xs k b u):=by
 have e:=(r.look k).isSome_eq;rw[IJ] at e;unfold Fz gL;rw[e];split
 .rename_i c;clear e c;induction r with
  |nil=>exact .nil
  |@cons p q l m h t a =>
  obtain⟨p1,o,j⟩:=p;obtain⟨i,n,g⟩:=q;obtain⟨rfl,rfl,f⟩:=h;refine .cons ?_ a;unfold zd;dsimp only;split <;> exact⟨rfl,rfl,by assumption⟩
 exact KF r ⟨rfl,rfl,d⟩
def VA (w:bg) (a:ae) (ks:ξ (NK × ae × V)) (h:cn):Prop:=ks.length<=am/\(a==cw)=ai/\∃xs,KA ks xs/\∃o b ep,h.get? a=ab o/\o.ExactDict/\o.data=.dict b ep/\b.toList=xs.map (λx=>⟨xV w x.1,.ref x.2.1,x.2.2⟩)/\(xs.map (·.1)).Nodup
noncomputable def GB (w:bg) (a:ae) (ks:ξ (NK × ae × V)):HO:=.ext (VA w a ks)
theorem GB.ok (x:VA w a ks h):W2 P b H h a (GB w a ks) :=
 ⟨x,let ⟨_,_,_,_,o,_,_,e,_⟩:=x;⟨o,e⟩,λ_ _ ⟨z,y,xs,r,o,c,ep,e,q⟩ k=>⟨z,y,xs,r,o,c,ep,k o e,q⟩⟩
def EM (K:a5) (H:Hp) (k:NK) (a:ae):Prop:=∃b,A3 K H a [.int k.1,.ref b]/\A3 K H b (k.2.map V.str)
def CT (K:a5) (H:Hp) (ks:ξ (NK × ae × V)):Prop:=∀x∈ks,EM K H x.1 x.2.1
section
variable {X:Cx}{pins:ξ (ae × dP)}{σ:St}
theorem uM:∀{ns:ξ aw}{a:ξ av},zS (ns.map V.str) a->ItemsAre (bc X.prog X.w) (uL ns) a
 |[],_,.nil=>.nil
 |n::ns,_,.cons h t=>by
  obtain⟨t',rfl⟩:=h
  exact .cons (qu n t') (uM t)
theorem EM.is (I:Inv X pins σ H s) (h:EM X.K H k a):(fP X.prog X.w).is s.heap k a:=by
 obtain⟨b,m,d⟩:=h;obtain⟨g,r,⟨o,l,e,n,f⟩,_⟩:=I.tuple m;obtain⟨its',c,⟨q,j,i,v,u⟩,_⟩:=I.tuple d;cases r with
 |cons p1 t=>cases t with
  |cons p t=>cases t with
   |nil =>
    obtain⟨t,rfl⟩:=p1
    cases (show _=aS b from p)
    exact⟨o,t,b,n,l,e,f,q,_,v,j,i,u,by simpa using uM c⟩
theorem Pz (I:Inv X pins σ H s) (e:H a=ab (GB X.w a ks)) (n:CT X.K H ks):ks.length<=am/\(a==cw)=ai/\∃xs,KA ks xs/\s.heap.DictOfH (fP X.prog X.w) a xs:=by
 obtain⟨z,t,xs,r,o,j,ep,p,i,f,h,u⟩:=(show W2 X.prog X.w H s.heap a (GB X.w a ks) from I.hok a _ e).1;refine⟨z,t,xs,r,o,j,ep,p,i,f,h,λx b=>?_,u⟩;have d:∀{l:ξ (NK × ae × V)} {m:ξ (NK × ae × av)},KA l m->∀x∈m,∃y∈l,y.1=x.1/\y.2.1=x.2.1:=λq=>by
  induction q with
  |nil=>intro x b;exact nomatch b
  |cons hq _ g =>
  intro x b;rcases v_.mp b with rfl | b
  .exact⟨_,.head _,hq.1,hq.2.1⟩
  obtain⟨y,c,z⟩:=g x b;exact⟨y,.tail _ c,z⟩
 obtain⟨y,c,v,k⟩:=d r x b;have:=(n y c).is I
 rwa [v,k] at this
theorem Zl (g:A.units+30<br) (I:Inv X pins σ H s) (e:H a=ab (GB X.w a ks)) (n:CT X.K H ks) (d:EM X.K H k b) (h:∀s',Inv X pins σ H s'->Q (.bool (fX ks k).isSome) s'):ax (aI X.prog X.w) A (ba .In (.ref b) (.ref a)) Q E s:=by obtain⟨z,c,xs,r,f⟩:=Pz I e n;refine nN (knd:=fP X.prog X.w) (show A.units+1+1<br by omega) (d.is I) c f ?_;have q:=(r.look k).isSome_eq;rw[IJ] at q;rw[<- q];exact h _ (I.tok _)
theorem Lh (g:A.units+30<br) (I:Inv X pins σ H s) (e:H a=ab (GB X.w a ks)) (n:CT X.K H ks) (d:EM X.K H k b) (h:∀s',Inv X pins σ H s'->Q (.bool (!(fX ks k).isSome)) s'):ax (aI X.prog X.w) A (ba .NotIn (.ref b) (.ref a)) Q E s:=by obtain⟨z,c,xs,r,f⟩:=Pz I e n;refine ki (knd:=fP X.prog X.w) (show A.units+1+1<br by omega) (d.is I) c f ?_;have q:=(r.look k).isSome_eq;rw[IJ] at q;rw[<- q];exact h _ (I.tok _)
end
def W' (e C:ae) (d:ζ ae) (b:Bool) (h:cn):Prop:=∃vs a,h.get? e=ab ⟨.ref C,d,.fields vs,a⟩/\(b=ag->vs[1]?=ab .none)
noncomputable def n? (e C:ae) (d:ζ ae) (a:Bool):HO:=.ext (W' e C d a)
def i? (c:ae) (b:ξ (aw × V)) (h:cn):Prop:=∃a,h.Ns1 c a/\(∀f,DD (b.lookup f) (a f))/\kM a (b.map (·.1))
noncomputable def C! (b:ae) (a:ξ (aw × V)):HO:=.ext (i? b a)
end L2
namespace L3
open L2
set_option genInjectivity true in
inductive T where
 |non | bl (b:Bool) | int (i:Int) | str (x:aw) | tup (ts:List T) | ref (a:ae) | ty (n:String)
mutual
noncomputable def At (K:a5) (H:Hp):T->V->Prop
 |.non,v=>v=.non
 |.bl b,v=>v=.bl b
 |.int i,v=>v=.int i
 |.str x,v=>v=.str x
 |.tup ts,v=>∃a xs,v=.ref a/\A3 K H a xs/\nP K H ts xs
 |.ref a,v=>v=.ref a
 |.ty n,v=>v=.ty n
noncomputable def nP (K:a5) (H:Hp):List T->List V->Prop
 |[],xs=>xs=[]
 |t::ts,xs=>∃x r,xs=x::r/\At K H t x/\nP K H ts r
end
def t6 (K:a5) (H H':Hp):Prop:=(∀a xs,A3 K H a xs->A3 K H' a xs)/\∀b o u,H b=ab (.frz o u)->H' b=ab (.frz o u)
noncomputable instance {K:a5}{H H':Hp}:CoeFun (t6 K H H') λ_=>∀a xs,A3 K H a xs->A3 K H' a xs:=⟨λh=>h.1⟩
theorem t6.refl {K:a5}:t6 K H H:=⟨λ_ _ h=>h,λ_ _ _ h=>h⟩
theorem t6.trans {K:a5} (a:t6 K H d) (b:t6 K d e):t6 K H e:=⟨λc xs h=>b.1 c xs (a.1 c xs h),λc o u h=>b.2 c o u (a.2 c o u h)⟩
mutual
noncomputable def At.mono {K:a5} (b:t6 K H H'):∀{t:T}{v:V},At K H t v->At K H' t v
 |.non,_,h=>by simp only[At] at h |-;exact h
 |.bl _,_,h=>by simp only[At] at h |-;exact h
 |.int _,_,h=>by simp only[At] at h |-;exact h
 |.str _,_,h=>by simp only[At] at h |-;exact h
 |.ref _,_,h=>by simp only[At] at h |-;exact h
 |.ty _,_,h=>by simp only[At] at h |-;exact h
 |.tup ts,_,h=>by
  simp only[At] at h |-
  obtain⟨a,xs,e,s,r⟩:=h
  exact⟨a,xs,e,b.1 a xs s,nP.mono b r⟩
noncomputable def nP.mono {K:a5} (c:t6 K H H'):∀{ts:List T}{xs:List V},nP K H ts xs->nP K H' ts xs
 |[],_,h=>by simp only[nP] at h |-;exact h
 |t::ts,_,h=>by
  simp only[nP] at h |-
  obtain⟨x,r,e,a,b⟩:=h
  exact⟨x,r,e,At.mono c a,nP.mono c b⟩
end
section
variable {K:a5}
def nP.nil:nP K H [] []:=by simp only[nP]
def nP.cons (a:At K H t v) (b:nP K H ts vs):nP K H (t::ts) (v::vs):=by simp only[nP];exact⟨v,vs,rfl,a,b⟩
def nP.inv (h:nP K H (t::ts) vs):∃v r,vs=v::r/\At K H t v/\nP K H ts r:=by simp only[nP] at h;exact h
def nP.inv0 (h:nP K H [] vs):vs=[]:=by simp only[nP] at h;exact h
noncomputable def nP.length:∀{ts:ξ T}{vs:ξ V},nP K H ts vs->ts.length=vs.length
 |[],_,h=>by rw[h.inv0];rfl
 |t::ts,_,h=>by obtain⟨v,r,rfl,_,b⟩:=h.inv;simp [nP.length b]
noncomputable def nP.get:∀{ts:ξ T}{vs:ξ V}{i:Nat}{t:T},nP K H ts vs->ts[i]?=ab t->∃v,vs[i]?=ab v/\At K H t v
 |[],_,_,_,_,e=>by simp at e
 |a::ts,_,0,t,h,e=>by obtain⟨v,r,rfl,q,_⟩:=h.inv;simp at e;subst e;exact⟨v,rfl,q⟩
 |a::ts,_,i+1,t,h,e=>by obtain⟨v,r,rfl,_,b⟩:=h.inv;simpa using nP.get b (by simpa using e)
noncomputable def nP.get':∀{ts:ξ T}{vs:ξ V}{i:Nat}{v:V},nP K H ts vs->vs[i]?=ab v->∃t,ts[i]?=ab t/\At K H t v
 |[],_,_,_,h,e=>by rw[h.inv0] at e;simp at e
 |a::ts,_,0,v,h,e=>by obtain⟨x,r,rfl,q,_⟩:=h.inv;simp at e;subst e;exact⟨a,rfl,q⟩
 |a::ts,_,i+1,v,h,e=>by obtain⟨x,r,rfl,_,b⟩:=h.inv;simpa using nP.get' b (by simpa using e)
noncomputable def nP.append:∀{ts us:ξ T}{xs c:ξ V},nP K H ts xs->nP K H us c->nP K H (ts++us) (xs++c)
 |[],_,_,_,h,h'=>by rw[h.inv0];exact h'
 |t::ts,_,_,_,h,h'=>by obtain⟨v,r,rfl,a,b⟩:=h.inv;exact .cons a (nP.append b h')
noncomputable def nP.take:∀{ts:ξ T}{xs:ξ V}(n:Nat),nP K H ts xs->nP K H (ts.take n) (xs.take n)
 |[],_,n,h=>by rw[h.inv0];simp only[xB];exact .nil
 |t::ts,_,0,h=>.nil
 |t::ts,_,n+1,h=>by obtain⟨v,r,rfl,a,b⟩:=h.inv;exact .cons a (nP.take n b)
noncomputable def nP.drop:∀{ts:ξ T}{xs:ξ V}(n:Nat),nP K H ts xs->nP K H (ts.drop n) (xs.drop n)
 |[],_,n,h=>by rw[h.inv0];simp only[List.drop_nil];exact .nil
 |t::ts,_,0,h=>h
 |t::ts,_,n+1,h=>by obtain⟨v,r,rfl,a,b⟩:=h.inv;exact nP.drop n b
noncomputable def nP.set:∀{ts:ξ T}{xs:ξ V}{t:T}{v:V}(n:Nat),nP K H ts xs->At K H t v->nP K H (ts.set n t) (xs.set n v)
 |[],_,_,_,n,h,r=>by rw[h.inv0];exact .nil
 |t::ts,_,_,_,0,h,q=>by obtain⟨v,r,rfl,a,b⟩:=h.inv;exact .cons q b
 |t::ts,_,_,_,n+1,h,q=>by obtain⟨v,r,rfl,a,b⟩:=h.inv;exact .cons a (nP.set n b q)
def nP.reverse (h:nP K H ts xs):nP K H ts.reverse xs.reverse:=by
 induction ts generalizing xs with
 |nil=>rw[h.inv0];exact .nil
 |cons t ts c=>obtain⟨v,r,rfl,a,b⟩:=h.inv;simp only[ja];exact (c b).append (.cons a .nil)
def At.non (h:At K H .non v):v=.non:=by simp only[At] at h;exact h
def At.bl (h:At K H (.bl b) v):v=.bl b:=by simp only[At] at h;exact h
def At.int (h:At K H (.int i) v):v=.int i:=by simp only[At] at h;exact h
def At.str (h:At K H (.str x) v):v=.str x:=by simp only[At] at h;exact h
def At.ref (h:At K H (.ref a) v):v=.ref a:=by simp only[At] at h;exact h
def At.ty (h:At K H (.ty n) v):v=.ty n:=by simp only[At] at h;exact h
def At.tup (h:At K H (.tup ts) v):∃a xs,v=.ref a/\A3 K H a xs/\nP K H ts xs:=by simp only[At] at h;exact h
def At.ofNon:At K H .non .non:=by simp only[At]
def At.ofBl:At K H (.bl b) (.bl b):=by simp only[At]
def At.ofInt:At K H (.int i) (.int i):=by simp only[At]
def At.ofStr:At K H (.str x) (.str x):=by simp only[At]
def At.ofRef:At K H (.ref a) (.ref a):=by simp only[At]
def At.ofTy:At K H (.ty n) (.ty n):=by simp only[At]
def At.ofTup (h:A3 K H a xs) (r:nP K H ts xs):At K H (.tup ts) (.ref a):=by simp only[At];exact⟨a,xs,rfl,h,r⟩
end
inductive O3 where
 |lst (ts:List T) | rol (ts:List T) | dct (kvs:List (aw × T)) | dcp (kvs:List (List AG × T))
 |exc (C:ae) (d:Option ae) | xdt (fs:List (aw × T))
 |dci (kvs:List (Int × T)) | dif (o:dP) (kvs:List (Int × T)) | ins (C:ae) (fs:List (aw × T)) | dcn (w:bg) (kvs:List (NK × T)) | tab (pos:gE) (qual:aw) | dtk (P:bb) (w:bg) (kvs:List (TK × T))
abbrev lq:=ae->ζ O3
noncomputable def fY (H:lq) (a:ae) (o:O3):lq:=λb=>if b=a then ab o else H b
theorem aq:fY H a o a=ab o:=by unfold fY;rw[z3 rfl]
theorem aF (h:b≠a):fY H a o b=H b:=by unfold fY;rw[zD h]
theorem mJ:fY (fY H a o) a u=fY H a u:=by funext b;unfold fY;split <;> rfl
def FM (K:a5) (H:Hp):ξ (aw × T)->ξ (AG × V)->Prop:=dQ λ(p:aw × T) (q:AG × V)=>q.1=bv p.1/\At K H p.2 q.2
def Rl (K:a5) (H:Hp):ξ (ξ AG × T)->ξ (ξ AG × V)->Prop:=dQ λ(p:ξ AG × T) (q:ξ AG × V)=>q.1=p.1/\At K H p.2 q.2
def Iy (K:a5) (H:Hp):ξ (aw × T)->ξ (aw × V)->Prop:=dQ λ(p:aw × T) (q:aw × V)=>q.1=p.1/\At K H p.2 q.2
def ES (K:a5) (H:Hp):ξ (Int × T)->ξ (AG × V)->Prop:=dQ λ(p:Int × T) (q:AG × V)=>q.1=cK p.1/\At K H p.2 q.2
def DF (K:a5) (H:Hp):ξ (NK × T)->ξ (NK × ae × V)->Prop:=dQ λ(p:NK × T) (q:NK × ae × V)=>q.1=p.1/\EM K H q.1 q.2.1/\At K H p.2 q.2.2
def Go (K:a5) (H:Hp):ξ (TK × T)->ξ (TK × ae × V)->Prop:=dQ λ(p:TK × T) (q:TK × ae × V)=>q.1=p.1/\E9 K H q.1 q.2.1/\At K H p.2 q.2.2
def QU (K:a5) (H:Hp) (a:ae):O3->Prop
 |.lst ts=>∃xs,H a=ab (.lst xs)/\nP K H ts xs
 |.rol ts=>∃xs,Rd H a (.lst xs)/\nP K H ts xs
 |.dct kvs=>∃vs,H a=ab (.dK vs)/\FM K H kvs vs
 |.dcp kvs=>∃vs,H a=ab (.dT vs)/\Rl K H kvs vs
 |.exc C d=>H a=ab (n? a C d ai)
 |.xdt b=>∃vs,H a=ab (C! a vs)/\Iy K H b vs
 |.dci kvs=>∃vs,H a=ab (.dK vs)/\ES K H kvs vs
 |.dif o kvs=>∃vs,H a=ab (.frz o (.dK vs))/\ES K H kvs vs
 |.ins C b=>∃e vs,H a=ab (.ins C e vs)/\Iy K H b vs
 |.dcn w kvs=>∃ks,H a=ab (GB w a ks)/\DF K H kvs ks
 |.tab c qual=>Fo H a c qual
 |.dtk P w kvs=>∃ks,H a=ab (BQ P w a ks)/\Go K H kvs ks
def zc (K:a5) (H3:lq) (H:Hp):Prop:=∀a o,H3 a=ab o->QU K H a o
abbrev AV:=ξ (ζ T)
structure BI (K:a5) (H:Hp) (σ3:AV) (σ:L2.St):Prop where
 len:σ3.length=σ.length
 at':∀(i:Nat) (t:T),σ3[i]?=ab (ab t)->∃v,σ[i]?=ab (ab v)/\At K H t v
section
variable {K:a5}{H3:lq}
def BI.mono (s:BI K H σ3 σ) (a:t6 K H H'):BI K H' σ3 σ:=⟨s.len,λi t e=>let ⟨v,e',r⟩:=s.at' i t e;⟨v,e',r.mono a⟩⟩
def BI.set (s:BI K H σ3 σ) (r:At K H t v):BI K H (σ3.set i (ab t)) (σ.set i (ab v)):=by
 refine⟨by simp [s.len],λj u e=>?_⟩;by_cases b:i=j
 .subst b;by_cases a:i<σ3.length
  .rw[Sf a] at e;have c:t=u:=O_ (O_ e);subst c;exact⟨v,by rw[Sf (by rw[<- s.len];exact a)],r⟩
  rw[Ee (by simpa using a)] at e;cases e
 rw[P7 b] at e;rw[P7 b];exact s.at' j u e
theorem FM.mono (h:FM K H kvs vs) (c:t6 K H H'):FM K H' kvs vs:=Paired.mapP h λ_ _ ⟨a,b⟩=>⟨a,b.mono c⟩
theorem Iy.mono (h:Iy K H kvs vs) (c:t6 K H H'):Iy K H' kvs vs:=Paired.mapP h λ_ _ ⟨a,b⟩=>⟨a,b.mono c⟩
theorem ES.mono (h:ES K H kvs vs) (c:t6 K H H'):ES K H' kvs vs:=Paired.mapP h λ_ _ ⟨a,b⟩=>⟨a,b.mono c⟩
theorem Rl.mono (h:Rl K H kvs vs) (c:t6 K H H'):Rl K H' kvs vs:=Paired.mapP h λ_ _ ⟨a,b⟩=>⟨a,b.mono c⟩
theorem EM.mono (h:EM K H k a) (c:t6 K H H'):EM K H' k a:=let ⟨b,h1,h2⟩:=h;⟨b,c.1 _ _ h1,c.1 _ _ h2⟩
theorem Go.mono (h:Go K H kvs ks) (d:t6 K H H'):Go K H' kvs ks:=Paired.mapP h λ_ _ ⟨a,b,c⟩=>⟨a,d.1 _ _ b,c.mono d⟩
theorem DF.mono (h:DF K H kvs ks) (d:t6 K H H'):DF K H' kvs ks:=Paired.mapP h λ_ _ ⟨a,b,c⟩=>⟨a,EM.mono b d,c.mono d⟩
theorem P4 (h:H3 a=ab o) (h':H3 b=ab u) (d:o≠u):a≠b:=by intro e;subst e;rw[h] at h';exact d (O_ h')
theorem bB (h:H3 a=ab o) (h':H3 b=af):a≠b:=by intro e;subst e;rw[h] at h';cases h'
theorem aO (c:H p=af):t6 K H (As H p o):=⟨λa xs h=>by
 rcases h with (h | ⟨d,h⟩) | h
 .exact .inl (.inl (by rw[aL (bL h c)];exact h))
 .exact .inl (.inr ⟨d,by rw[aL (bL h c)];exact h⟩)
 exact .inr h,λb o u h=>by rw[aL (bL h c)];exact h⟩
theorem bW (c:Me (H p)):t6 K H (As H p o):=by
 have key:∀a u,H a=ab u->¬Me (ab u)->a≠p:=λa u e nm z=>by subst z;rw[e] at c;exact nm c
 refine⟨λa xs h=>?_,λb o u h=>by rw[aL (key _ _ h λz=>z)];exact h⟩;rcases h with (h | ⟨d,h⟩) | h
 .exact .inl (.inl (by rw[aL (key _ _ h λz=>z)];exact h))
 .exact .inl (.inr ⟨d,by rw[aL (key _ _ h λz=>z)];exact h⟩)
 exact .inr h
theorem QU.stay (h:QU K H a o) (d:t6 K H H') (b:∀u,H a=ab u->H' a=ab u):QU K H' a o:=by
 cases o with
 |lst ts=>obtain⟨xs,e,r⟩:=h;exact⟨xs,b _ e,r.mono d⟩
 |rol ts =>
  obtain⟨xs,e,r⟩:=h;refine⟨xs,?_,r.mono d⟩;rcases e with e | ⟨m,e⟩
  .exact .inl (b _ e)
  exact .inr ⟨m,b _ e⟩
 |dct kvs=>obtain⟨vs,e,r⟩:=h;exact⟨vs,b _ e,r.mono d⟩
 |dcp kvs=>obtain⟨vs,e,r⟩:=h;exact⟨vs,b _ e,r.mono d⟩
 |exc C g=>exact b _ h
 |xdt f=>obtain⟨vs,e,r⟩:=h;exact⟨vs,b _ e,r.mono d⟩
 |dci kvs=>obtain⟨vs,e,r⟩:=h;exact⟨vs,b _ e,r.mono d⟩
 |dif o kvs=>obtain⟨vs,e,r⟩:=h;exact⟨vs,b _ e,r.mono d⟩
 |ins C f=>obtain⟨g,vs,e,r⟩:=h;exact⟨g,vs,b _ e,r.mono d⟩
 |dcn w f=>obtain⟨vs,e,r⟩:=h;exact⟨vs,b _ e,r.mono d⟩
 |dtk P w f=>obtain⟨vs,e,r⟩:=h;exact⟨vs,b _ e,r.mono d⟩
 |tab l qual=>obtain⟨ps,e,j,q⟩:=h;exact⟨ps,b _ e,j,q.imp id λ⟨c,p,n,k,i⟩=>⟨c,p,n,d.2 _ _ _ k,i⟩⟩
theorem zc.new (s:zc K H3 H) (b:H p=af):zc K H3 (As H p o):=λa u e =>
 (s a u e).stay (aO b) λw q=>by rw[aL (bL q b)];exact q
theorem zc.fresh (s:zc K H3 H) (a:H p=af):H3 p=af:=by
 cases e:H3 p with
 |none=>rfl
 |some o =>
  have q:=s p o e
  cases o with
  |lst ts=>obtain⟨xs,z,_⟩:=q;rw[a] at z;cases z
  |dct ts=>obtain⟨xs,z,_⟩:=q;rw[a] at z;cases z
  |dcp ts=>obtain⟨xs,z,_⟩:=q;rw[a] at z;cases z
  |exc C b=>have z:H p=_:=q;rw[a] at z;cases z
  |xdt ts=>obtain⟨xs,z,_⟩:=q;rw[a] at z;cases z
  |dci ts=>obtain⟨xs,z,_⟩:=q;rw[a] at z;cases z
  |dif o ts=>obtain⟨xs,z,_⟩:=q;rw[a] at z;cases z
  |ins C ts=>obtain⟨b,xs,z,_⟩:=q;rw[a] at z;cases z
  |dcn w ts=>obtain⟨xs,z,_⟩:=q;rw[a] at z;cases z
  |tab c qual=>obtain⟨xs,z,_⟩:=q;rw[a] at z;cases z
  |dtk P w ts=>obtain⟨xs,z,_⟩:=q;rw[a] at z;cases z
  |rol ts =>
   obtain⟨xs,z,_⟩:=q
   rcases z with z | ⟨d,z⟩
   ·
    rw[a] at z;cases z
   ·
    rw[a] at z;cases z
end
abbrev AC:=T->lq->Prop
abbrev AF:=AV->lq->AC->Prop
abbrev DZ:=AV->lq->(Bool->lq->Prop)->Prop
abbrev CF:=AV->lq->(ξ T->lq->Prop)->Prop
structure UA where
 nx:AV->lq->Prop
 rt:AC
 bk:AV->lq->Prop:=λ_ _=>False
 ct:AV->lq->Prop:=λ_ _=>False
abbrev Co:=UA->AV->lq->Prop
abbrev Fk:=T->AV->lq->(AV->lq->Prop)->Prop
abbrev pY:=ξ T->AV->lq->(AV->lq->Prop)->Prop
abbrev R3:=T->T->lq->AC->Prop
section
variable (K:a5)
def HA (H:Hp) (Q3:AC) (Q:VK):Prop:=∀v H' t a,t6 K H H'->zc K a H'->At K H' t v->Q3 t a->Q v H'
def IF (H:Hp) (c:AV->lq->Prop) (N:L2.St->Hp->Prop):Prop:=∀σ' H' a b,t6 K H H'->BI K H' a σ'->zc K b H'->c a b->N σ' H'
def F4 (b:AF):TE:=λσ H Q=>∃a H3 Q3,BI K H a σ/\zc K H3 H/\b a H3 Q3/\HA K H Q3 Q
def CV (d:DZ):TT:=λσ H Q=>∃c H3 Q3,BI K H c σ/\zc K H3 H/\d c H3 Q3/\∀b H' a,t6 K H H'->zc K a H'->Q3 b a->Q b H'
def k? (c:CF):TA:=λσ H Q=>∃b H3 Q3,BI K H b σ/\zc K H3 H/\c b H3 Q3/\∀vs H' ts a,t6 K H H'->zc K a H'->nP K H' ts vs->Q3 ts a->Q vs H'
def Xw (c:Co):TS:=λD σ H=>∃b H3 a,BI K H b σ/\zc K H3 H/\c a b H3/\IF K H a.nx D.nx/\HA K H a.rt D.rt/\IF K H a.bk D.bk/\IF K H a.ct D.ct
def Li (b:Fk):TG:=λv σ H Q=>∃t a H3 Q3,At K H t v/\BI K H a σ/\zc K H3 H/\b t a H3 Q3/\IF K H Q3 Q
def Xx (b:pY):Nw:=λvs σ H Q=>∃ts a H3 Q3,nP K H ts vs/\BI K H a σ/\zc K H3 H/\b ts a H3 Q3/\IF K H Q3 Q
def FJ (c:R3):R2:=λx y H Q=>∃a b H3 Q3,At K H a x/\At K H b y/\zc K H3 H/\c a b H3 Q3/\HA K H Q3 Q
def V! (a:ξ T->lq->AC->Prop):ξ V->Hp->VK->Prop:=λxs H Q=>∃ts H3 Q3,nP K H ts xs/\zc K H3 H/\a ts H3 Q3/\HA K H Q3 Q
def T! (b:T->ξ T->lq->AC->Prop):V->ξ V->Hp->VK->Prop:=λx xs H Q=>∃a ts H3 Q3,At K H a x/\nP K H ts xs/\zc K H3 H/\b a ts H3 Q3/\HA K H Q3 Q
end
section
variable {K:a5}
theorem HA.at (k:HA K H Q3 Q) (b:t6 K H H1):HA K H1 Q3 Q:=λv H' t a l=>k v H' t a (b.trans l)
theorem IF.at (k:IF K H e N) (f:t6 K H H1):IF K H1 e N:=λa b c d l=>k a b c d (f.trans l)
end
def AA (X:Cx) (e:Expr) (t:AF):Prop:=PE X e (F4 X.K t)
def DT (X:Cx) (e:Expr) (t:DZ):Prop:=PT X e (CV X.K t)
def BB (X:Cx) (e:Expr) (t:DZ):Prop:=PW X e (CV X.K t)
def DL (X:Cx) (a:ξ Expr) (t:CF):Prop:=PA X a (k? X.K t)
def EV (X:Cx) (st:ez) (t:Co):Prop:=PS X st (Xw X.K t)
def pZ (X:Cx) (st:ξ ez) (t:Co):Prop:=Da X st (Xw X.K t)
def LG (X:Cx) (e:Expr) (t:Fk):Prop:=PG X e (Li X.K t)
def Lj (X:Cx) (a:ξ Expr) (t:pY):Prop:=HU X a (Xx X.K t)
def dU (X:Cx) (f:av->av->Sem av) (r:R3):Prop:=AX X f (FJ X.K r)
def dB (X:Cx) (f:av) (r:ξ T->lq->AC->Prop):Prop:=DC X f (V! X.K r)
def Xy (X:Cx) (r:R3):Prop:=E4 X (FJ X.K r)
def xW (X:Cx) (a:String) (r:T->ξ T->lq->AC->Prop):Prop:=HL X a (T! X.K r)
theorem PE.imp (h:PE X e t) (w:∀σ H Q,t' σ H Q->t σ H Q):PE X e t':=λpins s σ H Q I q=>h pins s σ H Q I (w σ H Q q)
theorem PT.imp (h:PT X e t) (w:∀σ H Q,t' σ H Q->t σ H Q):PT X e t':=λpins s σ H Q I q=>h pins s σ H Q I (w σ H Q q)
theorem PW.imp (h:PW X e t) (w:∀σ H Q,t' σ H Q->t σ H Q):PW X e t':=λa pins s σ H Q I q=>h a pins s σ H Q I (w σ H Q q)
theorem PA.imp (h:PA X b t) (w:∀σ H Q,t' σ H Q->t σ H Q):PA X b t':=λa pins s σ H Q I q=>h a pins s σ H Q I (w σ H Q q)
theorem PS.imp (h:PS X e t) (w:∀D σ H,t' D σ H->t D σ H):PS X e t':=λpins s σ H D I q=>h pins s σ H D I (w D σ H q)
theorem Da.imp (h:Da X e t) (w:∀D σ H,t' D σ H->t D σ H):Da X e t':=λpins s σ H D I q=>h pins s σ H D I (w D σ H q)
theorem PG.imp (h:PG X e t) (w:∀v σ H Q,t' v σ H Q->t v σ H Q):PG X e t':=λpins s σ H v u Q I r q=>h pins s σ H v u Q I r (w v σ H Q q)
theorem HU.imp (h:HU X e t) (w:∀v σ H Q,t' v σ H Q->t v σ H Q):HU X e t':=λpins s σ H v u Q I r q=>h pins s σ H v u Q I r (w v σ H Q q)
theorem AX.imp (h:AX X f t) (w:∀x y H Q,t' x y H Q->t x y H Q):AX X f t':=λpins s σ H x y v u Q I b a q=>h pins s σ H x y v u Q I b a (w x y H Q q)
theorem DC.imp (h:DC X f t) (w:∀x H Q,t' x H Q->t x H Q):DC X f t':=λpins s σ H x v Q I a q=>h pins s σ H x v Q I a (w x H Q q)
theorem E4.imp (h:E4 X t) (w:∀x y H Q,t' x y H Q->t x y H Q):E4 X t':=λa b pins s σ H x y v u Q I d c q=>h a b pins s σ H x y v u Q I d c (w x y H Q q)
theorem HL.imp (h:HL X a t) (w:∀x xs H Q,t' x xs H Q->t x xs H Q):HL X a t':=λpins s σ H x xs v us Q I c b q=>h pins s σ H x xs v us Q I c b (w x xs H Q q)
section
variable {X:Cx}{u?:gE}
def nQ (i:Nat):AF:=λσ H Q=>match σ[i]? with
 |some (ab t)=>Q t H
 |_=>False
def OS (t:T):AF:=λ_ H Q=>Q t H
theorem v3 (i:Nat) {b:gE} (f:X.N[i]?=ab x:=by rfl) (d:Os X.env.scope x:=by first | exact im rfl | exact e5 (im rfl) | exact e5 (e5 rfl)) (m:(x==("__debug__":aw))=ai:=by decide) (a:(x==("__classdict__":aw))=ai:=by decide):AA X (.Name x b) (nQ i):=by
 refine PE.imp (pv i f d m a) ?_;rintro σ H Q ⟨c,H3,Q3,j,g,h,k⟩;unfold nQ at h;split at h
 .rename_i t e;obtain⟨v,l,r⟩:=j.at' i t e;exact⟨v,l,k v H t H3 .refl g r h⟩
 exact h.elim
abbrev EK{X x}:=@v3 X x 9
abbrev CS{X x}:=@v3 X x 8
abbrev B5{X x}:=@v3 X x 7
abbrev BF{X x}:=@v3 X x 6
abbrev A6{X x}:=@v3 X x 5
abbrev AO{X x}:=@v3 X x 4
abbrev AI{X x}:=@v3 X x 3
abbrev AH{X x}:=@v3 X x 2
abbrev z5{X x}:=@v3 X x 1
abbrev zI{X x}:=@v3 X x 0
theorem ao:AA X (.Constant (.int i) j u?) (OS (.int i)):=by refine PE.imp RG ?_;rintro σ H Q ⟨b,H3,Q3,c,a,h,k⟩;exact k _ _ _ H3 .refl a .ofInt h
theorem bQ:AA X (.Constant (.bool b) j u?) (OS (.bl b)):=by refine PE.imp WK ?_;rintro σ H Q ⟨c,H3,Q3,d,a,h,k⟩;exact k _ _ _ H3 .refl a .ofBl h
theorem nR:AA X (.Constant .none j u?) (OS .non):=by refine PE.imp RJ ?_;rintro σ H Q ⟨b,H3,Q3,c,a,h,k⟩;exact k _ _ _ H3 .refl a .ofNon h
theorem cY:AA X (.Constant (.str x) j u?) (OS (.str x)):=by refine PE.imp RK ?_;rintro σ H Q ⟨b,H3,Q3,c,a,h,k⟩;exact k _ _ _ H3 .refl a .ofStr h
variable {a b c:Expr}{ta tb tc:AF}
def uN (r:R3) (a c:AF):AF:=λσ H Q=>a σ H λx b=>c σ b λy d=>r x y d Q
theorem jg (h:F4 X.K (uN r ta tb) σ H Q):OL (FJ X.K r) (F4 X.K ta) (F4 X.K tb) σ H Q:=by obtain⟨a,H3,Q3,i,m,h,k⟩:=h;exact⟨a,H3,_,i,m,h,λx s l d c g p j=>⟨a,d,_,i.mono c,g,j,λy t q e b f o n=>⟨l,q,e,Q3,p.mono b,o,f,n,k.at (c.trans b)⟩⟩⟩
theorem aG (d:dU X (ca op) r) (e:AA X a ta) (c:AA X b tb):AA X (.BinOp a op b u?) (uN r ta tb):=PE.imp (W4 d e c) λ_ _ _ h=>jg h
theorem cZ (c:dU X (ba op) r) (f:AA X a ta) (d:AA X b tb) (e:bP op b=ai:=by first | exact Eo _ | rfl):AA X (.Compare a [op] [b] u?) (uN r ta tb):=PE.imp (Kr c f d e) λ_ _ _ h=>jg h
theorem aK (c:Xy X r) (f:AA X a ta) (e:AA X b tb) (d:zM b:=by exact λ_ _=>rfl):AA X (.Subscript a b u?) (uN r ta tb):=PE.imp (Xh c f e d) λ_ _ _ h=>jg h
def iD (t:AF):DZ:=λσ H Q=>t σ H λx H'=>match x with
 |.bl k=>Q k H'
 |_=>False
theorem aR (f:dU X (ba op) r) (n:AA X a ta) (l:AA X b tb) (m:bP op b=ai:=by first | exact Eo _ | rfl):DT X (.Compare a [op] [b] u?) (iD (uN r ta tb)):=by
 refine PT.imp (Ks f n l m) ?_;rintro σ H Q ⟨c,H3,Q3,j,i,h,k⟩;refine jg (X:=X) ⟨c,H3,_,j,i,h,λv H' t d g e r q=>?_⟩;cases t with
 |bl b=>exact⟨b,r.bl,k b H' d g e q⟩
 |_=>exact q.elim
def rM (r b:R3) (f e a:AF):AF:=λσ H Q=>f σ H λx d=>e σ d λy g=>r x y g λz H3=>match z with
 |.bl k=>if k=ag then a σ H3 λw c=>b y w c Q else Q (.bl ai) H3
 |_=>False
theorem CW (h:F4 X.K (rM r u ta tb tc) σ H Q):Ep (FJ X.K r) (FJ X.K u) (F4 X.K ta) (F4 X.K tb) (F4 X.K tc) σ H Q:=by
 obtain⟨d,H3,Q3,i,G,h,k⟩:=h;refine⟨d,H3,_,i,G,h,λx M E j c l F J=>⟨d,j,_,i.mono c,l,J,λy L A m a n v D=>⟨E,A,m,_,F.mono a,v,n,D,λz H' t p g e I q=>?_⟩⟩⟩;cases t with
 |bl b =>
  refine⟨b,I.bl,?_⟩;cases b with
  |true=>exact⟨d,p,_,i.mono (c.trans (a.trans g)),e,q,λw N C s f o rw B=>⟨A,C,s,Q3,v.mono (g.trans f),rw,o,B,k.at (c.trans (a.trans (g.trans f)))⟩⟩
  |false=>exact k _ _ _ _ (c.trans (a.trans g)) e .ofBl q
 |_=>exact q.elim
variable {AB:ξ Expr}
theorem uO (l:dU X (ba op) r) (f:dU X (ba d) j) (u:AA X a ta) (p:AA X b tb) (w:AA X c tc) (s:lastMarks [op,d] [b,c]=ai:=by with_unfolding_all rfl):DT X (.Compare a [op,d] [b,c] u?) (iD (rM r j ta tb tc)):=by
 refine PT.imp (Er l f u p w s) ?_;rintro σ H Q ⟨e,H3,Q3,o,n,h,k⟩;refine CW (X:=X) ⟨e,H3,_,o,n,h,λv H' t g m i r q=>?_⟩;cases t with
 |bl b=>exact⟨b,r.bl,k b H' g m i q⟩
 |_=>exact q.elim
theorem bR (h:AA X a ta) (f:∀whole,isTrue a X.env whole=(do let v <- whole;ng a.pos;fh [v] (truthy v)):=by intro _;rfl):DT X a (iD ta):=by
 refine PT.imp (RL h f) ?_;rintro σ H Q ⟨c,H3,Q3,j,i,h,k⟩;refine⟨c,H3,_,j,i,h,λv H' t d g e r q=>?_⟩;cases t with
 |bl b=>exact⟨b,r.bl,k b H' d g e q⟩
 |_=>exact q.elim
def PB (t u:DZ):DZ:=λσ H Q=>t σ H λc a=>if c=ag then u σ a Q else Q ai a
def Xz (t u:DZ):DZ:=λσ H Q=>t σ H λc a=>if c=ag then Q ag a else u σ a Q
def PJ (t:DZ):DZ:=λσ H Q=>t σ H λc a=>Q (!c) a
theorem BB.pt (h:BB X a tA):DT X a tA:=PW.pt h
theorem eV (b:DT X a tA):BB X (.BoolOp .And [a] u?) tA:=Kc b
theorem d7 (b:DT X a tA):BB X (.BoolOp .Or [a] u?) tA:=RM b
theorem gG (r:DT X a tA) (o:BB X (.BoolOp .And (b::AB) u?) tB'):BB X (.BoolOp .And (a::b::AB) u?) (PB tA tB'):=by
 refine PW.imp (RN r o) ?_;rintro σ H Q ⟨d,H3,Q3,m,n,h,k⟩;refine⟨d,H3,_,m,n,h,λb H' e j g q=>?_⟩;cases b with
 |true=>exact⟨d,e,_,m.mono j,g,q,λb l f i c p=>k b l f (j.trans i) c p⟩
 |false=>exact k ai H' e j g q
theorem eZ (r:DT X a tA) (o:BB X (.BoolOp .Or (b::AB) u?) tB'):BB X (.BoolOp .Or (a::b::AB) u?) (Xz tA tB'):=by
 refine PW.imp (WL r o) ?_;rintro σ H Q ⟨d,H3,Q3,m,n,h,k⟩;refine⟨d,H3,_,m,n,h,λb H' e j g q=>?_⟩;cases b with
 |true=>exact k ag H' e j g q
 |false=>exact⟨d,e,_,m.mono j,g,q,λb l f i c p=>k b l f (j.trans i) c p⟩
theorem cC (j:DT X a tA):DT X (.UnaryOp .Not a u?) (PJ tA):=by refine PT.imp (RP j) ?_;rintro σ H Q ⟨c,H3,Q3,i,g,h,k⟩;exact⟨c,H3,_,i,g,h,λb H' d f e q=>k _ H' d f e q⟩
def FN (b d:AF):AF:=λσ H Q=>b σ H λx a=>match x with
 |.bl c=>if c=ag then d σ a Q else Q (.bl ai) a
 |_=>False
def PK (b d:AF):AF:=λσ H Q=>b σ H λx a=>match x with
 |.bl c=>if c=ag then Q (.bl ag) a else d σ a Q
 |_=>False
def FP (a:AF):AF:=λσ H Q=>a σ H λx b=>match x with
 |.bl c=>Q (.bl (!c)) b
 |_=>False
theorem lr (h:AA X a t):AA X (.BoolOp op [a] u?) t:=RQ h
theorem lu (l:AA X a ta) (j:AA X (.BoolOp .And (b::AB) u?) tb):AA X (.BoolOp .And (a::b::AB) u?) (FN ta tb):=by
 refine PE.imp (RV l j) ?_;rintro σ H Q ⟨c,H3,Q3,g,i,h,k⟩;refine⟨c,H3,_,g,i,h,λv H' t d f e r q=>?_⟩;cases t with
 |bl b =>
  refine⟨b,r.bl,?_⟩;cases b with
  |true=>exact⟨c,d,_,g.mono f,e,q,k.at f⟩
  |false=>exact k _ H' _ d f e .ofBl q
 |_=>exact q.elim
theorem XC (l:AA X a ta) (j:AA X (.BoolOp .Or (b::AB) u?) tb):AA X (.BoolOp .Or (a::b::AB) u?) (PK ta tb):=by
 refine PE.imp (WP l j) ?_;rintro σ H Q ⟨c,H3,Q3,g,i,h,k⟩;refine⟨c,H3,_,g,i,h,λv H' t d f e r q=>?_⟩;cases t with
 |bl b =>
  refine⟨b,r.bl,?_⟩;cases b with
  |true=>exact k _ H' _ d f e .ofBl q
  |false=>exact⟨c,d,_,g.mono f,e,q,k.at f⟩
 |_=>exact q.elim
theorem Tv (j:AA X a ta):AA X (.UnaryOp .Not a u?) (FP ta):=by
 refine PE.imp (RW j) ?_;rintro σ H Q ⟨c,H3,Q3,i,g,h,k⟩;refine⟨c,H3,_,i,g,h,λv H' t d f e r q=>?_⟩;cases t with
 |bl b=>exact⟨b,r.bl,k _ H' _ d f e .ofBl q⟩
 |_=>exact q.elim
def aaW (t:DZ) (b d:AF):AF:=λσ H Q=>t σ H λc a=>if c=ag then b σ a Q else d σ a Q
def FQ:CF:=λ_ H Q=>Q [] H
def FT (a:AF) (d:CF):CF:=λσ H Q=>a σ H λx b=>d σ b λxs c=>Q (x::xs) c
theorem ak:DL X [] FQ:=by refine PA.imp S8 ?_;rintro σ H Q ⟨b,H3,Q3,c,a,h,k⟩;exact k _ _ _ _ .refl a .nil h
theorem aa (u:AA X e te) (n:DL X es t) (o:aE (e::es) X.env=(ai,bt e X.env)::aE es X.env:=by rfl):DL X (e::es) (FT te t):=by refine PA.imp (KD u n o) ?_;rintro σ H Q ⟨b,H3,Q3,i,l,h,k⟩;exact⟨b,H3,_,i,l,h,λv H' t f g d r q=>⟨b,f,_,i.mono g,d,q,λvs s ts j c a m p=>k _ _ _ _ (g.trans c) a (.cons (r.mono c) m) p⟩⟩
def PL (t:CF):AF:=λσ H Q=>t σ H λxs a=>xs.length<=am/\Q (.tup xs) a
def PP (t:CF):AF:=λσ H Q=>t σ H λxs a=>xs.length<=am/\∀p,a p=af->Q (.ref p) (fY a p (.lst xs))
def zc.newTup {K:a5}{H3:lq} (a:H p=af) (r:nP K H ts xs):At K (As H p (.tup xs)) (.tup ts) (.ref p) :=
 .ofTup (.of aZ) (r.mono (aO a))
def zc.newLst {K:a5} (s:zc K H3 H) (b:H p=af) (r:nP K H ts xs):zc K (fY H3 p (.lst ts)) (As H p (.lst xs)):=λa o e=>by
 by_cases c:a=p
 .subst c;rw[aq] at e;cases e;exact⟨xs,aZ,r.mono (aO b)⟩
 rw[aF c] at e;exact s.new b a o e
theorem bF (h:DL X es t):AA X (.Tuple es x1 u?) (PL t):=by refine PE.imp (S9 h) ?_;rintro σ H Q ⟨b,H3,Q3,g,f,h,k⟩;refine⟨b,H3,_,g,f,h,λvs H' ts a e c r q=>⟨by rw[<- r.length];exact q.1,λp d=>?_⟩⟩;exact k _ _ _ a (e.trans (aO d)) (c.new d) (zc.newTup (H3:=a) d r) q.2
theorem bC (h:DL X es t):AA X (.List es u?) (PP t):=by refine PE.imp (Tc h) ?_;rintro σ H Q ⟨b,H3,Q3,f,e,h,k⟩;refine⟨b,H3,_,f,e,h,λvs H' ts g d a r q=>⟨by rw[<- r.length];exact q.1,λp c=>?_⟩⟩;exact k _ _ _ _ (d.trans (aO c)) (a.newLst c r) .ofRef (q.2 p (a.fresh c))
end
section
variable {X:Cx}{st:ez}{AB:ξ ez}{u?:gE}
def FW:Co:=λD σ H=>D.nx σ H
def zT (t u:Co):Co:=λD σ H=>t { D with nx:=u D} σ H
theorem aN:pZ X [] FW:=by refine Da.imp Kd ?_;rintro D σ H ⟨a,H3,e,c,b,h,d,_⟩;exact d _ _ _ _ .refl c b h
theorem aj (p:EV X st t) (k:pZ X AB u):pZ X (st::AB) (zT t u):=by refine Da.imp (Ek p k) ?_;rintro D σ H ⟨d,H3,o,m,l,h,n,j,g,i⟩;exact⟨d,H3,_,m,l,h,λσ' H' a e b c f q=>⟨a,e,o,c,f,q,n.at b,j.at b,g.at b,i.at b⟩,j,g,i⟩
theorem au (a:EV X st t):pZ X [st] t:=Ke a
def FZ (te:AF):Co:=λD σ H=>te σ H λ_ a=>D.nx σ a
theorem bM (f:AA X e te) (j:eh e af u?.line X.env=ce ai:=by rfl):EV X (.Expr e u?) (FZ te):=by refine PS.imp (Kf f j) ?_;rintro D σ H ⟨a,H3,l,d,g,h,i,_⟩;exact⟨a,H3,_,d,g,h,λv H' t k c b r q=>i _ _ _ _ c (d.mono c) b q⟩
def PQ (te:AF):Co:=λD σ H=>te σ H D.rt
theorem aJ (b:AA X e te):EV X (.Return (ab e) u?) (PQ te):=by refine PS.imp (RX b) ?_;rintro D σ H ⟨a,H3,i,d,c,h,g,f,_⟩;exact⟨a,H3,_,d,c,h,f⟩
def Tw:Co:=λD _ H=>D.rt .non H
def PX (c:DZ) (t u:Co):Co:=λD σ H=>c σ H λb a=>if b=ag then t D σ a else u D σ a
theorem aY (s:DT X c tc) (r:pZ X a t) (p:pZ X b u):EV X (.If c a b u?) (PX tc t u):=by
 refine PS.imp (WT s r p) ?_;rintro D σ H ⟨e,H3,n,i,o,h,m,k,j,l⟩;refine⟨e,H3,_,i,o,h,λb H' f d g q=>?_⟩;cases b with
 |true=>exact⟨e,f,n,i.mono d,g,q,m.at d,k.at d,j.at d,l.at d⟩
 |false=>exact⟨e,f,n,i.mono d,g,q,m.at d,k.at d,j.at d,l.at d⟩
def iG (i:Nat):Fk:=λv σ H Q=>Q (σ.set i (ab v)) H
theorem aC (i:Nat) (c:X.N.Nodup) (g:X.N[i]?=ab x:=by rfl) (f:HG X.env.scope x:=by first | exact im rfl | exact e5 rfl) (a:X.fn x=ag\/X.env.scope.names.lookup x=ab .local:=by first | exact .inl rfl | exact .inr rfl | assumption):LG X (.Name x u?) (iG i):=by refine PG.imp (Kg c g f a) ?_;rintro v σ H Q ⟨t,b,H3,Q3,r,e,d,h,k⟩;exact k _ _ _ _ .refl (e.set r) d h
def Ga:pY:=λts σ H Q=>match ts with
 |[]=>Q σ H
 |_=>False
def rN (t:Fk) (u:pY):pY:=λts σ H Q=>match ts with
 |x::r=>t x σ H λσ' H'=>u r σ' H' Q
 |[]=>False
theorem bN:Lj X [] Ga:=by
 refine HU.imp Kh ?_;rintro vs σ H Q ⟨ts,c,H3,Q3,r,b,a,h,k⟩;cases ts with
 |nil=>exact⟨r.inv0,k _ _ _ _ .refl b a h⟩
 |cons _ _=>exact h.elim
theorem aH {t:Fk}{u:pY} (p:LG X e t) (l:Lj X b u) (o:(d5 (e::b) X.env).map (·.2)=ia e X.env::(d5 b X.env).map (·.2):=by rfl):Lj X (e::b) (rN t u):=by
 refine HU.imp (Em p l o) ?_;rintro vs σ H Q ⟨ts,d,H3,Q3,r,n,m,h,k⟩;cases ts with
 |nil=>exact h.elim
 |cons x ts =>
 obtain⟨v,j,rfl,s,w⟩:=r.inv;exact⟨v,j,rfl,x,d,H3,_,s,n,m,h,λσ' H' a f i c g q=>⟨ts,a,f,Q3,w.mono i,c,g,q,k.at i⟩⟩
def Gb (n:Nat) (g:pY):Fk:=λt σ H Q=>match t with
 |.tup ts=>ts.length=n/\g ts σ H Q
 |_=>False
theorem cD {k:Nat}{t:pY} (j:X.calm=ag) (h:Lj X b t) (f:(d5 b X.env).length=n:=by rfl) (c:(d5 b X.env).findIdx? (·.1)=af:=by rfl):LG X (.Tuple b k u?) (Gb n t):=by
 refine PG.imp (RZ j h f c) ?_;rintro v σ H Q ⟨t,d,H3,Q3,r,i,g,h,k⟩;cases t with
 |tup ts=>obtain⟨a,xs,rfl,s,e⟩:=r.tup;exact⟨a,xs,rfl,s,by rw[<- e.length];exact h.1,ts,d,H3,Q3,e,i,g,h.2,k⟩
 |_=>exact h.elim
def uP (te:AF) (g:Fk):Co:=λD σ H=>te σ H λx a=>g x σ a D.nx
theorem nT (j:AA X e te) (k:LG X a g) (o:xk [a] e u?.line X.env=ce ai:=by rfl) (l:xo [a] e X.env=ce af:=by rfl) (p:(d5 [a] X.env).map (·.2)=[ia a X.env]:=by rfl):EV X (.Assign [a] e u?) (uP te g):=by refine PS.imp (Sg j k o l p) ?_;rintro D σ H ⟨b,H3,s,i,m,h,n,_⟩;exact⟨b,H3,_,i,m,h,λv H' t d f c r q=>⟨t,b,d,_,r,i.mono f,c,q,n.at f⟩⟩
theorem aD (i:Nat) {a:gE} (k:X.N.Nodup) (g:AA X e te) (p:X.N[i]?=ab x:=by rfl) (o:HG X.env.scope x:=by first | exact im rfl | exact e5 rfl) (n:eh e (ab (.Name x a)) u?.line X.env=ce ai:=by rfl) (j:X.fn x=ag\/X.env.scope.names.lookup x=ab .local:=by first | exact .inl rfl | exact .inr rfl | assumption):
  EV X (.Assign [.Name x a] e u?) (uP te (iG i)):=by
 refine PS.imp (Sh k p o g n j) ?_;rintro D σ H ⟨b,H3,u,f,l,h,m,_⟩;exact⟨b,H3,_,f,l,h,λv H' t s d c r q=>m _ _ _ _ d ((f.mono d).set r) c q⟩
end
abbrev uQ:=T->T->T->lq->(lq->Prop)->Prop
def Tz (K:a5) (e:uQ):El:=λo i v H Q=>∃b c d H3 Q3,At K H b o/\At K H c i/\At K H d v/\zc K H3 H/\e b c d H3 Q3/\∀H' a,t6 K H H'->zc K a H'->Q3 a->Q H'
def P0 (X:Cx) (t:uQ):Prop:=L4 X (Tz X.K t)
theorem L4.imp (h:L4 X t) (w:∀o i v H Q,t' o i v H Q->t o i v H Q):L4 X t':=λpins s σ H o i v b c u Q I e a d q=>h pins s σ H o i v b c u Q I e a d (w o i v H Q q)
def Qa (b a:AF) (t:uQ):Fk:=λv σ H Q=>b σ H λo c=>a σ c λi d=>t o i v d λH3=>Q σ H3
theorem TF (y:AA X o e) (u:AA X i d) (z:P0 X t) (x:∀v,ia (.Subscript o i u?) X.env v=(do
   let ov <- fh [v] (bt o X.env)
   let iv <- fh [v,ov] (bt i X.env)
   ng u?
   fh [v,ov,iv] (tm ov iv v)
   release [v,ov,iv] []):=by intro _;rfl):LG X (.Subscript o i u?) (Qa e d t):=by
 refine PG.imp (Sd y u z x) ?_;rintro v σ H Q ⟨t,c,H3,Q3,r,f,B,h,k⟩;exact⟨c,H3,_,f,B,h,λo F e j b l A D=>⟨c,j,_,f.mono b,l,D,λi E d m a n w s=>⟨e,d,t,m,_,A.mono a,w,r.mono (b.trans a),n,s,λH' C p g q=>k _ _ _ _ (b.trans (a.trans p)) (f.mono (b.trans (a.trans p))) g q⟩⟩⟩
abbrev Fn:=AV->lq->(ξ T->(lq->Prop)->lq->Prop)->Prop
def lO (K:a5) (J:It) (ts:ξ T) (still:lq->Prop) (H:Hp):Prop:=∀H' b,t6 K H H'->zc K b H'->still b ->
 (∀i,ts.length<=i->J.stop i H')/\∀i t,ts[i]?=ab t->J.go i H'/\∀x a,J.yld i H' x a->t6 K H' a/\zc K b a/\At K a t x
def R! (K:a5) (c:Fn):TI:=λσ H R=>∃b H3 R3,BI K H b σ/\zc K H3 H/\c b H3 R3/\∀J ts still H' a,t6 K H H'->zc K a H'->lO K J ts still H'->R3 ts still a->R J H'
def FH (X:Cx) (b a:Expr) (t:Fn):Prop:=PI X b a (R! X.K t)
theorem PI.imp (h:PI X a e t) (w:∀σ H R,t' σ H R->t σ H R):PI X a e t':=λpins s σ H R I q=>h pins s σ H R I (w σ H R q)
def dR:lq->Prop:=λ_=>True
def bK (a:ae) (ts:ξ T):lq->Prop:=λH=>H a=ab (.lst ts)\/H a=ab (.rol ts)
def zc.sqL {K:a5} (s:zc K H3 H) (h:bK a ts H3):∃xs,BN K H a xs/\nP K H ts xs:=by
 rcases h with h | h
 .obtain⟨xs,e,r⟩:=s a _ h;exact⟨xs,.of e,r⟩
 obtain⟨xs,e,r⟩:=s a _ h;exact⟨xs,.inl e,r⟩
section
variable {tg l:Expr}{u? p:gE}
def Gd (c:AF):Fn:=λσ H R=>c σ H λx b=>match x with
 |.ref a=>match b a with
  |some (.lst ts)=>R ts (bK a ts) b
  |some (.rol ts)=>R ts (bK a ts) b
  |_=>False
 |_=>False
theorem qK {K:a5}:lO K (UC K a) ts (bK a ts) H:=λH' g l d st=>by
 obtain⟨xs,b,f⟩:=d.sqL st;have n:=f.length;refine⟨λi m=>⟨xs,b,zo⟩,λi t e=>?_⟩;obtain⟨v,c,h⟩:=f.get e;refine⟨⟨xs,v,b,c⟩,λx j y=>?_⟩;obtain⟨k,y⟩:=y;subst k;have:=y xs b;rw[c] at this;cases this;exact⟨.refl,d,h⟩
theorem bD (o:AA X l tl):FH X tg l (Gd tl):=by
 refine PI.imp (Kl o) ?_;rintro σ H R ⟨g,H3,R3,n,j,h,k⟩;refine⟨g,H3,_,n,j,h,λv H' t b i c r q=>?_⟩;cases t with
 |ref a =>
  have d:(match b a with
   |some (.lst ts)=>R3 ts (bK a ts) b
   |some (.rol ts)=>R3 ts (bK a ts) b
   |_=>False):=q
  split at d
  ·
   rename_i ts e
   obtain⟨xs,f,m⟩:=c.sqL (.inl e)
   exact⟨a,r.ref,⟨xs,f⟩,k _ ts (bK a ts) H' b i c qK d⟩
  ·
   rename_i ts e
   obtain⟨xs,f,m⟩:=c.sqL (.inr e)
   exact⟨a,r.ref,⟨xs,f⟩,k _ ts (bK a ts) H' b i c qK d⟩
  ·
   exact d.elim
 |_=>exact q.elim
def Qc (b:AF):Fn:=λσ H R=>b σ H λx a=>match x with
 |.tup ts=>R ts dR a
 |_=>False
def Ge {K:a5} (c:A3 K H a xs) (f:nP K H ts xs):lO K (TD K a) ts dR H:=λH' h b g st=>by
 have n:=f.length;refine⟨λi m=>⟨xs,b.1 _ _ c,zo⟩,λi t e=>?_⟩;obtain⟨v,d,j⟩:=f.get e;refine⟨⟨xs,v,b.1 _ _ c,d⟩,λx k y=>?_⟩;obtain⟨l,y⟩:=y;subst l;have:=y xs (b.1 _ _ c);rw[d] at this;cases this;exact⟨.refl,g,j.mono b⟩
theorem bY (n:AA X l tl):FH X tg l (Qc tl):=by
 refine PI.imp (Su n) ?_;rintro σ H R ⟨b,H3,R3,m,i,h,k⟩;refine⟨b,H3,_,m,i,h,λv H' t c g d r q=>?_⟩;cases t with
 |tup ts=>obtain⟨a,xs,e,f,j⟩:=r.tup;exact⟨a,e,⟨xs,f⟩,k _ ts dR H' c g d (Ge f j) q⟩
 |_=>exact q.elim
noncomputable def fH (a:Int) (n:Nat):ξ T:=(ay n).map λ(i:Nat)=>T.int (a+i)
theorem uR {K:a5}:lO K (PZ b n) (fH b n) dR H:=λH' f j d st=>by
 refine⟨λi a=>by unfold fH at a;simp at a;exact a,λi t e=>?_⟩;unfold fH at e;rw[C_] at e;by_cases a:i<n
 .rw[FR a] at e;cases e;refine⟨a,λx g y=>?_⟩;obtain⟨h,c⟩:=y;subst h;subst c;exact⟨.refl,d,.ofInt⟩
 rw[Ee (by simpa using a)] at e;cases e
def Gf (b:CF):Fn:=λσ H R=>b σ H λvs a=>match vs with
 |[.int j]=>-(2^62)<=j/\j<2^62/\R (fH 0 j.toNat) dR a
 |[.int i,.int j]=>(-(2^62)<=i/\i<2^62 /\ -(2^62)<=j/\j<2^62)/\R (fH i (j - i).toNat) dR a
 |_=>False
theorem cB (g:Gl X "range") (u:X.mg "range"=af) (x:DL X [a] f) (o:aE [a] X.env=[(ai,bt a X.env)]:=by rfl):FH X tg (.Call (.Name "range" p) [a] [] u?) (Gf (λσ H Q=>f σ H λvs i=>vs.length=1/\Q vs i)):=by
 refine PI.imp (Cm g u x o) ?_;rintro σ H R ⟨b,H3,R3,n,m,h,k⟩;refine⟨b,H3,_,n,m,h,λvs H' ts d l c r q=>?_⟩;obtain⟨e,q⟩:=q;cases ts with
 |nil=>cases e
 |cons t ts =>
 cases ts with
 |cons _ _=>simp at e
 |nil =>
 cases t with
 |int j=>obtain⟨v,_,rfl,w,s⟩:=r.inv;rw[s.inv0,w.int];exact⟨j,rfl,q.1,q.2.1,k _ _ _ H' d l c uR q.2.2⟩
 |_=>exact q.elim
theorem CZ {l:CF} (m:Gl X "range") (A:X.mg "range"=af) (o:DL X [a,b] l) (s:aE [a,b] X.env=[(ai,bt a X.env),(ai,bt b X.env)]:=by rfl) (g:aE [b] X.env=[(ai,bt b X.env)]:=by rfl):
  FH X tg (.Call (.Name "range" p) [a,b] [] u?) (Gf (λσ H Q=>l σ H λvs t=>vs.length=2/\Q vs t)):=by
 refine PI.imp (Cp m A o s g) ?_;rintro σ H R ⟨d,H3,R3,n,w,h,k⟩;refine⟨d,H3,_,n,w,h,λvs H' ts f z c r q=>?_⟩;obtain⟨B,q⟩:=q
 match ts,B,r with
 |[t1,t2],_,r =>
 obtain⟨v,_,rfl,x,y⟩:=r.inv;obtain⟨C,_,rfl,e,u⟩:=y.inv;cases t1 with
 |int i =>
  cases t2 with
  |int j=>rw[u.inv0,x.int,e.int];exact⟨i,j,rfl,q.1,k _ _ _ H' f z c uR q.2⟩
  |_=>exact q.elim
 |_=>cases t2 <;> exact q.elim
end
noncomputable def Fs (g:Fk) (a:Co) (D:UA) (still:lq->Prop):ξ T->AV->lq->Prop
 |[],σ,H=>still H/\D.nx σ H
 |t::r,σ,H=>still H/\g t σ H λb c=>a { D with nx:=Fs g a D still r,ct:=Fs g a D still r,bk:=D.nx} b c
theorem Fs.st (h:Fs g a D still ts σ H):still H:=by
 cases ts with
 |nil=>exact h.1
 |cons t r=>exact h.1
def Qd (c:Fn) (g:Fk) (b:Co):Co:=λD σ H=>c σ H λts still a=>Fs g b D still ts σ a
theorem bf (hp:r0 (aI X.prog X.w) X.A X.env X.xe) (hc:X.calm=ag) (W:FH X tg iter Y) (hg:LG X tg g) (hb:pZ X k p) (hs:∀x,dS iter X.env x=ce x:=by intro _;rfl):EV X (.For tg iter k [] u?) (Qd Y g p):=by
 refine PS.imp (Sv hp hc W hg hb hs) ?_;rintro D σ H ⟨f,H3,E,U,sh,h,V,k2,k3,k4⟩;refine⟨f,H3,_,U,sh,h,λJ ts still t N F O wk q=>?_⟩;refine⟨λi m σ H=>∃f H3,t6 X.K t H/\BI X.K H f σ/\zc X.K H3 H/\m=ts.length - i/\i<=ts.length/\Fs g p E still (ts.drop i) f H3,⟨ts.length,f,N,.refl,U.mono F,O,rfl,B8 _,by simpa using q⟩,?_⟩;rintro i m σ H ⟨S,Z,n,v,u,rfl,W,it⟩;have w:=wk H Z n u it.st;by_cases o:i<ts.length
 .have e:=e_ o;have ed:ts.drop i=ts[i]::ts.drop (i+1):=iO o;rw[ed] at it;obtain⟨st,it⟩:=it;obtain⟨go,yl⟩:=w.2 i _ e;refine .inr ⟨go,λσ' H'=>∃f H3,t6 X.K t H'/\BI X.K H' f σ'/\zc X.K H3 H'/\Fs g p E still (ts.drop (i+1)) f H3,λσ' H' ⟨s5,h5,a,b,c,d⟩=>⟨ts.length - (i+1),zo,s5,h5,a,b,c,rfl,o,d⟩,λx H' y=>?_⟩;obtain⟨z,I,rx⟩:=yl x H' y;refine⟨ts[i],S,Z,_,rx,v.mono z,I,it,λσ2 M r P G L Q q2=>?_⟩;have j:t6 X.K t M:=n.trans (z.trans G);have T:∀(B:t6 X.K t M),IF X.K M (Fs g p E still (ts.drop (i+1))) (λσ' H'=>∃f H3,t6 X.K t H'/\BI X.K H' f σ'/\zc X.K H3 H'/\Fs g p E still (ts.drop (i+1)) f H3) :=
   λB σ' H' C R l s h q=>⟨C,R,B.trans l,s,h,q⟩
  exact⟨r,P,_,L,Q,q2,T j,k2.at (F.trans j),V.at (F.trans j),T j⟩
 have e:i=ts.length:=zo
 subst e;rw[se] at it;exact .inl ⟨w.1 _ (o_ _),V _ _ _ _ (F.trans n) v u it.2⟩
def zU (c:DZ) (e:Co):Co:=λD σ H=>∃W:Nat->AV->lq->Prop,(∃m,W m σ H)/\∀m σ H,W m σ H ->
 c σ H λb d=>if b=ag then e { D with nx:=λσ' H'=>∃a,a<m/\W a σ' H',ct:=λσ' H'=>∃a,a<m/\W a σ' H',bk:=D.nx} σ d else D.nx σ d
theorem jT (B:r0 (aI X.prog X.w) X.A X.env X.xe) (L:DT X c t) (E:pZ X f x):EV X (.While c f [] u?) (zU t x):=by
 refine PS.imp (En B L E) ?_;rintro D σ H ⟨a,H3,S,z,G,⟨W,⟨O,I⟩,n⟩,v,N,Q,R⟩;refine⟨λm σ' H'=>∃a H3,t6 X.K H H'/\BI X.K H' a σ'/\zc X.K H3 H'/\W m a H3,⟨O,a,H3,.refl,z,G,I⟩,?_⟩;rintro m J T ⟨j,y,e,i,p,M⟩;refine⟨j,y,_,i,p,n m j y M,λb C F d k q=>?_⟩;cases b with
 |true =>
  rw[z3 rfl] at q |-;have u:IF X.K C (λσ' H'=>∃g,g<m/\W g σ' H') (λσ' H'=>∃g,g<m/\∃a H3,t6 X.K H H'/\BI X.K H' a σ'/\zc X.K H3 H'/\W g a H3) :=
   λσ' H' o r l s h ⟨g,P,w⟩=>⟨g,P,o,r,e.trans (d.trans l),s,h,w⟩
  exact⟨_,λσ' H' h=>h,j,F,_,i.mono d,k,q,u,N.at (e.trans d),v.at (e.trans d),u⟩
 |false =>
 rw[zD M_] at q |-;exact v _ _ _ _ (e.trans d) (i.mono d) k q
def Lk (X:Cx) (a:ξ Expr) (t:DZ):Prop:=NA X a (CV X.K t)
def zV:DZ:=λ_ H Q=>Q ag H
theorem bT:Lk X [] zV:=λpins s σ H Q I ⟨b,H3,Q3,c,a,h,k⟩=>K8 pins s σ H Q I (k _ _ _ .refl a h)
theorem c7 (h:DT X c t):Lk X [c] t:=K9 h
noncomputable def nU (nt:Nat) (cap:ξ Nat) (σ:AV):AV:=a3 nt af++cap.map λj=>(σ[j]?).getD af
def rO {K:a5} (s:BI K H a σ):BI K H (nU nt cap a) (pX nt cap σ):=by
 refine⟨by simp [nU,pX],λi t e=>?_⟩;unfold nU at e;unfold pX;by_cases c:i<nt
 .rw[NR (by simpa using c),Sr] at e;split at e <;> cases e
 rw[Z_ (by simpa using c),C_] at e;rw[Z_ (by simpa using c),C_];simp only[IQ] at e |-;cases q:cap[i - nt]? with
 |none=>rw[q] at e;cases e
 |some j =>
 rw[q] at e;have b:(a[j]?).getD af=ab t:=O_ e;have f:a[j]?=ab (ab t):=by
  cases z:a[j]? with
  |none=>rw[z] at b;cases b
  |some y=>rw[z] at b;exact U_ ab b
 obtain⟨v,d,r⟩:=s.at' j t f;exact⟨v,by simp [d],r⟩
noncomputable def EG (g:Fk) (tt:DZ) (te:AF) (still:lq->Prop) (c:ξ T->lq->Prop):ξ T->ξ T->AV->lq->Prop
 |[],ys,σ,H=>still H/\ys.length<=am/\c ys H
 |t::r,ys,σ,H=>still H/\g t σ H λa e=>tt a e λb H3=>if b=ag then te a H3 λy d=>ys.length<am/\EG g tt te still c r (ys++[y]) a d else EG g tt te still c r ys a H3
theorem EG.st (h:EG g tt te still a ts b σ H):still H:=by
 cases ts with
 |nil=>exact h.1
 |cons t r=>exact h.1
def Gg {K:a5} (S:lO K J ts still r) (R:BI K r c σ) (sh:zc K p r) (h:EG g tt te still d ts [] c p) (hf:∀o us H' H3',t6 K r H'->zc K H3' H'->nP K H' o us->d o H3'->A us H'):zR J (Li K g) (CV K tt) (F4 K te) A σ r:=by
 refine⟨λi m us σ H=>∃c H3 o,t6 K r H/\BI K H c σ/\zc K H3 H/\nP K H o us/\m=ts.length - i/\i<=ts.length/\EG g tt te still d (ts.drop i) o c H3,⟨ts.length,c,p,[],.refl,R,sh,.nil,rfl,B8 _,by simpa using h⟩,?_⟩;rintro i m us σ H ⟨O,Q,o,j,N,B,u,rfl,hi,it⟩;have w:=S H Q j B it.st;by_cases k:i<ts.length
 .have e:=e_ k;have X:ts.drop i=ts[i]::ts.drop (i+1):=iO k;rw[X] at it;obtain⟨st,it⟩:=it;obtain⟨Y,W⟩:=w.2 i _ e;refine .inr ⟨Y,λx H' y=>?_⟩;obtain⟨C,F,Z⟩:=W x H' y;refine⟨ts[i],O,Q,_,Z,N.mono C,F,it,λσ2 H2 a L E f M U=>?_⟩;refine⟨a,L,_,f,M,U,λb H3 s l z D=>?_⟩;have n:t6 K H H3:=C.trans (E.trans l);cases b with
  |true=>rw[z3 rfl] at D;refine U! ?_;refine⟨a,s,_,f.mono l,z,D,λv H5 t G q I rt P=>⟨by rw[<- u.length];exact P.1,ts.length - (i+1),zo,a,G,o++[t],j.trans (n.trans q),f.mono (l.trans q),I,(u.mono (n.trans q)).append (.cons rt .nil),rfl,k,P.2⟩⟩
  |false =>
  rw[zD M_] at D;refine l? ?_;exact⟨ts.length - (i+1),zo,a,s,o,j.trans n,f.mono l,z,u.mono n,rfl,k,D⟩
 have e:i=ts.length:=zo
 subst e;rw[se] at it;exact .inl ⟨w.1 _ (o_ _),by rw[<- u.length];exact it.2.1,hf _ _ _ _ j B u it.2.2⟩
def Gh (c:Fn) (g:Fk) (tt:DZ) (te:AF) (nt:Nat) (cap:ξ Nat):AF:=λσ H Q=>c σ H λts still b=>EG g tt te still (λa H'=>∀p,H' p=af->Q (.ref p) (fY H' p (.lst a))) ts [] (nU nt cap σ) b
def qL (c:Fn) (g:Fk) (tt:DZ) (te:AF) (nt:Nat) (cap:ξ Nat) (i:Nat):Co:=λD σ H=>c σ H λts still b=>EG g tt te still (λa H'=>∀p,H' p=af->D.nx (σ.set i (ab (.ref p))) (fY H' p (.lst a))) ts [] (nU nt cap σ) b
section
variable {u? x? spos:gE}
theorem bx (u:X.calm=ag) (S:Lo X N' nt cap scope) (l:FH X tg iter wi)
  (t:∀cl pins s H C fp,LG (cG X N' scope cl pins s H C fp) tg g/\Lk (cG X N' scope cl pins s H C fp) ifs tt/\AA (cG X N' scope cl pins s H C fp) elt te)
  (o:∀x,dS iter X.env x=ce x:=by intro _;rfl):AA X (.ListComp elt [⟨tg,iter,ifs,0⟩] scope u?) (Gh wi g tt te nt cap):=by
 refine PE.imp (Lb (g:=Li X.K g) (tt:=CV X.K tt) (te:=F4 X.K te) u S l t o) ?_;rintro σ H Q ⟨c,H3,Q3,f,r,h,k⟩;refine⟨c,H3,_,f,r,h,λJ ts still z n i d j q=>?_⟩;exact Gg j (rO (f.mono i)) d q λy us H' v e a m w p b=>k _ _ _ _ (i.trans (e.trans (aO b))) (a.newLst b m) .ofRef (w p (a.fresh b))
theorem gO (A:X.calm=ag) (B:X.N.Nodup) (S:Lo X N' nt cap scope) (r:FH X tg iter wi) (z:∀cl pins s H C fp,LG (cG X N' scope cl pins s H C fp) tg g/\Lk (cG X N' scope cl pins s H C fp) ifs tt/\AA (cG X N' scope cl pins s H C fp) elt te) (k:X.N[i]?=ab x:=by rfl) (o:HG X.env.scope x:=by first | exact im rfl | exact e5 rfl) (j:eh (.ListComp elt [⟨tg,iter,ifs,0⟩] scope u?) (ab (.Name x x?)) spos.line X.env=ce ag:=by rfl) (v:∀x,dS iter X.env x=ce x:=by intro _;rfl) (w:X.fn x=ag\/X.env.scope.names.lookup x=ab .local:=by first | exact .inl rfl | exact .inr rfl | assumption):
  EV X (.Assign [.Name x x?] (.ListComp elt [⟨tg,iter,ifs,0⟩] scope u?) spos) (qL wi g tt te nt cap i):=by
 refine PS.imp (Ld (g:=Li X.K g) (tt:=CV X.K tt) (te:=F4 X.K te) A B k o S r z j v w) ?_;rintro D σ H ⟨e,H3,G,d,y,h,n,_⟩;refine⟨e,H3,_,d,y,h,λJ ts still L u l f m q=>?_⟩;exact Gg m (rO (d.mono l)) f q λI us H' E b a t F p c =>
  n _ _ _ _ (l.trans (b.trans (aO c))) ((d.mono (l.trans (b.trans (aO c)))).set .ofRef) (a.newLst c t) (F p (a.fresh c))
end
abbrev AM:=ξ T->lq->AC->Prop
def uT (K:a5) (sp:AM):Sp:=λvs H Q _=>∃ts H3 Q3,nP K H ts vs/\zc K H3 H/\sp ts H3 Q3/\HA K H Q3 Q
def eH (H H':lq):Prop:=∀a o,H a=ab o->H' a=ab o
theorem eH.refl:eH H H:=λ_ _ h=>h
theorem eH.trans (a:eH H d) (b:eH d e):eH H e:=λc o h=>b c o (a c o h)
theorem eH.new (h:H p=af):eH H (fY H p o):=λa u e=>by rw[aF (bB e h)];exact e
theorem zc.sub {K:a5} (s:zc K b H) (h:eH H3 b):zc K H3 H:=λa o e=>s a o (h a o e)
def My (Q:AC):AC:=λv H=>∃H',eH H' H/\Q v H'
theorem My.of (h:eH H' H) (q:Q v H'):My Q v H:=⟨H',h,q⟩
noncomputable def aP (N:ξ aw) (ts:ξ T):AV:=ts.map ab++a3 (N.length - ts.length) af
def qM {K:a5} (r:nP K H ts vs):BI K H (aP N ts) (L2.start N vs):=by
 refine⟨by simp [aP,L2.start,r.length],λi t e=>?_⟩;unfold aP at e;unfold L2.start;have d:=r.length;by_cases a:i<ts.length
 .rw[NR (by simpa using a),C_] at e;rw[NR (by rw[g_];omega),C_];cases q:ts[i]? with
  |none=>rw[q] at e;cases e
  |some u =>
  rw[q] at e;cases e;obtain⟨v,c,b⟩:=r.get q;exact⟨v,by rw[c];rfl,b⟩
 rw[Z_ (by simpa using a),Sr] at e;split at e <;> cases e
section
variable {p u?:gE}
def iU (P:bb) (w:bg) (K:a5) (mg:aw->ζ av) (base:cn) (k:Nat) (f:ae) (a:d4) (ps:ξ aw) (sp:AM):Prop:=HM P w K mg base KM k f a ps (uT K sp)
def nY (sp:AM) (t:CF):AF:=λσ H Q=>t σ H λvs a=>sp vs a Q
theorem Ln (F:iU X.prog X.w X.K X.mg X.base k f fd ps sp) (s:xr k X.A) (j:Gl X x) (v:X.mg x=ab (.ref f)) (l:kD X.K (.ref f)=ag) (u:A5 X.K fd ps [])
  (y:DL X (e::es) t) (c:(x==("__debug__":aw))=ai:=by decide) (i:aE (e::es) X.env=(ai,bt e X.env)::aE es X.env:=by rfl) (a:(cf u? (aE es X.env)).any (·.1)=ai:=by rfl) :
  AA X (.Call (.Name x p) (e::es) [] u?) (nY sp t):=by
 refine PE.imp (KH (dvs:=[]) (E:=E0) F s j v l u .nil Fg y c i a) ?_;rintro σ H Q ⟨b,H3,Q3,o,n,h,k⟩;refine⟨b,H3,_,o,n,h,λvs H' ts g m d r q=>?_⟩;show uT X.K sp (vs++[]) H' Q E0;rw[C9];exact⟨ts,g,Q3,r,d,q,k.at m⟩
theorem L9 {K:a5}{st:ez} (F:G1 K x qual st f fd) (S:gV N ps (aB st)) (e:∀ts H Q,sp ts H Q->ts.length=ps.length) (c:∀(b:av) (A:dn) (a:ξ yA) (s:aT) (H:Hp) (E:XK) (ts:ξ T) (H3:lq) (Q:AC),xr k (A.deeper (hZ qual (aB st) s.heap.objs.size f b))->sp ts H3 Q ->
   ∃t,pZ (ux KM P w K mg base N qual (aB st) f b A a s H E).nox (cP st) t/\t { nx:=λ_ H'=>My Q .non H',rt:=My Q} (aP N ts) H3):iU P w K mg base (k+1) f fd ps sp:=by
 refine F.ok S (λvs H Q E ⟨ts,H3,Q3,r,j,q,k⟩=>by rw[<- r.length];exact e _ _ _ q) λb A a s H vs Q E p ⟨ts,H3,Q3,r,j,q,k⟩=>?_;obtain⟨t,n,hq⟩:=c b A a s H E ts H3 Q3 p q;exact⟨_,n,aP N ts,H3,_,qM r,j,hq,λσ' H' l h g m d ⟨o,i,q⟩=>k _ _ _ _ g (d.sub i) .ofNon q,λv H' t h g d u ⟨o,i,q⟩=>k _ _ _ _ g (d.sub i) u q,λ_ _ _ _ _ _ _ z=>z,λ_ _ _ _ _ _ _ z=>z⟩
end
noncomputable instance:DecidableEq T:=λa b=>ap (a=b)
noncomputable def pl:Nat->T->Bool
 |_,.non=>ag
 |_,.int _=>ag
 |_,.str _=>ag
 |d+1,.tup ts=>ts.all (pl d)
 |_,_=>ai
section
variable {X:Cx}{pins:ξ (ae × dP)}{σ:L2.St}{H:Hp}{s:aT}
def zW (I:Inv X pins σ H s):∀(d:Nat) (x y:T) (v:V),pl d x=ag->pl d y=ag->At X.K H x v->At X.K H y v->x=y:=by
 intro d;induction d with
 |zero =>
  intro x y v i g f c;cases x <;> cases y <;> first
   |rfl
   | (simp only[At] at f c;subst f;cases c <;> rfl)
   | (simp [pl] at i;done)
   | (simp [pl] at g;done)
 |succ d p =>
 intro x y v i g f c;cases x with
 |tup ts =>
  cases y with
  |tup us =>
   obtain⟨a,xs,rfl,o,r⟩:=f.tup;obtain⟨b,z,e,k,m⟩:=c.tup;cases e;have:=I.tuple_inj o k;subst this;simp only[pl,V_] at i g;congr 1;have key:∀(ts us:ξ T) (xs:ξ V),(∀t∈ts,pl d t=ag)->(∀t∈us,pl d t=ag)->nP X.K H ts xs->nP X.K H us xs->ts=us:=by
    intro ts;induction ts with
    |nil =>
     intro us xs _ _ h h';rw[h.inv0] at h';cases us with
     |nil=>rfl
     |cons u us=>obtain⟨_,_,e,_⟩:=h'.inv;cases e
    |cons t ts l =>
    intro us xs p1 n h h';obtain⟨v,r,rfl,a,b⟩:=h.inv;cases us with
    |nil=>exact AL h'.inv0 Ap
    |cons u us =>
    obtain⟨A,m,e,q,w⟩:=h'.inv;cases e;rw[p t u v (p1 t A_) (n u A_) a q,l us r (λt j=>p1 t (E_ _ j)) (λt j=>n t (E_ _ j)) b w]
   exact key ts us xs i g r m
  |_=>first | (simp only[At] at f c;obtain⟨a,xs,e,_⟩:=f;subst e;cases c;done) | (simp [pl] at g;done)
 |_=>cases y <;> first
  |rfl
  | (simp only[At] at f c;subst f;cases c <;> rfl)
  | (simp [pl] at i;done)
  | (simp [pl] at g;done)
  | (simp only[At] at f c;obtain⟨a,xs,e,_⟩:=c;subst e;cases f;done)
theorem Cf (A:dn):A.in1.units=A.units+1:=by rfl
theorem nZ {a:Type} [DecidableEq (ζ a)] (ts us:ξ a):((ay (min ts.length us.length)).all (λj=>decide (ts[j]?=us[j]?))&&ts.length==us.length)=ag↔ts=us:=by
 rw[F_,V_,E1];constructor
 .rintro⟨h,b⟩;refine Na λi=>?_;by_cases c:i<ts.length
  .exact MU (h i (Y_.mpr zo))
  rw[Ee zo,Ee zo]
 rintro rfl;exact⟨λi _=>by simp,rfl⟩
theorem Lp {us:ξ av} (h:i<us.toArray.size) (e:us[i]?=ab v):us.toArray[i]=v:=by
 have:us.toArray[i]?=ab v:=by simpa using e
 rw[IE h] at this;exact O_ this
def zX (I:Inv X pins σ H s):∀(d:Nat) (A:dn) (x y:T) (m l:V) (u v:av),pl d x=ag->pl d y=ag->At X.K H x m->At X.K H y l->z4 m u->z4 l v->A.units+d<br->ii A s u v (decide (x=y)):=by
 have ni:∀(A:dn) (x y:T) (m l:V) (u v:av),pl 0 x=ag->pl 0 y=ag->At X.K H x m->At X.K H y l->z4 m u->z4 l v->ii A s u v (decide (x=y)):=by
  intro A x y m l u v z q g c k f;cases x with
  |non =>
   cases g.non;cases k;cases y with
   |non=>cases c.non;cases f;simp only[Fu];exact sD _
   |int j=>cases c.int;obtain⟨t',rfl⟩:=f;rw[q_ Ap];exact SeqAt.EqAt.none_int _ _
   |str j=>cases c.str;obtain⟨t',rfl⟩:=f;rw[q_ Ap];exact SeqAt.EqAt.none_str _ _
   |_=>simp [pl] at q
  |int i =>
   cases g.int;obtain⟨t,rfl⟩:=k;cases y with
   |non=>cases c.non;cases f;rw[q_ Ap];exact SeqAt.EqAt.int_none _ _
   |int j=>cases c.int;obtain⟨t',rfl⟩:=f;rw[show decide (T.int i=T.int j)=(i==j) by by_cases h:i=j <;> simp [h]];exact L5 _ _ _ _
   |str j=>cases c.str;obtain⟨t',rfl⟩:=f;rw[q_ Ap];exact oT _ _ _ _
   |_=>simp [pl] at q
  |str i =>
   cases g.str;obtain⟨t,rfl⟩:=k;cases y with
   |non=>cases c.non;cases f;rw[q_ Ap];exact SeqAt.EqAt.str_none _ _
   |int j=>cases c.int;obtain⟨t',rfl⟩:=f;rw[q_ Ap];exact oS _ _ _ _
   |str j=>cases c.str;obtain⟨t',rfl⟩:=f;rw[show decide (T.str i=T.str j)=(i==j) by by_cases h:i=j <;> simp [h]];exact SeqAt.EqAt.str_str _ _ _ _
   |_=>simp [pl] at q
  |_=>simp [pl] at z
 intro d;induction d with
 |zero=>intro A x y m l u v z q g c k f _;exact ni A x y m l u v z q g c k f
 |succ d ih =>
 intro A x y m l u v z q g c k f hu;have p:A.units<br:=zo
 cases x with
 |tup ts =>
  obtain⟨a,xs,rfl,M,r⟩:=g.tup;cases k;obtain⟨B,E,F,_⟩:=I.tuple M;cases y with
  |tup us =>
   obtain⟨b,J,rfl,n,C⟩:=c.tup;cases f;obtain⟨its',w,o,_⟩:=I.tuple n;by_cases D:a=b
   .subst D;have e:T.tup ts=T.tup us:=zW I (d+1) _ _ (.ref a) z q (.ofTup M r) (.ofTup n C);rw[e,p_ rfl];exact sD _
   have l1:=r.length;have l2:=C.length;have l3:=E.length;have U:=w.length;have key:=SeqAt.RcAt.tuples (A:=A) (s:=s) (e:=λj=>decide (ts[j]?=us[j]?)) (show s.heap.IsTuple a B.toArray from F) (show s.heap.IsTuple b its'.toArray from o) p (λj Y h2=>by
    rw[m_] at Y h2
    have L:j<ts.length:=zo
    have G:j<us.length:=zo
    obtain⟨p1,e1,P⟩:=r.get (e_ L)
    obtain⟨Z,N,O⟩:=C.get (e_ G)
    obtain⟨S,f1,Q⟩:=E.get e1
    obtain⟨z2,W,R⟩:=w.get N
    rw[Lp _ f1,Lp _ W,e_ L,e_ G]
    simp only[pl,V_] at z q
    have:=ih A.in1 ts[j] us[j] p1 Z S z2 (z _ (FI L)) (q _ (FI G)) P O Q R (by rw[Cf];omega)
    rw[show decide (ab ts[j]=ab us[j])=decide (ts[j]=us[j]) by by_cases h:ts[j]=us[j] <;> simp [h]]
    exact this)
   have eb:((ay (min B.toArray.size its'.toArray.size)).all (λj=>decide (ts[j]?=us[j]?))&&B.toArray.size==its'.toArray.size)=decide (T.tup ts=T.tup us):=by
    rw[m_,m_,<- l3,<- l1,<- U,<- l2,CC,nZ,h_];constructor
    .rintro rfl;rfl
    intro h;injection h
   rw[eb] at key;exact .of_refs D key
  |non=>cases c.non;cases f;rw[q_ Ap];exact SeqAt.EqAt.tuple_none F p
  |int j=>cases c.int;obtain⟨t',rfl⟩:=f;rw[q_ Ap];exact SeqAt.EqAt.tuple_int _ _ F p
  |str j=>cases c.str;obtain⟨t',rfl⟩:=f;rw[q_ Ap];exact SeqAt.EqAt.tuple_str _ _ F p
  |_=>simp [pl] at q
 |non =>
  cases y with
  |tup us=>obtain⟨b,J,rfl,n,C⟩:=c.tup;cases f;obtain⟨its',w,o,_⟩:=I.tuple n;cases g.non;cases k;rw[q_ Ap];exact SeqAt.EqAt.none_tuple o p
  |non=>exact ni A _ _ m l u v rfl rfl g c k f
  |int j=>exact ni A _ _ m l u v rfl rfl g c k f
  |str j=>exact ni A _ _ m l u v rfl rfl g c k f
  |_=>simp [pl] at q
 |int i =>
  cases y with
  |tup us=>obtain⟨b,J,rfl,n,C⟩:=c.tup;cases f;obtain⟨its',w,o,_⟩:=I.tuple n;cases g.int;obtain⟨t,rfl⟩:=k;rw[q_ Ap];exact SeqAt.EqAt.int_tuple _ _ o p
  |non=>exact ni A _ _ m l u v rfl rfl g c k f
  |int j=>exact ni A _ _ m l u v rfl rfl g c k f
  |str j=>exact ni A _ _ m l u v rfl rfl g c k f
  |_=>simp [pl] at q
 |str i =>
  cases y with
  |tup us=>obtain⟨b,J,rfl,n,C⟩:=c.tup;cases f;obtain⟨its',w,o,_⟩:=I.tuple n;cases g.str;obtain⟨t,rfl⟩:=k;rw[q_ Ap];exact SeqAt.EqAt.str_tuple _ _ o p
  |non=>exact ni A _ _ m l u v rfl rfl g c k f
  |int j=>exact ni A _ _ m l u v rfl rfl g c k f
  |str j=>exact ni A _ _ m l u v rfl rfl g c k f
  |_=>simp [pl] at q
 |_=>simp [pl] at z
end
def MH (C:Int->Int->Prop) (g:Int->Int->T):R3:=λx y H Q=>match x,y with
 |.int i,.int j=>C i j/\Q (g i j) H
 |_,_=>False
def rP (g:Int->Int->T):R3:=λx y H Q=>match x,y with
 |.int i,.int j=>Q (g i j) H
 |_,_=>False
section
variable {X:Cx}
def Gi (h:AX X f (rI C g')) (a:∀i j H,At X.K H (g i j) (g' i j)):dU X f (MH C g):=by
 refine AX.imp h ?_;rintro x y H Q ⟨b,l,H3,Q3,e,d,c,h,k⟩;cases b with
 |int i =>
  cases l with
  |int j=>exact⟨i,j,e.int,d.int,h.1,k _ _ _ _ .refl c (a i j H) h.2⟩
  |_=>exact h.elim
 |_=>exact h.elim
def n6 (h:AX X f (GE g')) (a:∀i j H,At X.K H (g i j) (g' i j)):dU X f (rP g):=by
 refine AX.imp h ?_;rintro x y H Q ⟨b,l,H3,Q3,e,d,c,h,k⟩;cases b with
 |int i =>
  cases l with
  |int j=>exact⟨i,j,e.int,d.int,k _ _ _ _ .refl c (a i j H) h⟩
  |_=>exact h.elim
 |_=>exact h.elim
def Gj (_ j:Int):Prop:=0<j/\j.natAbs.log2<9000
theorem Gk:AX X (ca .FloorDiv) (rI Gj λi j=>.int (i / j)):=Ps λi j _ _ _ _ _ a q=>by
 have e:i / j=i.fdiv j:=(Int.fdiv_eq_ediv_of_nonneg i (Int.le_of_lt a.1)).symm;rw[e] at q;exact floordiv_int (Int.ne_of_gt a.1) q (.inl (PyProof.noPylong_of_log2 a.2))
theorem gH:dU X (ca .Sub) (rP λi j=>.int (i - j)):=n6 Sx λ_ _ _=>.ofInt
theorem bI:dU X (ca .FloorDiv) (MH Gj λi j=>.int (i / j)):=Gi Gk λ_ _ _=>.ofInt
theorem bh:dU X (ca .Mod) (MH (λ_ j=>0<j) λi j=>.int (i%j)):=Gi SJ λ_ _ _=>.ofInt
theorem jE:dU X (ca .Pow) (MH Kp λi j=>.int (i^j.toNat)):=Gi SM λ_ _ _=>.ofInt
theorem XD:dU X (ba .Lt) (rP λi j=>.bl (decide (i<j))):=n6 W7 λ_ _ _=>.ofBl
theorem oh:dU X (ba .LtE) (rP λi j=>.bl (decide (i<=j))):=n6 W8 λ_ _ _=>.ofBl
theorem ou:dU X (ba .Gt) (rP λi j=>.bl (decide (j<i))):=n6 W9 λ_ _ _=>.ofBl
theorem Qe:dU X (ba .GtE) (rP λi j=>.bl (decide (j<=i))):=n6 Xa λ_ _ _=>.ofBl
theorem dh:dU X (ca .Mult) (MH IX λi j=>.int (i*j)):=Gi Sy λ_ _ _=>.ofInt
def uU:R3:=λx y H Q=>match x,y with
 |.int i,.int j=>Q (.int (i+j)) H
 |.str i,.str j=>i.length+j.length<=am/\Q (.str (i++j)) H
 |.ref a,.ref b=>match H a,H b with
  |some (.lst xs),ab (.lst ys)=>xs.length+ys.length<=am/\∀p,H p=af->Q (.ref p) (fY H p (.lst (xs++ys)))
  |_,_=>False
 |.tup xs,.tup ys=>xs.length+ys.length<=am/\Q (.tup (xs++ys)) H
 |_,_=>False
theorem Gm:AX X (ca .Add) (λx y H Q=>∃a b o,x=.ref a/\y=.ref b/\A3 X.K H a []/\A3 X.K H b o/\Q (.ref b) H):=by
 intro pins s σ H x y v u Q I C w h;obtain⟨a,b,o,rfl,rfl,z,A,q⟩:=h;cases C;cases w;obtain⟨L,G,p1,_⟩:=I.tuple z;obtain⟨f,M,B,_⟩:=I.tuple A;cases G;obtain⟨⟨t,D,m,J⟩,k,p,n,l⟩:=id p1;obtain⟨⟨r,i,j,g⟩,d,c,E,e⟩:=id B;simp only at p l c e;subst p l c e;exact kG ⟨_,k,rfl⟩ ⟨_,d,rfl⟩ kr nV e4 eR (TH _ _)
   (tuple_addW0 a b _ f.toArray n E D i J g Ap) ⟨k,d,⟨.ref b,H,I,rfl,q⟩⟩
theorem bj:dU X (ca .Add) uU:=by
 refine AX.imp (e?.or (n!.or (J!.or (U'.or Gm)))) ?_;rintro x y H Q ⟨w,o,H3,Q3,n,m,c,h,k⟩;cases w with
 |int i =>
  cases o with
  |int j=>exact .inl ⟨i,j,n.int,m.int,k _ _ _ _ .refl c .ofInt h⟩
  |_=>exact h.elim
 |str i =>
  cases o with
  |str j=>exact .inr (.inl ⟨i,j,n.str,m.str,h.1,k _ _ _ _ .refl c .ofStr h.2⟩)
  |_=>exact h.elim
 |ref a =>
  cases o with
  |ref b =>
   have h':(match H3 a,H3 b with
    |some (.lst xs),ab (.lst l)=>xs.length+l.length<=am/\∀p,H3 p=af->Q3 (.ref p) (fY H3 p (.lst (xs++l)))
    |_,_=>False):=h
   split at h'
   ·
    rename_i xs l C z
    obtain⟨vs,B,f⟩:=c a _ C
    obtain⟨ws,v,d⟩:=c b _ z
    refine .inr (.inr (.inl ⟨a,b,vs,ws,n.ref,m.ref,B,v,by rw[<- f.length,<- d.length];exact h'.1,λp g=>?_⟩))
    exact k _ _ _ _ (aO g) (c.newLst g (f.append d)) .ofRef (h'.2 p (c.fresh g))
   ·
    exact h'.elim
  |_=>exact h.elim
 |tup xs =>
  cases o with
  |tup l =>
   obtain⟨a,vs,rfl,s,f⟩:=n.tup;obtain⟨b,ws,rfl,r,d⟩:=m.tup;by_cases t:vs=[]
   .subst t;have A:xs=[]:=QY f.length;subst A;exact .inr (.inr (.inr (.inr ⟨a,b,ws,rfl,rfl,s,r,k _ _ _ _ .refl c (.ofTup r d) h.2⟩)))
   refine .inr (.inr (.inr (.inl ⟨a,b,vs,ws,rfl,rfl,s,r,t,by rw[<- f.length,<- d.length];exact h.1,λu=>?_,λu p g=>?_⟩)))
   .have e:l=[]:=by have:=d.length;rw[u] at this;exact QY this
    have q:=h.2;rw[e,C9] at q;exact k _ _ _ _ .refl c (.ofTup s f) q
   exact k _ _ _ _ (aO g) (c.new g) (zc.newTup (H3:=H3) g (f.append d)) h.2
  |_=>exact h.elim
 |_=>exact h.elim
variable {pins:ξ (ae × dP)}{σ:L2.St}{H:Hp}{s:aT}
def rQ (neg:Bool):R3:=λx y H Q=>match x,y with
 |.int i,.int j=>Q (.bl (if neg then !decide (i=j) else decide (i=j))) H
 |.str i,.str j=>Q (.bl (if neg then !decide (i=j) else decide (i=j))) H
 |.bl i,.bl j=>Q (.bl (if neg then !decide (i=j) else decide (i=j))) H
 |.non,.non=>Q (.bl (if neg then ai else ag)) H
 |.tup xs,.tup ys=>xs.all (pl 20)=ag/\ys.all (pl 20)=ag/\Q (.bl (if neg then !decide (xs=ys) else decide (xs=ys))) H
 |.ref a,.ref b=>match H a,H b with
  |some (.lst xs),ab (.lst ys)=>a≠b/\xs.all (pl 20)=ag/\ys.all (pl 20)=ag/\Q (.bl (if neg then !decide (xs=ys) else decide (xs=ys))) H
  |_,_=>False
 |_,_=>False
def uV (I:Inv X pins σ H s) {A:dn} (B:A.units+30<br) (k:ts.all (pl 20)=ag) (m:us.all (pl 20)=ag) (r:nP X.K H ts xs) (f:nP X.K H us i) (c:zS xs a) (b:zS i its'):
  ∀j (g:j<a.toArray.size) (l:j<its'.toArray.size),ii A.in1 s a.toArray[j] its'.toArray[j] (decide (ts[j]?=us[j]?)):=λj g l=>by
 have F:=r.length;have E:=f.length;have D:=c.length;have C:=b.length;rw[m_] at g l;have e:j<ts.length:=zo
 have d:j<us.length:=zo
 obtain⟨p1,z,p⟩:=r.get (e_ e);obtain⟨x,n,o⟩:=f.get (e_ d);obtain⟨u,y,q⟩:=c.get z;obtain⟨w,v,t⟩:=b.get n;rw[Lp _ y,Lp _ v,e_ e,e_ d];rw[V_] at k m;have:=zX I 20 A.in1 ts[j] us[j] p1 x u w (k _ (FI e)) (m _ (FI d)) p o q t (by rw[Cf];omega);rw[show decide (ab ts[j]=ab us[j])=decide (ts[j]=us[j]) by by_cases h:ts[j]=us[j] <;> simp [h]];exact this
theorem uW {ts us:ξ T}:((ay (min ts.length us.length)).all (λj=>decide (ts[j]?=us[j]?))&&ts.length==us.length)=decide (ts=us):=by rw[CC,nZ,h_]
theorem Dc {c:Type} [BEq c] [LawfulBEq c] [DecidableEq c] (a b:c):(a==b)=decide (a=b):=by rw[CC];simp
theorem Qf (neg:Bool) (J:X.A.units+30<br):dU X (ba (bif neg then .NotEq else .Eq)) (rQ neg):=by
 intro pins s σ H x y v u Q I m n h;obtain⟨N,B,H3,Q3,w,p,G,h,k⟩:=h;have d:∀{b c:Bool},Q3 (.bl b) H3->c=b->EP X pins σ Q (.bool c) s:=λq e=>e▸⟨.bl _,H,I,rfl,k _ _ _ _ .refl G .ofBl q⟩;cases N with
 |int i =>
  cases B with
  |int j =>
   rw[w.int] at m;rw[p.int] at n;obtain⟨t,rfl⟩:=m;obtain⟨t',rfl⟩:=n;cases neg
   .exact eq_int (d h (Dc ..))
   exact ne_int (d h (U_ not (Dc ..)))
  |_=>exact h.elim
 |str i =>
  cases B with
  |str j =>
   rw[w.str] at m;rw[p.str] at n;obtain⟨t,rfl⟩:=m;obtain⟨t',rfl⟩:=n;cases neg
   .exact eq_str (d h (Dc ..))
   exact ne_str (d h (U_ not (Dc ..)))
  |_=>exact h.elim
 |bl i =>
  cases B with
  |bl j =>
   rw[w.bl] at m;rw[p.bl] at n;cases m;cases n;cases neg
   .exact eq_bool (d h (Dc ..))
   exact ne_bool (d h (U_ not (Dc ..)))
  |_=>exact h.elim
 |non =>
  cases B with
  |non =>
   rw[w.non] at m;rw[p.non] at n;cases m;cases n;cases neg
   .exact PySem.EqNone.eq_none_none (d h rfl)
   exact PySem.EqNone.ne_none_none (d h rfl)
  |_=>exact h.elim
 |tup ts =>
  cases B with
  |tup us =>
   obtain⟨a,xs,rfl,O,r⟩:=w.tup;obtain⟨b,D,rfl,F,C⟩:=p.tup;cases m;cases n;obtain⟨E,l,o,_⟩:=I.tuple O;obtain⟨its',g,f,_⟩:=I.tuple F;have e:=uW (ts:=ts) (us:=us);rw[r.length,C.length,l.length,g.length] at e;have key:=uV I J h.1 h.2.1 r C l g;cases neg
   .exact SeqAt.eq_tupleAt (e:=λj=>decide (ts[j]?=us[j]?)) o f zo key (d h.2.2 e)
   exact SeqAt.RcNeAt.tuples (e:=λj=>decide (ts[j]?=us[j]?)) o f zo key _ _ _ _ (d h.2.2 (U_ not e))
  |_=>exact h.elim
 |ref a =>
  cases B with
  |ref b =>
   have h':(match H3 a,H3 b with
    |some (.lst xs),ab (.lst D)=>a≠b/\xs.all (pl 20)=ag/\D.all (pl 20)=ag/\Q3 (.bl (if neg then !decide (xs=D) else decide (xs=D))) H3
    |_,_=>False):=h
   split at h'
   ·
    rename_i ts us S M
    obtain⟨xs,P,r⟩:=G a _ S
    obtain⟨D,L,C⟩:=G b _ M
    cases w.ref;cases p.ref;cases m;cases n
    obtain⟨E,l,o,_⟩:=I.list (X:=X) (.of P)
    obtain⟨its',g,f,_⟩:=I.list (X:=X) (.of L)
    have R:E.length=ts.length:=by rw[<- l.length,<- r.length]
    have K:its'.length=us.length:=by rw[<- g.length,<- C.length]
    have key:=uV I J h'.2.1 h'.2.2.1 r C l g
    by_cases hsz:ts.length=us.length
    ·
     have e:=uW (ts:=ts) (us:=us)
     rw[<- hsz,qc,beq_self_eq_true,oi,<- R] at e
     cases neg
     ·
      exact SeqAt.eq_listAt (e:=λj=>decide (ts[j]?=us[j]?)) o.isList f.isList (by simp;omega) zo key (d h'.2.2.2 e)
     ·
      exact SeqAt.RcNeAt.lists (e:=λj=>decide (ts[j]?=us[j]?)) o.isList f.isList (by simp;omega) zo key _ _ _ _ (d h'.2.2.2 (U_ not e))
    ·
     have e:decide (ts=us)=ai:=q_ λz=>hsz (by rw[z])
     cases neg
     ·
      exact SeqAt.eq_list_lengthsAt o.isList f.isList (by simp;omega) zo (d h'.2.2.2 e.symm)
     ·
      exact SeqAt.RcNeAt.lists_lengths o.isList f.isList (by simp;omega) zo _ _ _ _ (d h'.2.2.2 (by show ag=!decide (ts=us);rw[e];rfl))
   ·
    exact h'.elim
  |_=>exact h.elim
 |_=>exact h.elim
theorem cj (a:X.A.units+30<br):dU X (ba .Eq) (rQ ai):=Qf ai a
theorem fJ (a:X.A.units+30<br):dU X (ba .NotEq) (rQ ag):=Qf ag a
def eQ (neg:Bool) (x:T) (ts:ξ T):Bool:=if neg then !decide (x∈ts) else decide (x∈ts)
noncomputable def XY (neg:Bool) (i j:aw):Bool:=if neg then !(!(bE j i 0 j.length 1).isEmpty) else !(bE j i 0 j.length 1).isEmpty
def uX (neg:Bool):R3:=λx y H Q=>match y with
 |.tup ts=>pl 20 x=ag/\ts.all (pl 20)=ag/\Q (.bl (eQ neg x ts)) H
 |.ref a=>match H a with
  |some (.lst ts)=>pl 20 x=ag/\ts.all (pl 20)=ag/\Q (.bl (eQ neg x ts)) H
  |some (.rol ts)=>pl 20 x=ag/\ts.all (pl 20)=ag/\Q (.bl (eQ neg x ts)) H
  |_=>False
 |.str j=>match x with
  |.str i=>Q (.bl (XY neg i j)) H
  |_=>False
 |_=>False
def Gn (I:Inv X pins σ H s) (w:pl 20 x=ag) (g:ts.all (pl 20)=ag) (r:nP X.K H ts xs) (o:zS xs a) (A:dn) (N:A.units+30<br) (D:At X.K H x n) (L:z4 n u):
  ∃e:av->Bool,(∀y,y∈a->ii A s y u (e y))/\a.any e=decide (x∈ts):=by
 rw[V_] at g;have h:∀y,y∈a->∃t v,t∈ts/\At X.K H t v/\z4 v y:=λy j=>by
  obtain⟨i,l,e⟩:=SE.mp j;have P:=o.length;have C:a[i]?=ab y:=by rw[e_ l,e]
  have k:xs[i]?=ab xs[i]:=e_ zo;obtain⟨z,p,M⟩:=o.get k;rw[C] at p;cases p;obtain⟨t,B,c⟩:=r.get' k;exact⟨t,_,E5 B,c,M⟩
 have f:∀t v y,t∈ts->At X.K H t v->z4 v y->(@decide (∃v,z4 v y/\At X.K H x v) (ap _)=ag↔t=x):=λt v y d c b=>by
  rw[@h_ _ (ap _)];constructor
  .rintro⟨O,J,F⟩;cases J.inj b;exact zW I 20 t x _ (g t d) w c F
  rintro rfl;exact⟨v,b,c⟩
 refine⟨λy=>@decide (∃v,z4 v y/\At X.K H x v) (ap _),λy j=>?_,?_⟩
 .obtain⟨t,v,d,c,b⟩:=h y j;have q:=zX I 20 A t x v n y u (g t d) w c D b L zo;have e:@decide (∃v,z4 v y/\At X.K H x v) (ap _)=decide (t=x):=by rw[CC,f t v y d c b,h_]
  show ii A s y u (@decide (∃v,z4 v y/\At X.K H x v) (ap _));rw[e];exact q
 rw[CC,LM,h_];constructor
 .rintro⟨y,j,e⟩;obtain⟨t,v,d,c,b⟩:=h y j;rw[<- (f t v y d c b).mp e];exact d
 intro k;obtain⟨i,l,e⟩:=SE.mp k;obtain⟨v,G,m⟩:=r.get (show ts[i]?=ab x by rw[e_ l,e]);obtain⟨y,E,b⟩:=o.get G;exact⟨y,E5 E,(f x v y k m b).mpr rfl⟩
theorem Qg (neg:Bool) (M:X.A.units+31<br):dU X (ba (bif neg then .NotIn else .In)) (uX neg):=by
 intro pins s σ H x y v u Q I G p h;obtain⟨l,L,H3,Q3,F,E,z,h,k⟩:=h;have B:X.A.in1.units+30<br:=by rw[Cf];omega
 have f:∀{b c:Bool},Q3 (.bl b) H3->c=b->EP X pins σ Q (.bool c) s:=λq e=>e▸⟨.bl _,H,I,rfl,k _ _ _ _ .refl z .ofBl q⟩;have D:∀{a:ae} {ts:ξ T} {xs:ξ V},BN X.K H a xs->nP X.K H ts xs->u=.ref a->pl 20 l=ag->ts.all (pl 20)=ag->Q3 (.bl (eQ neg l ts)) H3->ax (aI X.prog X.w) X.A (ba (bif neg then .NotIn else .In) v u) (EP X pins σ Q) X.xe s:=by
  intro a ts xs n r e p1 J q;subst e;obtain⟨d,o,t,_⟩:=I.list n;obtain⟨e,C,m⟩:=Gn I p1 J r o X.A.in1 B F G;rw[<- show d.toArray.any e=d.any e by simp] at m;cases neg
  .exact SeqAt.in_listAt e t.isList (λy g=>C y (by simpa using g)) (f q m)
  exact SeqAt.notIn_listAt e t.isList (λy g=>C y (by simpa using g)) (f q (U_ not m))
 cases L with
 |tup ts =>
  obtain⟨a,xs,rfl,n,r⟩:=E.tup;cases p;obtain⟨d,o,t,_⟩:=I.tuple n;obtain⟨e,C,m⟩:=Gn I h.1 h.2.1 r o X.A.in1 B F G;rw[<- show d.toArray.any e=d.any e by simp] at m;cases neg
  .exact SeqAt.in_tupleAt e t (λy g=>C y (by simpa using g)) (f h.2.2 m)
  exact SeqAt.notIn_tupleAt e t (λy g=>C y (by simpa using g)) (f h.2.2 (U_ not m))
 |ref a =>
  have h':(match H3 a with
   |some (.lst ts)=>pl 20 l=ag/\ts.all (pl 20)=ag/\Q3 (.bl (eQ neg l ts)) H3
   |some (.rol ts)=>pl 20 l=ag/\ts.all (pl 20)=ag/\Q3 (.bl (eQ neg l ts)) H3
   |_=>False):=h
  rw[E.ref] at p
  split at h'
  ·
   rename_i ts e
   obtain⟨xs,n,r⟩:=z.sqL (.inl e)
   exact D n r p h'.1 h'.2.1 h'.2.2
  ·
   rename_i ts e
   obtain⟨xs,n,r⟩:=z.sqL (.inr e)
   exact D n r p h'.1 h'.2.1 h'.2.2
  ·
   exact h'.elim
 |str j =>
  cases l with
  |str i =>
   cases neg
   .exact Cr pins s σ H x y v u Q I G p ⟨i,j,F.str,E.str,k _ _ _ _ .refl z .ofBl h⟩
   exact rD pins s σ H x y v u Q I G p ⟨i,j,F.str,E.str,k _ _ _ _ .refl z .ofBl h⟩
  |_=>exact h.elim
 |_=>exact h.elim
theorem iT (a:X.A.units+31<br):dU X (ba .In) (uX ai):=Qg ai a
theorem jU (a:X.A.units+31<br):dU X (ba .NotIn) (uX ag):=Qg ag a
def oq {a:Type}(o:ζ a) (Q:a->Prop):Prop:=match o with
 |some v=>Q v
 |none=>False
def uY:R3:=λx y H Q=>match x,y with
 |.ref a,.int i=>match H a with
  |some (.lst ts)=>oq (AR ts i) λt=>Q t H
  |some (.rol ts)=>oq (AR ts i) λt=>Q t H
  |_=>False
 |.tup ts,.int i=>oq (AR ts i) λt=>Q t H
 |.str z,.int i=>z.length<=am/\oq (AR z.cps.toList i) λc=>Q (.str ⟨#[c]⟩) H
 |_,_=>False
def zY {K:a5} (r:nP K H ts xs) (h:AR ts i=ab t):∃v,AR xs i=ab v/\At K H t v:=by
 unfold AR at h |-;rw[<- r.length];cases e:D9 ts.length i with
 |none=>rw[e] at h;cases h
 |some j =>
 rw[e] at h;exact r.get h
theorem Au:Xy X uY:=by
 refine E4.imp Tg ?_;rintro x y H Q ⟨s,o,H3,Q3,j,g,f,h,k⟩;have d:∀{a:ae} {ts:ξ T} {xs:ξ V} {i:Int},BN X.K H a xs->nP X.K H ts xs->x=.ref a->y=.int i->oq (AR ts i) (λt=>Q3 t H3)->UZ X.K x y H Q:=by
  intro a ts xs i b r n p q;cases e:AR ts i with
  |none=>rw[e] at q;exact q.elim
  |some t =>
  rw[e] at q;obtain⟨v,m,l⟩:=zY r e;exact .inl ⟨a,xs,i,v,n,p,b,m,k _ _ _ _ .refl f l q⟩
 cases s with
 |ref a =>
  cases o with
  |int i =>
   have h':(match H3 a with
    |some (.lst ts)=>oq (AR ts i) λt=>Q3 t H3
    |some (.rol ts)=>oq (AR ts i) λt=>Q3 t H3
    |_=>False):=h
   split at h'
   ·
    rename_i ts e
    obtain⟨xs,b,r⟩:=f.sqL (.inl e)
    exact d b r j.ref g.int h'
   ·
    rename_i ts e
    obtain⟨xs,b,r⟩:=f.sqL (.inr e)
    exact d b r j.ref g.int h'
   ·
    exact h'.elim
  |_=>exact h.elim
 |tup ts =>
  cases o with
  |int i =>
   have h':oq (AR ts i) λt=>Q3 t H3:=h
   cases e:AR ts i with
   |none=>rw[e] at h';exact h'.elim
   |some t =>
    rw[e] at h'
    obtain⟨a,xs,n,b,r⟩:=j.tup
    obtain⟨v,m,l⟩:=zY r e
    exact .inr (.inl ⟨a,xs,i,v,n,g.int,b,m,k _ _ _ _ .refl f l h'⟩)
  |_=>exact h.elim
 |str z =>
  cases o with
  |int i =>
   have h':z.length<=am/\oq (AR z.cps.toList i) λc=>Q3 (.str ⟨#[c]⟩) H3:=h
   cases e:AR z.cps.toList i with
   |none=>rw[e] at h';exact h'.2.elim
   |some c =>
    rw[e] at h'
    exact .inr (.inr ⟨z,i,c,j.str,g.int,h'.1,e,k _ _ _ _ .refl f .ofStr h'.2⟩)
  |_=>exact h.elim
 |_=>exact h.elim
def Gp:uQ:=λo i v H Q=>match o,i with
 |.ref a,.int k=>match H a with
  |some (.lst ts)=>oq (D9 ts.length k) λj=>Q (fY H a (.lst (ts.set j v)))
  |_=>False
 |_,_=>False
def zc.wrL {K:a5} (s:zc K H3 H) (g:H a=ab (.lst xs)) (r:nP K H ts c):zc K (fY H3 a (.lst ts)) (As H a (.lst c)):=λb o e=>by
 have f:t6 K H (As H a (.lst c)):=bW (by rw[g];exact trivial);by_cases d:b=a
 .subst d;rw[aq] at e;cases e;exact⟨c,aZ,r.mono f⟩
 rw[aF d] at e;exact (s b o e).stay f λu q=>by rw[aL d];exact q
theorem Dd:P0 X Gp:=by
 refine L4.imp GL ?_;rintro o i v H Q ⟨f,g,p,H3,Q3,l,q,m,d,h,k⟩;cases f with
 |ref a =>
  cases g with
  |int n =>
   have h':(match H3 a with
    |some (.lst ts)=>oq (D9 ts.length n) λj=>Q3 (fY H3 a (.lst (ts.set j p)))
    |_=>False):=h
   split at h'
   ·
    rename_i ts e
    obtain⟨xs,c,r⟩:=d a _ e
    cases b:D9 ts.length n with
    |none=>rw[b] at h';exact h'.elim
    |some j =>
     rw[b] at h'
     exact⟨a,xs,n,j,l.ref,q.int,c,by rw[<- r.length];exact b,k _ _ (bW (by rw[c];exact trivial)) (d.wrL c (r.set j m)) h'⟩
   ·
    exact h'.elim
  |_=>exact h.elim
 |_=>exact h.elim
abbrev HI:=AV->lq->(ζ Int->lq->Prop)->Prop
def S! (K:a5) (c:HI):TO:=λσ H Q=>∃b H3 Q3,BI K H b σ/\zc K H3 H/\c b H3 Q3/\∀o H' a,t6 K H H'->zc K a H'->Q3 o a->Q o H'
def L7 (X:Cx) (e:ζ Expr) (t:HI):Prop:=PO X e (S! X.K t)
theorem PO.imp (h:PO X e t) (w:∀σ H Q,t' σ H Q->t σ H Q):PO X e t':=λpins s σ H Q I q=>h pins s σ H Q I (w σ H Q q)
def uZ:HI:=λ_ H Q=>Q af H
def Gq (t:AF):HI:=λσ H Q=>t σ H λx a=>match x with
 |.int i=>Q (ab i) a
 |_=>False
theorem fK:L7 X af uZ:=by refine PO.imp KR ?_;rintro σ H Q ⟨b,H3,Q3,c,a,h,k⟩;exact k _ _ _ .refl a h
theorem eX (h:AA X e te):L7 X (ab e) (Gq te):=by
 refine PO.imp (KY h) ?_;rintro σ H Q ⟨a,H3,Q3,f,d,h,k⟩;refine⟨a,H3,_,f,d,h,λv H' t g c b r q=>?_⟩;cases t with
 |int i=>exact⟨i,r.int,k _ _ _ c b q⟩
 |_=>exact q.elim
theorem TJ:IT X (λx f g H Q=>∃z,x=.str z/\z.length<=am/\Q (.str (gX z f g)) H):=by
 intro pins s σ H x v A y f g B Q I w r pl n h;obtain⟨z,rfl,b,q⟩:=h;obtain⟨t,rfl⟩:=w;refine⟨"str",_,F.slot_str_getitem.lookup,tS _ _ _,?_⟩;obtain⟨o,e,c,d⟩:=r;have a:∀(t':ze) (k:Nat),EP X pins σ Q (.str (gX z f g) t') { s with toks:=k}:=λt' k=>⟨.str _,H,I.tok k,⟨t',rfl⟩,q⟩;cases pl with
 |none =>
  cases n with
  |none=>exact RE (l:=af) (u:=af) (st:=af) ⟨o,e,c,d⟩ rfl (fN ⟨S_ (kK z _ _) b,a⟩)
  |int j m=>exact RE (l:=af) (u:=ab (j,m)) (st:=af) ⟨o,e,c,d⟩ rfl (fN ⟨S_ (kK z _ _) b,a⟩)
 |int i p =>
 cases n with
 |none=>exact RE (l:=ab (i,p)) (u:=af) (st:=af) ⟨o,e,c,d⟩ rfl (fN ⟨S_ (kK z _ _) b,a⟩)
 |int j m=>exact RE (l:=ab (i,p)) (u:=ab (j,m)) (st:=af) ⟨o,e,c,d⟩ rfl (fN ⟨S_ (kK z _ _) b,a⟩)
noncomputable def eU (ts:ξ T) (a b:ζ Int):ξ T:=(ts.drop (HT.sIx ts.length 0 a)).take (HT.sIx ts.length ts.length b - HT.sIx ts.length 0 a)
def Lq:T->ζ Int->ζ Int->lq->AC->Prop:=λx b c H Q=>match x with
 |.ref a=>match H a with
  |some (.lst ts)=>∀p,H p=af->Q (.ref p) (fY H p (.lst (eU ts b c)))
  |some (.rol ts)=>∀p,H p=af->Q (.ref p) (fY H p (.lst (eU ts b c)))
  |_=>False
 |.tup ts=>¬(HT.sIx ts.length 0 b=0/\HT.sIx ts.length ts.length c=ts.length)/\Q (.tup (eU ts b c)) H
 |.str z=>z.length<=am/\Q (.str (gX z b c)) H
 |_=>False
def XF (te:AF) (d a:HI):AF:=λσ H Q=>te σ H λx b=>d σ b λl c=>a σ c λu H3=>Lq x l u H3 Q
def mK {K:a5} (r:nP K H ts xs) (a b:ζ Int):nP K H (eU ts a b) (uB xs a b):=by unfold eU uB;rw[<- r.length];exact (r.drop _).take _
theorem iV (M:AA X e te) (O:L7 X D C) (G:L7 X B E):AA X (.Subscript e (.Slice D B af J) A) (XF te C E):=by
 refine PE.imp (uA (Zp.or (VS.or TJ)) M O G) ?_;rintro σ H Q ⟨i,H3,Q3,s,L,h,k⟩;refine⟨i,H3,_,s,L,h,λx R I t j v K N=>⟨i,t,_,s.mono j,v,N,λl P w g y F=>⟨i,w,_,s.mono (j.trans g),y,F,λu S c n b m=>?_⟩⟩⟩;have q:=k.at (j.trans (g.trans n));have f:=K.mono (g.trans n);cases I with
 |ref a =>
  have h':(match c a with
   |some (.lst ts)=>∀p,c p=af->Q3 (.ref p) (fY c p (.lst (eU ts l u)))
   |some (.rol ts)=>∀p,c p=af->Q3 (.ref p) (fY c p (.lst (eU ts l u)))
   |_=>False):=m
  split at h'
  ·
   rename_i ts e
   obtain⟨xs,o,r⟩:=b.sqL (.inl e)
   exact .inl ⟨a,xs,f.ref,o,λp d=>q _ _ _ _ (aO d) (b.newLst d (mK r l u)) .ofRef (h' p (b.fresh d))⟩
  ·
   rename_i ts e
   obtain⟨xs,o,r⟩:=b.sqL (.inr e)
   exact .inl ⟨a,xs,f.ref,o,λp d=>q _ _ _ _ (aO d) (b.newLst d (mK r l u)) .ofRef (h' p (b.fresh d))⟩
  ·
   exact h'.elim
 |tup ts=>obtain⟨a,xs,rfl,o,r⟩:=f.tup;refine .inr (.inl ⟨a,xs,rfl,o,by rw[<- r.length];exact m.1,λp d=>q _ _ _ _ (aO d) (b.new d) (zc.newTup (H3:=c) d (mK r l u)) m.2⟩)
 |str z=>exact .inr (.inr ⟨z,f.str,m.1,q _ _ _ _ .refl b .ofStr m.2⟩)
 |_=>exact m.elim
noncomputable def aU (k:aw):ξ (aw × T)->ζ T
 |[]=>af
 | (k',v)::r=>if k'=k then ab v else aU k r
noncomputable def BD (k:aw) (v:T) (kvs:ξ (aw × T)):ξ (aw × T) :=
 if (kvs.any λa=>decide (a.1=k))=ag then kvs.map (λa=>if a.1=k then (a.1,v) else a) else kvs++[(k,v)]
def VT:R3:=λx y H Q=>match x,y with
 |.ref a,.str k=>match H a with
  |some (.dct kvs)=>oq (aU k kvs) λt=>Q t H
  |_=>False
 |_,_=>False
noncomputable def u5 {K:a5}:∀{kvs:ξ (aw × T)}{vs:ξ (AG × V)}{t:T},FM K H kvs vs->aU k kvs=ab t->∃v,gC vs (bv k:AG)=ab v/\At K H t v
 |[],_,_,_,e=>by cases e
 | (k',t')::r,_,t,.cons (b:=(kk,v')) ⟨e1,rv⟩ rr,e=>by
  simp only at e1 rv
  subst e1
  unfold aU at e
  by_cases a:k'=k
  ·
   rw[z3 a] at e
   cases e
   exact⟨v',by rw[gD (by rw[a])],rv⟩
  ·
   rw[zD a] at e
   obtain⟨v,c,q⟩:=u5 rr e
   exact⟨v,by rw[gF (by intro z;exact a (NW z))];exact c,q⟩
theorem gQ {u s:AF} (B:X.A.units+1<br) (C:AA X o u) (w:AA X i s) (E:K4 i:=by exact λ_ _=>rfl):AA X (.Subscript o i p) (uN VT u s):=by
 refine PE.imp (zO B C w E) ?_;rintro σ H Q ⟨b,H3,Q3,q,I,h,k⟩;refine⟨b,H3,_,q,I,h,λx O D l c m F M=>⟨b,l,_,q.mono c,m,M,λy N K d g f z j=>?_⟩⟩;cases D with
 |ref a =>
  cases K with
  |str key =>
   have h':(match d a with
    |some (.dct kvs)=>oq (aU key kvs) λt=>Q3 t d
    |_=>False):=j
   split at h'
   ·
    rename_i kvs e
    obtain⟨vs,L,r⟩:=f a _ e
    cases n:aU key kvs with
    |none=>rw[n] at h';exact h'.elim
    |some t =>
     rw[n] at h'
     obtain⟨v,G,J⟩:=u5 r n
     refine⟨a,v,F.ref,?_,k.at (c.trans g) _ _ _ _ .refl f J h'⟩
     rw[z.str,<- G]
     exact EA.k (k:=bv key) L
   ·
    exact h'.elim
  |_=>exact j.elim
 |_=>exact j.elim
def Gr (b f d:AF):Co:=λD σ H=>d σ H λv c=>b σ c λx e=>f σ e λy H3=>match x,y with
 |.ref a,.str k=>match H3 a with
  |some (.dct kvs)=>kvs.length<am/\D.nx σ (fY H3 a (.dct (BD k v kvs)))
  |_=>False
 |_,_=>False
def Lr {K:a5} (o:At K H t v) (r:FM K H kvs vs):FM K H (BD k t kvs) (A0 vs (bv k:AG) v):=by
 have e:∀{kvs:ξ (aw × T)} {vs:ξ (AG × V)},FM K H kvs vs->(kvs.any λc=>decide (c.1=k))=(vs.any λc=>decide (c.1=(bv k:AG)))/\FM K H (kvs.map (λc=>if c.1=k then (c.1,t) else c)) (vs.map (λc=>if c.1=(bv k:AG) then (c.1,v) else c)):=by
  intro kvs;induction kvs with
  |nil=>intro vs r;cases r;exact⟨rfl,.nil⟩
  |cons p l s =>
  intro vs r;cases r with
  |cons q u =>
  rename_i b y;obtain⟨j,g⟩:=s u;obtain⟨m,n⟩:=q;obtain⟨x,w⟩:=b;simp only at m n;subst m;by_cases f:p.1=k
  .refine⟨by simp [f],?_⟩;simp only[I_,f,if_true];exact .cons ⟨rfl,o⟩ g
  have d:¬(bv p.1:AG)=bv k:=λz=>f (NW z);refine⟨by simp only[M0,f,d,ED,ON];exact j,?_⟩;simp only[I_,f,d,W_];exact .cons ⟨rfl,n⟩ g
 obtain⟨j,g⟩:=e r;unfold BD A0;rw[j];split
 .exact g
 have i:∀{a:ξ (aw × T)} {b:ξ (AG × V)},FM K H a b->FM K H (a++[(k,t)]) (b++[((bv k:AG),v)]):=λh=>KF h ⟨rfl,o⟩;exact i r
theorem zc.wrD {K:a5} (s:zc K H3 H) (g:H a=ab (.dK h)) (r:FM K H kvs c):zc K (fY H3 a (.dct kvs)) (As H a (.dK c)):=λb o e=>by
 have f:t6 K H (As H a (.dK c)):=bW (by rw[g];exact trivial);by_cases d:b=a
 .subst d;rw[aq] at e;cases e;exact⟨c,aZ,r.mono f⟩
 rw[aF d] at e;exact (s b o e).stay f λu q=>by rw[aL d];exact q
theorem rR {I t s:AF} (P:X.A.units+1<br) (Q:AA X o I) (N:AA X i t) (J:AA X b s) (S:eh b (ab (.Subscript o i j)) m.line X.env=ce ai:=by rfl):
  EV X (.Assign [.Subscript o i j] b m) (Gr I t s):=by
 refine PS.imp (K7 P Q N J S) ?_;rintro D σ H ⟨f,H3,T,q,V,h,L,_⟩;refine⟨f,H3,_,q,V,h,λv H1 s w g z W Y=>⟨f,w,_,q.mono g,z,Y,λx Z R C c E U M=>⟨f,C,_,q.mono (g.trans c),E,M,λy G t n d l O u=>?_⟩⟩⟩;cases R with
 |ref a =>
  cases t with
  |str key =>
   have h':(match n a with
    |some (.dct kvs)=>kvs.length<am/\T.nx f (fY n a (.dct (BD key s kvs)))
    |_=>False):=u
   split at h'
   ·
    rename_i kvs e
    obtain⟨vs,F,r⟩:=l a _ e
    have B:=W.mono (c.trans d)
    have p:t6 X.K G (As G a (.dK (A0 vs (bv key:AG) v))):=bW (by rw[F];exact trivial)
    refine⟨a,_,(U.mono d).ref,?_,L _ _ _ _ (g.trans (c.trans (d.trans p))) (q.mono (g.trans (c.trans (d.trans p)))) (l.wrD F (Lr B r)) h'.2⟩
    rw[O.str]
    exact MY.k (k:=bv key) F (by rw[<- EO r];exact h'.1)
   ·
    exact h'.elim
  |_=>exact u.elim
 |_=>exact u.elim
noncomputable def XH:ξ (aw × AF)->AV->lq->(ξ (aw × T)->lq->Prop)->Prop
 |[],_,H,Q=>Q [] H
 | (k,tv)::r,σ,H,Q=>tv σ H λy a=>XH r σ a λps H3=>Q ((k,y)::ps) H3
noncomputable def p? (kvs a:ξ (aw × T)):ξ (aw × T):=a.foldl (λb c=>BD c.1 c.2 b) kvs
def TQ (a:ξ (aw × AF)):AF:=λσ H Q=>∀p,H p=af->XH a σ (fY H p (.dct [])) λps b=>b p=ab (.dct [])/\ps.length<=15/\Q (.ref p) (fY b p (.dct (p? [] ps)))
variable {p u?:gE}{es:ξ Expr}{id Ty:String}
def TV (r:ξ T->lq->AC->Prop) (t:CF):AF:=λσ H Q=>t σ H λvs a=>r vs a Q
theorem aQ (v:dB X (.builtin id) r) (j:Gl X x) (s:X.mg x=af) (l:bi x=ab (.builtin id)) (u:DL X (e::es) t) (g:x≠"__name__":=by decide) (c:(x==("__debug__":aw))=ai:=by decide)
  (i:aE (e::es) X.env=(ai,bt e X.env)::aE es X.env:=by rfl) (a:(cf u? (aE es X.env)).any (·.1)=ai:=by rfl):AA X (.Call (.Name x p) (e::es) [] u?) (TV r t):=by
 refine PE.imp (Ex v j s l u g c i a) ?_;rintro σ H Q ⟨b,H3,Q3,o,n,h,k⟩;exact⟨b,H3,_,o,n,h,λvs H' ts d m f r q=>⟨ts,d,Q3,r,f,q,k.at m⟩⟩
theorem bG (v:dB X (.type Ty) r) (j:Gl X x) (s:X.mg x=af) (l:bi x=ab (.type Ty)) (u:DL X (e::es) t) (g:x≠"__name__":=by decide) (c:(x==("__debug__":aw))=ai:=by decide)
  (i:aE (e::es) X.env=(ai,bt e X.env)::aE es X.env:=by rfl) (a:(cf u? (aE es X.env)).any (·.1)=ai:=by rfl):AA X (.Call (.Name x p) (e::es) [] u?) (TV r t):=by
 refine PE.imp (Cz v j s l u g c i a) ?_;rintro σ H Q ⟨b,H3,Q3,o,n,h,k⟩;exact⟨b,H3,_,o,n,h,λvs H' ts d m f r q=>⟨ts,d,Q3,r,f,q,k.at m⟩⟩
theorem jV (c:Gl X x) (g:X.mg x=af) (e:bi x=ab (.type n)) (b:x≠"__name__":=by decide) (a:(x==("__debug__":aw))=ai:=by decide):AA X (.Name x u?) (OS (.ty n)):=by refine PE.imp (Ka (v:=.ty n) c g e rfl b a) ?_;rintro σ H Q ⟨d,H3,Q3,i,f,h,k⟩;exact k _ _ _ H3 .refl f .ofTy h
def nP.one' {K:a5}{t:T} (r:nP K H [t] vs):∃v,vs=[v]/\At K H t v:=by obtain⟨v,_,rfl,a,b⟩:=r.inv;rw[b.inv0];exact⟨v,rfl,a⟩
def nP.two' {K:a5}{t u:T} (r:nP K H [t,u] vs):∃v w,vs=[v,w]/\At K H t v/\At K H u w:=by obtain⟨v,_,rfl,a,b⟩:=r.inv;obtain⟨w,rfl,c⟩:=b.one';exact⟨v,w,rfl,a,c⟩
def zZ:ξ T->lq->AC->Prop:=λts H Q=>match ts with
 |[.ref a]=>match H a with
  |some (.lst xs)=>Q (.int xs.length) H
  |some (.rol xs)=>Q (.int xs.length) H
  |_=>False
 |[.tup xs]=>Q (.int xs.length) H
 |[.str z]=>z.length<=am/\Q (.int z.length) H
 |_=>False
theorem cJ:dB X (.builtin "len") zZ:=by
 refine DC.imp (q?.or rG) ?_;rintro xs H Q ⟨ts,H3,Q3,r,b,h,k⟩
 match ts,h,r with
 |[.ref a],h,r =>
  obtain⟨v,rfl,c⟩:=r.one';have h':(match H3 a with
   |some (.lst xs)=>Q3 (.int xs.length) H3
   |some (.rol xs)=>Q3 (.int xs.length) H3
   |_=>False):=h
  split at h'
  .rename_i us e;obtain⟨f,d,g⟩:=b.sqL (.inl e);exact .inl ⟨a,f,by rw[c.ref],.inl d,by rw[<- g.length];exact k _ _ _ _ .refl b .ofInt h'⟩
  .rename_i us e;obtain⟨f,d,g⟩:=b.sqL (.inr e);exact .inl ⟨a,f,by rw[c.ref],.inl d,by rw[<- g.length];exact k _ _ _ _ .refl b .ofInt h'⟩
  exact h'.elim
 |[.tup us],h,r=>obtain⟨v,rfl,c⟩:=r.one';obtain⟨a,f,rfl,d,g⟩:=c.tup;exact .inl ⟨a,f,rfl,.inr d,by rw[<- g.length];exact k _ _ _ _ .refl b .ofInt h⟩
 |[.str z],h,r =>
 obtain⟨v,rfl,c⟩:=r.one';exact .inr ⟨z,by rw[c.str],h.1,k _ _ _ _ .refl b .ofInt h.2⟩
def xX:ξ T->lq->AC->Prop:=λts H Q=>match ts with
 |[.ref a]=>match H a with
  |some (.lst xs)=>∀p,H p=af->Q (.ref p) (fY H p (.lst xs))
  |some (.rol xs)=>∀p,H p=af->Q (.ref p) (fY H p (.lst xs))
  |_=>False
 |[.tup xs]=>∀p,H p=af->Q (.ref p) (fY H p (.lst xs))
 |_=>False
theorem rT:dB X (.type "list") xX:=by
 refine DC.imp rH ?_;rintro xs H Q ⟨ts,H3,Q3,r,c,h,k⟩
 match ts,h,r with
 |[.ref a],h,r =>
  obtain⟨v,rfl,i⟩:=r.one';have h':(match H3 a with
   |some (.lst xs)=>∀p,H3 p=af->Q3 (.ref p) (fY H3 p (.lst xs))
   |some (.rol xs)=>∀p,H3 p=af->Q3 (.ref p) (fY H3 p (.lst xs))
   |_=>False):=h
  split at h'
  .rename_i us e;obtain⟨f,d,g⟩:=c.sqL (.inl e);exact⟨a,f,by rw[i.ref],.inl d,λl b=>k _ _ _ _ (aO b) (c.newLst b g) .ofRef (h' l (c.fresh b))⟩
  .rename_i us e;obtain⟨f,d,g⟩:=c.sqL (.inr e);exact⟨a,f,by rw[i.ref],.inl d,λl b=>k _ _ _ _ (aO b) (c.newLst b g) .ofRef (h' l (c.fresh b))⟩
  exact h'.elim
 |[.tup us],h,r =>
 obtain⟨v,rfl,i⟩:=r.one';obtain⟨a,f,rfl,d,g⟩:=i.tup;exact⟨a,f,rfl,.inr d,λl b=>k _ _ _ _ (aO b) (c.newLst b g) .ofRef (h l (c.fresh b))⟩
def rW:ξ T->lq->AC->Prop:=λts H Q=>match ts with
 |[.ref a]=>match H a with
  |some (.lst xs)=>Q (.tup xs) H
  |some (.rol xs)=>Q (.tup xs) H
  |_=>False
 |[.tup xs]=>Q (.tup xs) H
 |_=>False
theorem cR:dB X (.type "tuple") rW:=by
 refine DC.imp pW ?_;rintro xs H Q ⟨ts,H3,Q3,r,f,h,k⟩
 match ts,h,r with
 |[.ref a],h,r =>
  obtain⟨v,rfl,i⟩:=r.one';have h':(match H3 a with
   |some (.lst xs)=>Q3 (.tup xs) H3
   |some (.rol xs)=>Q3 (.tup xs) H3
   |_=>False):=h
  split at h'
  .rename_i us e;obtain⟨d,c,g⟩:=f.sqL (.inl e);exact⟨a,d,by rw[i.ref],.inl ⟨c,λl b=>k _ _ _ _ (aO b) (f.new b) (zc.newTup (H3:=H3) b g) h'⟩⟩
  .rename_i us e;obtain⟨d,c,g⟩:=f.sqL (.inr e);exact⟨a,d,by rw[i.ref],.inl ⟨c,λl b=>k _ _ _ _ (aO b) (f.new b) (zc.newTup (H3:=H3) b g) h'⟩⟩
  exact h'.elim
 |[.tup us],h,r =>
 obtain⟨v,rfl,i⟩:=r.one';obtain⟨a,d,rfl,c,g⟩:=i.tup;exact⟨a,d,rfl,.inr ⟨c,k _ _ _ _ .refl f (.ofTup c g) h⟩⟩
def Gu:ξ T->lq->AC->Prop:=λts H Q=>match ts with
 |[.int i]=>Q (.int i) H
 |[.bl b]=>Q (.int (if b then 1 else 0)) H
 |_=>False
theorem z6:dB X (.type "int") Gu:=by
 refine DC.imp Cu ?_;rintro xs H Q ⟨ts,H3,Q3,r,c,h,k⟩
 match ts,h,r with
 |[.int i],h,r=>obtain⟨v,rfl,a⟩:=r.one';exact .inl ⟨i,by rw[a.int],k _ _ _ _ .refl c .ofInt h⟩
 |[.bl b],h,r =>
 obtain⟨v,rfl,a⟩:=r.one';exact .inr ⟨b,by rw[a.bl],k _ _ _ _ .refl c .ofInt h⟩
noncomputable def AJ:ξ T->ζ (ξ Int)
 |[]=>ab []
 |.int i::r=>(AJ r).map (i::·)
 |_=>af
theorem ig:∀(ns:ξ Int),AJ (ns.map T.int)=ab ns
 |[]=>rfl
 |n::r=>by simp [AJ,ig r]
noncomputable def jF {K:a5}:∀{ts:ξ T}{xs:ξ V}{us:ξ av}{ns:ξ Int},AJ ts=ab ns->nP K H ts xs->zS xs us->cS us ns
 |[],xs,us,ns,e,r,v=>by
  cases e
  rw[r.inv0] at v
  cases v
  exact .nil
 |.int i::l,xs,us,ns,e,r,v=>by
  obtain⟨x,g,rfl,f,d⟩:=r.inv
  cases v with
  |cons a b =>
   rw[f.int] at a
   obtain⟨t,rfl⟩:=a
   cases c:AJ l with
   |none=>simp [AJ,c] at e
   |some h =>
    simp [AJ,c] at e
    subst e
    exact .cons _ _ (jF c d b)
 |.non::_,_,_,_,e,_,_=>by simp [AJ] at e
 |.bl _::_,_,_,_,e,_,_=>by simp [AJ] at e
 |.str _::_,_,_,_,e,_,_=>by simp [AJ] at e
 |.tup _::_,_,_,_,e,_,_=>by simp [AJ] at e
 |.ref _::_,_,_,_,e,_,_=>by simp [AJ] at e
 |.ty _::_,_,_,_,e,_,_=>by simp [AJ] at e
def Qh:List T->lq->AC->Prop:=λts H Q=>match ts with
 |[.ref a]=>match H a with
  |some (.lst xs)=>oq (AJ xs) λns=>Q (.int ns.sum) H
  |some (.rol xs)=>oq (AJ xs) λns=>Q (.int ns.sum) H
  |_=>False
 |_=>False
theorem xY (D:X.calm=ag):dB X (.builtin "sum") Qh:=by
 intro pins s σ H xs us Q I C h;obtain⟨ts,H3,Q3,r,n,h,k⟩:=h
 match ts,h,r with
 |[.ref a],h,r =>
 obtain⟨v,rfl,m⟩:=r.one';obtain⟨u,rfl,y⟩:=AU C;rw[m.ref] at y;cases y;have b:∀{d:List T} {i:List V},BN X.K H a i->nP X.K H d i->oq (AJ d) (λns=>Q3 (.int ns.sum) H3)->ax (aI X.prog X.w) X.A (fT (.builtin "sum") [.ref a]) (EP X pins σ Q) X.xe s:=by
  intro d i j f q;cases e:AJ d with
  |none=>rw[e] at q;exact q.elim
  |some ns =>
  rw[e] at q;obtain⟨c,p,F,_⟩:=I.list j;have t:=jF e f p;have g:AllInts c.toArray:=t.allInts;obtain⟨l,x⟩:=g.items;have o:s.heap.IsList a (intItems l):=by rw[<- x];exact F.isList
  refine sum_intListG (I.ok.hd D) o λh' tk t' E=>?_;have B:preSum (numAt l) l.size=ns.sum:=by have z:=xp l;rw[<- x,show c.toArray.toList=c from rfl,t.numsOf] at z;rw[preSum_eq,NY Ap,<- z]
  rw[B];exact⟨.int ns.sum,H,I.kept E,⟨t',rfl⟩,k _ _ _ _ .refl n .ofInt q⟩
 have h':(match H3 a with
  |some (.lst xs)=>oq (AJ xs) λns=>Q3 (.int ns.sum) H3
  |some (.rol xs)=>oq (AJ xs) λns=>Q3 (.int ns.sum) H3
  |_=>False):=h
 split at h'
 .rename_i d e;obtain⟨i,j,f⟩:=n.sqL (.inl e);exact b j f h'
 .rename_i d e;obtain⟨i,j,f⟩:=n.sqL (.inr e);exact b j f h'
 exact h'.elim
noncomputable def BG (n:String):T->lq->ζ Bool:=λx H=>match x with
 |.non=>ab (n=="NoneType")
 |.bl _=>ab (n=="bool"||n=="int")
 |.int _=>ab (n=="int")
 |.str _=>ab (n=="str")
 |.tup _=>ab (n=="tuple")
 |.ref a=>match H a with
  |some (.lst _)=>ab (n=="list")
  |some (.dct _)=>ab (n=="dict")
  |_=>af
 |.ty _=>af
def qN:ξ T->lq->AC->Prop:=λts H Q=>match ts with
 |[x,.ty n]=>(n="str"\/n="int"\/n="bool"\/n="tuple"\/n="list")/\oq (BG n x H) λb=>Q (.bl b) H
 |_=>False
theorem jG (K:a5) (a b:String) (d:a="NoneType"\/a="bool"\/a="int"\/a="str"\/a="tuple"\/a="list"\/a="dict") (c:b="str"\/b="int"\/b="bool"\/b="tuple"\/b="list") :
  kitOne K (.type a) (.type b)=ab (a==b||(a=="bool"&&b=="int")):=by
 rcases d with rfl | rfl | rfl | rfl | rfl | rfl | rfl <;> rcases c with rfl | rfl | rfl | rfl | rfl <;> rfl
theorem iH:dB X (.builtin "isinstance") qN:=by
 intro pins s σ H xs us Q I B h;obtain⟨ts,H3,Q3,r,l,h,k⟩:=h
 match ts,h,r with
 |[x,.ty n],h,r =>
 obtain⟨v,w,rfl,g,A⟩:=r.two';obtain⟨G,L,rfl,f,t⟩:=G0 B;rw[A.ty] at t;cases t;obtain⟨d,h⟩:=h;have c:∀{b:Bool},Q3 (.bl b) H3->∀tk,EP X pins σ Q (.bool b) { s with toks:=tk}:=λq tk=>⟨.bl _,H,I.tok tk,rfl,k _ _ _ _ .refl l .ofBl q⟩;cases x with
 |non=>exact gh I f (by rw[g.non];exact .non) (jG X.K "NoneType" n Ap d) (c (by rcases d with rfl | rfl | rfl | rfl | rfl <;> exact h))
 |bl b=>exact gh I f (by rw[g.bl];exact .bl b) (jG X.K "bool" n Ap d) (c (by rcases d with rfl | rfl | rfl | rfl | rfl <;> exact h))
 |int i=>exact gh I f (by rw[g.int];exact .int i) (jG X.K "int" n Ap d) (c (by rcases d with rfl | rfl | rfl | rfl | rfl <;> exact h))
 |str z=>exact gh I f (by rw[g.str];exact .str z) (jG X.K "str" n Ap d) (c (by rcases d with rfl | rfl | rfl | rfl | rfl <;> exact h))
 |tup us=>obtain⟨a,J,rfl,C,F⟩:=g.tup;cases f;obtain⟨E,_,⟨o,y,D,_⟩,_⟩:=I.tuple C;exact eI t4 I.kIn ⟨o,y,D⟩ (jG X.K "tuple" n Ap d) (λz=>nomatch z) (c (by rcases d with rfl | rfl | rfl | rfl | rfl <;> exact h))
 |ref a =>
  have h':oq (match H3 a with
   |some (.lst _)=>ab (n=="list")
   |some (.dct _)=>ab (n=="dict")
   |_=>af) λb=>Q3 (.bl b) H3:=h
  rw[g.ref] at f
  cases e:H3 a with
  |none=>rw[e] at h';exact h'.elim
  |some o =>
   rw[e] at h'
   cases o with
   |lst j =>
    obtain⟨u,p,_⟩:=l a _ e
    exact gh I f (.lst p) (jG X.K "list" n Ap d) (c (by rcases d with rfl | rfl | rfl | rfl | rfl <;> exact h'))
   |dct j =>
    obtain⟨u,p,_⟩:=l a _ e
    exact gh I f (.dK p) (jG X.K "dict" n Ap d) (c (by rcases d with rfl | rfl | rfl | rfl | rfl <;> exact h'))
   |rol j=>exact h'.elim
   |dcp j=>exact h'.elim
   |exc _ _=>exact h'.elim
   |xdt _=>exact h'.elim
   |dcn _ _=>exact h'.elim
   |tab _ _=>exact h'.elim
   |dtk _ _ _=>exact h'.elim
   |dci _=>exact h'.elim
   |dif _ _=>exact h'.elim
   |ins _ _=>exact h'.elim
 |ty m=>exact h.elim
variable {w? v?:gE}
def Pe (b:String):T->lq->Prop:=λx H=>match x with
 |.str _=>b="str"
 |.tup _=>b="tuple"
 |.ref a=>b="list"/\match H a with
  |some (.lst _)=>True
  |some (.rol _)=>True
  |_=>False
 |_=>False
def Qi {K:a5}{t:T} (d:zc K H3 H) (r:At K H t v) (h:Pe Ty t H3):P5 K Ty v H:=by
 cases t with
 |str z=>rw[r.str];exact h
 |tup ts=>obtain⟨a,xs,rfl,c,_⟩:=r.tup;exact .inr (.inl ⟨h,xs,c⟩)
 |ref a =>
  rw[r.ref];refine .inl ⟨h.1,?_⟩;have b:=h.2;cases e:H3 a with
  |none=>rw[e] at b;exact b.elim
  |some o =>
  rw[e] at b;cases o with
  |lst ts=>obtain⟨xs,c,_⟩:=d.sqL (.inl e);exact⟨xs,c⟩
  |rol ts=>obtain⟨xs,c,_⟩:=d.sqL (.inr e);exact⟨xs,c⟩
  |dct _=>exact b.elim
  |dcp _=>exact b.elim
  |exc _ _=>exact b.elim
  |xdt _=>exact b.elim
  |dcn _ _=>exact b.elim
  |tab _ _=>exact b.elim
  |dtk _ _ _=>exact b.elim
  |dci _=>exact b.elim
  |dif _ _=>exact b.elim
  |ins _ _=>exact b.elim
 |_=>exact h.elim
def XJ (c:String) (m:T->ξ T->lq->AC->Prop) (b:AF) (t:CF):AF:=λσ H Q=>b σ H λx a=>Pe c x a/\t σ a λxs d=>m x xs d Q
theorem dC (E:o0 Ty) (l:Slot Ty name id) (r:y3 (.builtin id)=ce (.type "method_descriptor")) (F:xW X id m) (A:AA X o to) (z:DL X (e::es) t)
  (b:da o name X.env (bt o X.env)=bt o X.env:=by rfl)
  (j:((cf v? (aE (e::es) X.env)).all (λx=>!x.1)&&(pV v? (i5 [] X.env)).all (λx=>x.1.isSome)
   && decide ((e::es).length+([]:ξ qA).length+(if ([]:ξ qA).isEmpty then 0 else 1)<30))=ag:=by rfl)
  (c:(w?.endLine==v?.line)=ag:=by rfl) (C:aE (e::es) X.env=(ai,bt e X.env)::aE es X.env:=by rfl) (a:(cf v? (aE es X.env)).any (·.1)=ai:=by rfl) :
  AA X (.Call (.Attribute o name w?) (e::es) [] v?) (XJ Ty m to t):=by
 refine PE.imp (Xm E l r F A z b j c C a) ?_;rintro σ H Q ⟨f,H3,Q3,s,D,h,k⟩;exact⟨f,H3,_,s,D,h,λx I B n i g u v=>⟨Qi g u v.1,f,n,_,s.mono i,g,v.2,λvs G ts p d q w y=>⟨B,ts,p,Q3,u.mono d,w,q,y,k.at (i.trans d)⟩⟩⟩
def Qj:T->ξ T->lq->AC->Prop:=λx ts H Q=>match x,ts with
 |.ref a,[t]=>match H a with
  |some (.lst xs)=>xs.length<am/\Q .non (fY H a (.lst (xs++[t])))
  |_=>False
 |_,_=>False
theorem bH:xW X "list.append" Qj:=by
 refine HL.imp CG ?_;rintro x xs H Q ⟨i,ts,H3,Q3,d,b,f,h,k⟩
 match i,ts,h,d,b with
 |.ref a,[t],h,d,b =>
 obtain⟨v,rfl,j⟩:=b.one';have h':(match H3 a with
  |some (.lst xs)=>xs.length<am/\Q3 .non (fY H3 a (.lst (xs++[t])))
  |_=>False):=h
 split at h'
 .rename_i l e;obtain⟨g,c,r⟩:=f a _ e;exact⟨a,g,v,d.ref,rfl,c,by rw[<- r.length];exact h'.1,k _ _ _ _ (bW (by rw[c];exact trivial)) (f.wrL c (r.append (.cons j .nil))) .ofNon h'.2⟩
 exact h'.elim
def Qk:T->ξ T->lq->AC->Prop:=λx ts H Q=>match x,ts with
 |.ref a,[.ref b]=>match H a,H b with
  |some (.lst xs),ab (.lst ys)=>xs.length+ys.length<=am/\Q .non (fY H a (.lst (xs++ys)))
  |_,_=>False
 |_,_=>False
theorem qO:xW X "list.extend" Qk:=by
 refine HL.imp CJ ?_;rintro x xs H Q ⟨m,ts,H3,Q3,i,f,e,h,k⟩
 match m,ts,h,i,f with
 |.ref a,[.ref b],h,i,f =>
 obtain⟨v,rfl,o⟩:=f.one';have h':(match H3 a,H3 b with
  |some (.lst xs),ab (.lst c)=>xs.length+c.length<=am/\Q3 .non (fY H3 a (.lst (xs++c)))
  |_,_=>False):=h
 split at h'
 .rename_i q s p n;obtain⟨c,g,r⟩:=e a _ p;obtain⟨l,d,j⟩:=e b _ n;exact⟨a,b,c,l,i.ref,by rw[o.ref],g,d,by rw[<- r.length,<- j.length];exact h'.1,k _ _ _ _ (bW (by rw[g];exact trivial)) (e.wrL g (r.append j)) .ofNon h'.2⟩
 exact h'.elim
noncomputable def oA:ξ T->ζ (ξ aw)
 |[]=>ab []
 |.str x::r=>(oA r).map (x::·)
 |_=>af
theorem qP:∀(ns:ξ aw),oA (ns.map T.str)=ab ns
 |[]=>rfl
 |n::r=>by simp [oA,qP r]
noncomputable def z7:T->ξ T->lq->AC->Prop:=λx ts H Q=>match x,ts with
 |.str z,[.str y]=>match bE z y 0 z.length 1 with
  |i::_=>Q (.int i) H
  |[]=>False
 |_,_=>False
theorem Gv:xW X "str.index" z7:=by
 intro pins s σ H x xs v us Q I a c g;obtain⟨j,ts,H3,Q3,d,b,l,h,k⟩:=g
 match j,ts,h,d,b with
 |.str z,[.str y],h,d,b =>
 obtain⟨w,rfl,m⟩:=b.one';obtain⟨u,rfl,f⟩:=AU c;rw[m.str] at f;obtain⟨t',rfl⟩:=f;rw[d.str] at a;obtain⟨t,rfl⟩:=a;have h':(match bE z y 0 z.length 1 with
  |i::_=>Q3 (.int i) H3
  |[]=>False):=h
 split at h'
 .rename_i i AB e;exact SC.index e ⟨.int i,H,I.tok _,⟨_,rfl⟩,k _ _ _ _ .refl l .ofInt h'⟩
 exact h'.elim
end
noncomputable def CL (n0:ξ (aw × er)) (N:ξ aw) (kind:Bool) (a:ξ (aw × er)) (N':ξ aw) (nt:Nat) (cap:ξ Nat):Bool :=
 kind&&a.all (λy=>y.2 != .cell||a.lookup y.1==ab .cell)&&a.all (λx=>x.2 != .local||a.lookup x.1==ab .local)&&a.all (λy=>y.2 != .free||n0.lookup y.1==ab .cell||n0.lookup y.1==ab .free)
  && N'.length==nt+cap.length&&(ay cap.length).all λj=>match N'[nt+j]?,cap[j]? with
   |some x,ab i=>N[i]?==ab x&&a.lookup x==ab .free
   |_,_=>ai
theorem bz (c:X.env.scope.names=n0) (m:X.N=N) (h:CL n0 N (scope.kind==.function) scope.names N' nt cap=ag):Lo X N' nt cap scope:=by
 unfold CL at h;simp only[F_,V_,E1,bne_iff_ne,PH,Y_] at h;obtain⟨⟨⟨⟨⟨o,l⟩,d⟩,g⟩,p⟩,f⟩:=h;refine⟨o,λy a e=>(l y a).resolve_left λz=>z e,λx n e=>(d x n).resolve_left λz=>z e,λy a e=>?_,p,λj x e=>?_⟩
 .show X.env.scope.names.lookup y.1=_\/X.env.scope.names.lookup y.1=_;rw[c];rcases g y a with (z | z) | z
  .exact AL e z
  .exact .inl z
  exact .inr z
 have k:j<cap.length:=by have:=(IR.mp e).1;omega
 have q:=f j k;rw[e] at q;cases b:cap[j]? with
 |none=>rw[b] at q;cases q
 |some i =>
 rw[b] at q;simp only[F_,E1] at q;exact⟨i,rfl,by rw[m];exact q.1,q.2⟩
structure G3 (K:a5) (mg:aw->Option av) (x:aw) (st:ez) (ps:List aw) (f:ae) (fd:d4):Prop where
 fn:G1 K x x st f fd
 b:A5 K fd ps []
 m:mg x=ab (.ref f)
structure Bl (mg:aw->Option av):Prop where
 len_:mg "len"=af
 sum_:mg "sum"=af
 isinstance_:mg "isinstance"=af
 all_:mg "all"=af
 any_:mg "any"=af
 list_:mg "list"=af
 tuple_:mg "tuple"=af
 int_:mg "int"=af
 str_:mg "str"=af
 bool_:mg "bool"=af
 range_:mg "range"=af
 zip_:mg "zip"=af
 reversed_:mg "reversed"=af
 enumerate_:mg "enumerate"=af
 set_:mg "set"=af
 sorted_:mg "sorted"=af
 min_:mg "min"=af
 max_:mg "max"=af
 dict_:mg "dict"=af
 repr_:mg "repr"=af
theorem cL:bi "len"=ab (.builtin "len"):=by decide +kernel
theorem xZ:bi "sum"=ab (.builtin "sum"):=by decide +kernel
theorem cu:bi "isinstance"=ab (.builtin "isinstance"):=by decide +kernel
theorem Gw:bi "all"=ab (.builtin "all"):=by decide +kernel
theorem TX:bi "any"=ab (.builtin "any"):=by decide +kernel
theorem mL:bi "list"=ab (.type "list"):=by decide +kernel
theorem bZ:bi "tuple"=ab (.type "tuple"):=by decide +kernel
theorem yc:bi "int"=ab (.type "int"):=by decide +kernel
theorem Gx:bi "str"=ab (.type "str"):=by decide +kernel
theorem Ls:bi "bool"=ab (.type "bool"):=by decide +kernel
theorem xr.u30 (r:xr k A):A.units+30<br:=by have:=r.un;omega
theorem xr.u31 (r:xr k A):A.units+31<br:=by have:=r.un;omega
theorem xr.u1 (r:xr k A):A.units+1<br:=by have:=r.un;omega
def vq (o:ζ (ζ T)) (Q:T->Prop):Prop:=match o with
 |some (ab t)=>Q t
 |_=>False
theorem aa0 (t:T) (Q:T->Prop):vq (ab (ab t)) Q=Q t:=rfl
theorem Gy (i:Nat):nQ i σ H Q=vq (σ[i]?) λt=>Q t H:=rfl
def bq (x:T) (Q:Bool->Prop):Prop:=match x with
 |.bl k=>Q k
 |_=>False
theorem dz (b:Bool) (Q:Bool->Prop):bq (.bl b) Q=Q b:=rfl
theorem TY (t:AF) (Q:Bool->lq->Prop):iD t σ H Q=t σ H λx H'=>bq x λk=>Q k H':=rfl
theorem Lw (r b:R3) (d c a:AF):rM r b d c a σ H Q=d σ H λx f=>c σ f λy g=>r x y g λz H3=>bq z λk=>if k=ag then a σ H3 λw e=>b y w e Q else Q (.bl ai) H3:=rfl
theorem T3 (b d:AF):FN b d σ H Q=b σ H λx a=>bq x λc=>if c=ag then d σ a Q else Q (.bl ai) a:=rfl
theorem XM (b d:AF):PK b d σ H Q=b σ H λx a=>bq x λc=>if c=ag then Q (.bl ag) a else d σ a Q:=rfl
theorem T4 (a:AF):FP a σ H Q=a σ H λx b=>bq x λc=>Q (.bl (!c)) b:=rfl
theorem eY (v:a) (Q:a->Prop):oq (ab v) Q=Q v:=rfl
theorem q_I (C:Int->Int->Prop) (g:Int->Int->T) (i j:Int):MH C g (.int i) (.int j) H Q=(C i j/\Q (g i j) H):=rfl
theorem aa1 (g:Int->Int->T) (i j:Int):rP g (.int i) (.int j) H Q=Q (g i j) H:=rfl
theorem T5 (i j:Int):uU (.int i) (.int j) H Q=Q (.int (i+j)) H:=rfl
theorem T6 (i j:aw):uU (.str i) (.str j) H Q=(i.length+j.length<=am/\Q (.str (i++j)) H):=rfl
theorem T7 (xs a:ξ T):uU (.tup xs) (.tup a) H Q=(xs.length+a.length<=am/\Q (.tup (xs++a)) H):=rfl
def XN (o u:ζ O3) (H:lq) (Q:AC):Prop:=match o,u with
 |some (.lst xs),ab (.lst ys)=>xs.length+ys.length<=am/\∀p,H p=af->Q (.ref p) (fY H p (.lst (xs++ys)))
 |_,_=>False
theorem Gz (a b:ae):uU (.ref a) (.ref b) H Q=XN (H a) (H b) H Q:=rfl
theorem lw (xs a:ξ T):XN (ab (.lst xs)) (ab (.lst a)) H Q=(xs.length+a.length<=am/\∀p,H p=af->Q (.ref p) (fY H p (.lst (xs++a)))):=rfl
theorem XQ (n:Bool) (i j:Int):rQ n (.int i) (.int j) H Q=Q (.bl (if n then !decide (i=j) else decide (i=j))) H:=rfl
theorem XR (n:Bool) (i j:aw):rQ n (.str i) (.str j) H Q=Q (.bl (if n then !decide (i=j) else decide (i=j))) H:=rfl
theorem XS (n:Bool) (i j:Bool):rQ n (.bl i) (.bl j) H Q=Q (.bl (if n then !decide (i=j) else decide (i=j))) H:=rfl
theorem z8 (n:Bool) (xs a:ξ T):rQ n (.tup xs) (.tup a) H Q=(xs.all (pl 20)=ag/\a.all (pl 20)=ag/\Q (.bl (if n then !decide (xs=a) else decide (xs=a))) H):=rfl
def XT (n:Bool) (a b:ae) (o u:ζ O3) (H:lq) (Q:AC):Prop:=match o,u with
 |some (.lst xs),ab (.lst ys)=>a≠b/\xs.all (pl 20)=ag/\ys.all (pl 20)=ag/\Q (.bl (if n then !@decide (xs=ys) (instDecidableEqList xs ys) else @decide (xs=ys) (instDecidableEqList xs ys))) H
 |_,_=>False
theorem XX (n:Bool) (a b:ae):rQ n (.ref a) (.ref b) H Q=XT n a b (H a) (H b) H Q:=rfl
theorem oE (n:Bool) (a b:ae) (xs c:ξ T):XT n a b (ab (.lst xs)) (ab (.lst c)) H Q=(a≠b/\xs.all (pl 20)=ag/\c.all (pl 20)=ag/\Q (.bl (if n then !decide (xs=c) else decide (xs=c))) H):=rfl
theorem Ql (n:Bool) (x:T) (ts:ξ T):uX n x (.tup ts) H Q=(pl 20 x=ag/\ts.all (pl 20)=ag/\Q (.bl (eQ n x ts)) H):=rfl
theorem X3 (n:Bool) (i j:aw):uX n (.str i) (.str j) H Q=Q (.bl (XY n i j)) H:=rfl
def W1 (n:Bool) (x:T) (o:ζ O3) (H:lq) (Q:AC):Prop:=match o with
 |some (.lst ts)=>pl 20 x=ag/\ts.all (pl 20)=ag/\Q (.bl (eQ n x ts)) H
 |some (.rol ts)=>pl 20 x=ag/\ts.all (pl 20)=ag/\Q (.bl (eQ n x ts)) H
 |_=>False
theorem Qm (n:Bool) (x:T) (a:ae):uX n x (.ref a) H Q=W1 n x (H a) H Q:=rfl
theorem Qn (n:Bool) (x:T) (ts:ξ T):W1 n x (ab (.lst ts)) H Q=(pl 20 x=ag/\ts.all (pl 20)=ag/\Q (.bl (eQ n x ts)) H):=rfl
def RF (o:ζ O3) (i:Int) (H:lq) (Q:AC):Prop:=match o with
 |some (.lst ts)=>oq (AR ts i) λt=>Q t H
 |some (.rol ts)=>oq (AR ts i) λt=>Q t H
 |_=>False
theorem GD (a:ae) (i:Int):uY (.ref a) (.int i) H Q=RF (H a) i H Q:=rfl
theorem z9 (ts:ξ T) (i:Int):RF (ab (.lst ts)) i H Q=oq (AR ts i) λt=>Q t H:=rfl
theorem X4 (ts:ξ T) (i:Int):uY (.tup ts) (.int i) H Q=oq (AR ts i) λt=>Q t H:=rfl
theorem X5 (z:aw) (i:Int):uY (.str z) (.int i) H Q=(z.length<=am/\oq (AR z.cps.toList i) λc=>Q (.str ⟨#[c]⟩) H):=rfl
def XW (o:ζ O3) (a:ae) (k:Int) (v:T) (H:lq) (Q:lq->Prop):Prop:=match o with
 |some (.lst ts)=>oq (D9 ts.length k) λj=>Q (fY H a (.lst (ts.set j v)))
 |_=>False
theorem T8 (a:ae) (k:Int) (v:T) (Q:lq->Prop):Gp (.ref a) (.int k) v H Q=XW (H a) a k v H Q:=rfl
theorem X6 (ts:ξ T) (a:ae) (k:Int) (v:T) (Q:lq->Prop):XW (ab (.lst ts)) a k v H Q=oq (D9 ts.length k) λj=>Q (fY H a (.lst (ts.set j v))):=rfl
def pq (x:T) (Q:ζ Int->Prop):Prop:=match x with
 |.int i=>Q (ab i)
 |_=>False
theorem aa2 (i:Int) (Q:ζ Int->Prop):pq (.int i) Q=Q (ab i):=rfl
theorem T9 (t:AF) (Q:ζ Int->lq->Prop):Gq t σ H Q=t σ H λx a=>pq x λo=>Q o a:=rfl
def UP (o:ζ O3) (a b:ζ Int) (H:lq) (Q:AC):Prop:=match o with
 |some (.lst ts)=>∀p,H p=af->Q (.ref p) (fY H p (.lst (eU ts a b)))
 |some (.rol ts)=>∀p,H p=af->Q (.ref p) (fY H p (.lst (eU ts a b)))
 |_=>False
theorem X7 (a:ae) (b c:ζ Int):Lq (.ref a) b c H Q=UP (H a) b c H Q:=rfl
theorem Qo (ts:ξ T) (a b:ζ Int):UP (ab (.lst ts)) a b H Q=∀p,H p=af->Q (.ref p) (fY H p (.lst (eU ts a b))):=rfl
theorem Ua (ts:ξ T) (a b:ζ Int):UP (ab (.rol ts)) a b H Q=∀p,H p=af->Q (.ref p) (fY H p (.lst (eU ts a b))):=rfl
theorem X8 (ts:ξ T) (a b:ζ Int):Lq (.tup ts) a b H Q=(¬(HT.sIx ts.length 0 a=0/\HT.sIx ts.length ts.length b=ts.length)/\Q (.tup (eU ts a b)) H):=rfl
theorem Yb (z:aw) (a b:ζ Int):Lq (.str z) a b H Q=(z.length<=am/\Q (.str (gX z a b)) H):=rfl
def XI (o:ζ O3) (k:aw) (H:lq) (Q:AC):Prop:=match o with
 |some (.dct kvs)=>oq (aU k kvs) λt=>Q t H
 |_=>False
theorem q_D (a:ae) (k:aw):VT (.ref a) (.str k) H Q=XI (H a) k H Q:=rfl
theorem Yc (kvs:ξ (aw × T)) (k:aw):XI (ab (.dct kvs)) k H Q=oq (aU k kvs) λt=>Q t H:=rfl
def VI (x y v:T) (H:lq) (Q:lq->Prop):Prop:=match x,y with
 |.ref a,.str k=>match H a with
  |some (.dct kvs)=>kvs.length<am/\Q (fY H a (.dct (BD k v kvs)))
  |_=>False
 |_,_=>False
def Xs (o:ζ O3) (a:ae) (k:aw) (v:T) (H:lq) (Q:lq->Prop):Prop:=match o with
 |some (.dct kvs)=>kvs.length<am/\Q (fY H a (.dct (BD k v kvs)))
 |_=>False
theorem Ub (a c b:AF) (D:UA):Gr a c b D σ H=b σ H λv e=>a σ e λx f=>c σ f λy H3=>VI x y v H3 λd=>D.nx σ d:=rfl
theorem Yd (a:ae) (k:aw) (v:T) (Q:lq->Prop):VI (.ref a) (.str k) v H Q=Xs (H a) a k v H Q:=rfl
theorem Ye (kvs:ξ (aw × T)) (a:ae) (k:aw) (v:T) (Q:lq->Prop):Xs (ab (.dct kvs)) a k v H Q=(kvs.length<am/\Q (fY H a (.dct (BD k v kvs)))):=rfl
def T0 (o:ζ O3) (H:lq) (Q:AC):Prop:=match o with
 |some (.lst xs)=>Q (.int xs.length) H
 |some (.rol xs)=>Q (.int xs.length) H
 |_=>False
theorem Uc (a:ae):zZ [.ref a] H Q=T0 (H a) H Q:=rfl
theorem Yg (xs:ξ T):T0 (ab (.lst xs)) H Q=Q (.int xs.length) H:=rfl
theorem Ud (xs:ξ T):zZ [.tup xs] H Q=Q (.int xs.length) H:=rfl
theorem Ue (z:aw):zZ [.str z] H Q=(z.length<=am/\Q (.int z.length) H):=rfl
def U2 (o:ζ O3) (H:lq) (Q:AC):Prop:=match o with
 |some (.lst xs)=>∀p,H p=af->Q (.ref p) (fY H p (.lst xs))
 |some (.rol xs)=>∀p,H p=af->Q (.ref p) (fY H p (.lst xs))
 |_=>False
theorem Lx (a:ae):xX [.ref a] H Q=U2 (H a) H Q:=rfl
theorem Yh (xs:ξ T):U2 (ab (.lst xs)) H Q=∀p,H p=af->Q (.ref p) (fY H p (.lst xs)):=rfl
theorem Ly (xs:ξ T):xX [.tup xs] H Q=∀p,H p=af->Q (.ref p) (fY H p (.lst xs)):=rfl
def WZ (o:ζ O3) (H:lq) (Q:AC):Prop:=match o with
 |some (.lst xs)=>Q (.tup xs) H
 |some (.rol xs)=>Q (.tup xs) H
 |_=>False
theorem Ug (a:ae):rW [.ref a] H Q=WZ (H a) H Q:=rfl
theorem Yi (xs:ξ T):WZ (ab (.lst xs)) H Q=Q (.tup xs) H:=rfl
theorem Uh (xs:ξ T):rW [.tup xs] H Q=Q (.tup xs) H:=rfl
theorem Ui (i:Int):Gu [.int i] H Q=Q (.int i) H:=rfl
theorem Uj (b:Bool):Gu [.bl b] H Q=Q (.int (if b then 1 else 0)) H:=rfl
def WG (o:Option O3) (H:lq) (Q:AC):Prop:=match o with
 |some (.lst xs)=>oq (AJ xs) λns=>Q (.int ns.sum) H
 |some (.rol xs)=>oq (AJ xs) λns=>Q (.int ns.sum) H
 |_=>False
theorem Uk (a:ae):Qh [.ref a] H Q=WG (H a) H Q:=rfl
theorem Yj (xs:List T):WG (ab (.lst xs)) H Q=oq (AJ xs) λns=>Q (.int ns.sum) H:=rfl
theorem Aa (x:T) (n:String):qN [x,.ty n] H Q=((n="str"\/n="int"\/n="bool"\/n="tuple"\/n="list")/\oq (BG n x H) λb=>Q (.bl b) H):=rfl
theorem Yk (a:String) (z:aw):Pe a (.str z) H=(a="str"):=rfl
def VZ (o:ζ O3):Prop:=match o with
 |some (.lst _)=>True
 |some (.rol _)=>True
 |_=>False
theorem Yl (b:String) (a:ae):Pe b (.ref a) H=(b="list"/\VZ (H a)):=rfl
theorem Ym (xs:ξ T):VZ (ab (.lst xs))=True:=rfl
def VW (o:ζ O3) (a:ae) (t:T) (H:lq) (Q:AC):Prop:=match o with
 |some (.lst xs)=>xs.length<am/\Q .non (fY H a (.lst (xs++[t])))
 |_=>False
theorem Yn (a:ae) (t:T):Qj (.ref a) [t] H Q=VW (H a) a t H Q:=rfl
theorem GF (xs:ξ T) (a:ae) (t:T):VW (ab (.lst xs)) a t H Q=(xs.length<am/\Q .non (fY H a (.lst (xs++[t])))):=rfl
def XA (o u:ζ O3) (a:ae) (H:lq) (Q:AC):Prop:=match o,u with
 |some (.lst xs),ab (.lst ys)=>xs.length+ys.length<=am/\Q .non (fY H a (.lst (xs++ys)))
 |_,_=>False
theorem Yo (a b:ae):Qk (.ref a) [.ref b] H Q=XA (H a) (H b) a H Q:=rfl
theorem Yp (xs b:ξ T) (a:ae):XA (ab (.lst xs)) (ab (.lst b)) a H Q=(xs.length+b.length<=am/\Q .non (fY H a (.lst (xs++b)))):=rfl
def XV (o:ξ Nat) (H:lq) (Q:AC):Prop:=match o with
 |i::_=>Q (.int i) H
 |[]=>False
theorem Lz (z y:aw):z7 (.str z) [.str y] H Q=XV (bE z y 0 z.length 1) H Q:=rfl
theorem Yq (i:Nat) (r:ξ Nat):XV (i::r) H Q=Q (.int i) H:=rfl
def UK (vs:ξ T) (H:lq) (R:ξ T->(lq->Prop)->lq->Prop):Prop:=match vs with
 |[.int j]=>-(2^62)<=j/\j<2^62/\R (fH 0 j.toNat) dR H
 |[.int i,.int j]=>(-(2^62)<=i/\i<2^62 /\ -(2^62)<=j/\j<2^62)/\R (fH i (j - i).toNat) dR H
 |_=>False
theorem Yr (a:CF) (R:ξ T->(lq->Prop)->lq->Prop):Gf a σ H R=a σ H λvs b=>UK vs b R:=rfl
theorem Ys (j:Int) (R:ξ T->(lq->Prop)->lq->Prop):UK [.int j] H R=(-(2^62)<=j/\j<2^62/\R (fH 0 j.toNat) dR H):=rfl
theorem Yt (i j:Int) (R:ξ T->(lq->Prop)->lq->Prop):UK [.int i,.int j] H R=((-(2^62)<=i/\i<2^62 /\ -(2^62)<=j/\j<2^62)/\R (fH i (j - i).toNat) dR H):=rfl
def WV (x:T) (H:lq) (R:ξ T->(lq->Prop)->lq->Prop):Prop:=match x with
 |.tup ts=>R ts dR H
 |_=>False
theorem Ul (a:AF) (R:ξ T->(lq->Prop)->lq->Prop):Qc a σ H R=a σ H λx b=>WV x b R:=rfl
theorem Yu (ts:ξ T) (R:ξ T->(lq->Prop)->lq->Prop):WV (.tup ts) H R=R ts dR H:=rfl
def XG (x:T) (H:lq) (R:ξ T->(lq->Prop)->lq->Prop):Prop:=match x with
 |.ref a=>match H a with
  |some (.lst ts)=>R ts (bK a ts) H
  |some (.rol ts)=>R ts (bK a ts) H
  |_=>False
 |_=>False
def RI (o:ζ O3) (a:ae) (H:lq) (R:ξ T->(lq->Prop)->lq->Prop):Prop:=match o with
 |some (.lst ts)=>R ts (bK a ts) H
 |some (.rol ts)=>R ts (bK a ts) H
 |_=>False
theorem LC (a:AF) (R:ξ T->(lq->Prop)->lq->Prop):Gd a σ H R=a σ H λx b=>XG x b R:=rfl
theorem Ab (a:ae) (R:ξ T->(lq->Prop)->lq->Prop):XG (.ref a) H R=RI (H a) a H R:=rfl
theorem oF (ts:ξ T) (a:ae) (R:ξ T->(lq->Prop)->lq->Prop):RI (ab (.lst ts)) a H R=R ts (bK a ts) H:=rfl
theorem Um (Q:AV->lq->Prop):Ga [] σ H Q=Q σ H:=rfl
theorem LK (t:Fk) (u:pY) (x:T) (r:ξ T) (Q:AV->lq->Prop):rN t u (x::r) σ H Q=t x σ H λσ' H'=>u r σ' H' Q:=rfl
theorem Uo (n:Nat) (g:pY) (ts:ξ T) (Q:AV->lq->Prop):Gb n g (.tup ts) σ H Q=(ts.length=n/\g ts σ H Q):=rfl
theorem LQ (h:j<n):D9 n (j:Int)=ab j:=by unfold D9;rw[z3 (KU j),z3 zo,GS]
theorem at0 (a:b) (r:ξ b):AR (a::r) 0=ab a:=cA (j:=0) rfl
theorem at1 (a b:c) (r:ξ c):AR (a::b::r) 1=ab b:=cA (j:=1) rfl
theorem at2 (a b c:d) (r:ξ d):AR (a::b::c::r) 2=ab c:=cA (j:=2) rfl
theorem jh (I:ξ T->AV->lq->Prop) (b:I ts σ H) (c:∀σ H,I [] σ H->still H/\D.nx σ H) (e:∀t r σ H (N:AV->lq->Prop),I (t::r) σ H->(∀σ' H',I r σ' H'->N σ' H')->still H/\g t σ H λσ2 H2=>a { D with nx:=N,ct:=N,bk:=D.nx} σ2 H2):Fs g a D still ts σ H:=by
 induction ts generalizing σ H with
 |nil=>exact c σ H b
 |cons t r d=>exact e t r σ H (Fs g a D still r) b λσ' H' h=>d h
theorem oG (I:ξ T->ξ T->AV->lq->Prop) (e:I ts a σ H) (f:∀a σ H,I [] a σ H->still H/\a.length<=am/\c a H) (j:∀t r a σ H (N:ξ T->AV->lq->Prop),I (t::r) a σ H->(∀d σ' H',I r d σ' H'->N d σ' H') ->
   still H/\g t σ H λσ2 H2=>tt σ2 H2 λb H3=>if b=ag then te σ2 H3 λy H4=>a.length<am/\N (a++[y]) σ2 H4 else N a σ2 H3):EG g tt te still c ts a σ H:=by
 induction ts generalizing σ H a with
 |nil=>exact f a σ H e
 |cons t r i=>exact j t r a σ H (EG g tt te still c r) e λd σ' H' h=>i h
theorem ZY (n:Nat):HT.sIx n 0 af=0:=rfl
theorem rY {k:Nat}:eU ts af (ab (k:Int))=ts.take k:=by
 unfold eU;rw[ZY,HT.agW,mx,Nat.sub_zero];by_cases h:k<=ts.length
 .rw[lh h]
 rw[r6 zo,OK,NY zo]
theorem u6 {k:Nat}:eU ts (ab (k:Int)) af=ts.drop k:=by
 unfold eU;rw[HT.ahv,HT.agW];by_cases h:k<=ts.length
 .rw[lh h,NY Ap]
 rw[r6 zo,kQ (o_ _),kQ zo,xB]
theorem cV (h:fY H a o b=af):b≠a/\H b=af:=by
 by_cases e:b=a
 .subst e;rw[aq] at h;cases h
 rw[aF e] at h;exact⟨e,h⟩
theorem GJ (h:a≠b):fY (fY H a o) b u=fY (fY H b u) a o:=by
 funext c;by_cases d:c=b
 .subst d;rw[aq,aF (a6 h),aq]
 rw[aF d];by_cases e:c=a
 .subst e;rw[aq,aq]
 rw[aF e,aF e,aF d]
theorem bA {n:Type} (c f:n->T) (g:ξ n) (AB:AV) (h:still H) (q:g.length<=am) (o:∀a∈g,∀Q:AC,Q (f a) H->te (ab (c a)::AB) H Q) (k:j (g.map f) H):EG (iG 0) zV te still j (g.map c) [] (v::AB) H:=by
 refine oG (λr m σ H'=>∃(e i:ξ n) (v:ζ T),σ=v::AB/\r=e.map c/\m=i.map f/\i++e=g/\H'=H) ⟨g,[],v,rfl,rfl,rfl,rfl,rfl⟩ ?_ ?_
 .rintro m σ H' ⟨e,i,v,rfl,d,rfl,b,rfl⟩;have l:e=[]:=Pl.mp d.symm;subst l;rw[C9] at b;subst b;exact⟨h,by rw[g_];exact q,k⟩
 rintro x r m σ H' N ⟨e,i,v,rfl,d,rfl,b,rfl⟩ p;cases e with
 |nil=>cases d
 |cons t e =>
 injection d with e1 e2;subst e1 e2;refine⟨h,?_⟩;show te (ab (c t)::AB) H' _;refine o t (by rw[<- b];simp) _ ⟨?_,p _ _ _ ⟨e,i++[t],_,rfl,rfl,Ap,by rw[<- b];simp,rfl⟩⟩;have:=U_ a7 b;simp only[d_,n_] at this;rw[g_];omega
noncomputable def cF:ξ T->ζ (ξ Bool)
 |[]=>ab []
 |.bl x::r=>(cF r).map (x::·)
 |_=>af
theorem iI:∀(ns:ξ Bool),cF (ns.map T.bl)=ab ns
 |[]=>rfl
 |n::r=>by simp [cF,iI r]
noncomputable def iW {K:a5}:∀{ts:ξ T}{xs:ξ V}{us:ξ av}{c:ξ Bool},cF ts=ab c->nP K H ts xs->zS xs us->us=c.map dA
 |[],xs,us,c,e,r,v=>by
  cases e
  rw[r.inv0] at v
  cases v
  rfl
 |.bl i::l,xs,us,c,e,r,v=>by
  obtain⟨x,h,rfl,g,f⟩:=r.inv
  cases v with
  |cons a b =>
   rw[g.bl] at a
   cases d:cF l with
   |none=>simp [cF,d] at e
   |some j =>
    simp [cF,d] at e
    subst e
    cases a
    rw[iW d f b]
    rfl
 |.non::_,_,_,_,e,_,_=>by simp [cF] at e
 |.int _::_,_,_,_,e,_,_=>by simp [cF] at e
 |.str _::_,_,_,_,e,_,_=>by simp [cF] at e
 |.tup _::_,_,_,_,e,_,_=>by simp [cF] at e
 |.ref _::_,_,_,_,e,_,_=>by simp [cF] at e
 |.ty _::_,_,_,_,e,_,_=>by simp [cF] at e
def RY (o:ζ O3) (H:lq) (Q:AC):Prop:=match o with
 |some (.lst xs)=>oq (cF xs) λa=>Q (.bl (a.all id)) H
 |some (.rol xs)=>oq (cF xs) λa=>Q (.bl (a.all id)) H
 |_=>False
def Qp:ξ T->lq->AC->Prop:=λts H Q=>match ts with
 |[.ref a]=>RY (H a) H Q
 |_=>False
theorem Yv (a:ae):Qp [.ref a] H Q=RY (H a) H Q:=rfl
theorem Yw (xs:ξ T):RY (ab (.lst xs)) H Q=oq (cF xs) λa=>Q (.bl (a.all id)) H:=rfl
theorem FK (c:ξ Bool):(ay c.length).all (λi=>c.getD i ag)=c.all id:=by
 rw[CC,V_,V_];constructor
 .intro h b e;obtain⟨i,d,rfl⟩:=SE.mp e;have:=h i (Y_.mpr d);simpa [kx,d] using this
 intro h i d;have a:=Y_.mp d;have:=h c[i] (FI a);simpa [kx,a] using this
theorem GK (M:X.calm=ag):dB X (.builtin "all") Qp:=by
 intro pins s σ H xs us Q I L h;obtain⟨ts,H3,Q3,r,B,h,k⟩:=h
 match ts,h,r with
 |[.ref a],h,r =>
 obtain⟨v,rfl,y⟩:=r.one';obtain⟨u,rfl,E⟩:=AU L;rw[y.ref] at E;cases E;have f:∀{g:ξ T} {m:ξ V},BN X.K H a m->nP X.K H g m->oq (cF g) (λd=>Q3 (.bl (d.all id)) H3)->ax (aI X.prog X.w) X.A (fT (.builtin "all") [.ref a]) (EP X pins σ Q) X.xe s:=by
  intro g m p l q;cases e:cF g with
  |none=>rw[e] at q;exact q.elim
  |some d =>
  rw[e] at q;obtain⟨O,t,D,_⟩:=I.list p;have G:=iW e l t;subst G;have x:a≠s.heap.objs.size:=λz=>by obtain⟨o,n,j,_⟩:=D;have:=y_ j;rw[z] at this;exact CU _ this
  refine call_all_walk (NG D.isList ?_);refine⟨s.heap.objs.size,_,_,_,_,_,λi=>d.getD i ag,rfl,Walks.list (A:=X.A.in1) (I.ok.hd M) s.heap.objs.size a x (d.map dA).toArray,⟨⟨_,l_ _ rfl,rfl,rfl⟩,D.isList.push _⟩,λi v s' P R F hq=>?_,λh' tk N=>?_⟩
  .have c:(d.map dA)[i]?=ab v:=by simpa using F
   rw[C_] at c;cases C:d[i]? with
   |none=>rw[C] at c;cases c
   |some b =>
   rw[C] at c;cases c;have:d.getD i ag=b:=by simp [kx,C]
   dsimp only at hq;rw[this] at hq;exact GO hq
  have J:(d.map dA).toArray.size=d.length:=Ap
  rw[J,FK];refine⟨.bl (d.all id),H,I.kept λb o e=>N b o (λz=>?_) (b_ _ e),rfl,k _ _ _ _ .refl B .ofBl q⟩;have:=y_ e;rw[j_.mp z] at this;exact CU _ this
 have h':RY (H3 a) H3 Q3:=h;cases j:H3 a with
 |none=>rw[j] at h';exact h'.elim
 |some o =>
 rw[j] at h';cases o with
 |lst g=>obtain⟨m,p,l⟩:=B.sqL (.inl j);exact f p l h'
 |rol g=>obtain⟨m,p,l⟩:=B.sqL (.inr j);exact f p l h'
 |dct _=>exact h'.elim
 |dcp _=>exact h'.elim
 |exc _ _=>exact h'.elim
 |xdt _=>exact h'.elim
 |dcn _ _=>exact h'.elim
 |tab _ _=>exact h'.elim
 |dtk _ _ _=>exact h'.elim
 |dci _=>exact h'.elim
 |dif _ _=>exact h'.elim
 |ins _ _=>exact h'.elim
noncomputable def Yx:T->ζ AG
 |.int i=>ab (.inl i)
 |.str x=>ab (.inr x)
 |_=>af
noncomputable def lQ:ξ T->ζ (ξ AG)
 |[]=>ab []
 |t::r=>match Yx t,lQ r with
  |some k,ab ks=>ab (k::ks)
  |_,_=>af
noncomputable def qQ {K:a5}:∀{ts:ξ T}{xs:ξ V}{ks:ξ AG},lQ ts=ab ks->nP K H ts xs->xs=ks.map kV
 |[],xs,ks,e,r=>by cases e;exact r.inv0
 |t::ts,xs,ks,e,r=>by
  obtain⟨v,AB,rfl,b,d⟩:=r.inv
  unfold lQ at e
  split at e
  ·
   rename_i k f a c
   cases e
   rw[qQ c d]
   cases t with
   |int i=>cases a;rw[b.int];rfl
   |str x=>cases a;rw[b.str];rfl
   |_=>cases a
  ·
   cases e
noncomputable def Qq (k:ξ AG):ξ (ξ AG × T)->ζ T
 |[]=>af
 | (k',v)::r=>if k'=k then ab v else Qq k r
noncomputable def putP (k:ξ AG) (v:T) (kvs:ξ (ξ AG × T)):ξ (ξ AG × T) :=
 if (kvs.any λa=>decide (a.1=k))=ag then kvs.map (λa=>if a.1=k then (a.1,v) else a) else kvs++[(k,v)]
def ZI (o:ζ O3) (ts:ξ T) (H:lq) (Q:AC):Prop:=match o with
 |some (.dcp kvs)=>oq (lQ ts) λks=>oq (Qq ks kvs) λt=>Q t H
 |_=>False
def ZH (x:T) (ts:ξ T) (H:lq) (Q:AC):Prop:=match x with
 |.ref a=>ZI (H a) ts H Q
 |_=>False
def LR (a:AF) (b:CF):AF:=λσ H Q=>a σ H λx c=>b σ c λts d=>ts.length<=am/\ZH x ts d Q
def a' (o:ζ O3) (a:ae) (ts:ξ T) (v:T) (H:lq) (Q:lq->Prop):Prop:=match o with
 |some (.dcp kvs)=>oq (lQ ts) λks=>kvs.length<am/\Q (fY H a (.dcp (putP ks v kvs)))
 |_=>False
def K! (x:T) (ts:ξ T) (v:T) (H:lq) (Q:lq->Prop):Prop:=match x with
 |.ref a=>a' (H a) a ts v H Q
 |_=>False
def Ma (d:AF) (e:CF) (b:AF):Co:=λD σ H=>b σ H λv c=>d σ c λx f=>e σ f λts H3=>ts.length<=am/\K! x ts v H3 λa=>D.nx σ a
section
variable {H:lq}{Q:AC}
variable {X:Cx}{o i k value:Expr}
def GP:AF:=λ_ H Q=>∀p,H p=af->Q (.ref p) (fY H p (.dct []))
def Mf:AF:=λ_ H Q=>∀p,H p=af->Q (.ref p) (fY H p (.dcp []))
theorem zc.newD {K:a5}{H:Hp} (s:zc K H3 H) (c:H p=af):zc K (fY H3 p (.dct [])) (As H p (.dK [])):=λa o e=>by
 by_cases b:a=p
 .subst b;rw[aq] at e;cases e;exact⟨[],aZ,.nil⟩
 rw[aF b] at e;exact s.new c a o e
theorem Ac:AA X (.Dict [] [] u?) GP:=by refine PE.imp uG ?_;rintro σ H Q ⟨c,H3,Q3,d,b,h,k⟩ p a;exact k _ _ _ _ (aO a) (b.newD a) .ofRef (h p (b.fresh a))
def WA (y:T) (p:ae) (v:T) (H:lq) (Q:AC):Prop:=match y with
 |.str k=>H p=ab (.dct [])/\Q (.ref p) (fY H p (.dct [(k,v)]))
 |_=>False
def GQ (tk a:AF):AF:=λσ H Q=>∀p,H p=af->tk σ (fY H p (.dct [])) λy b=>a σ b λv c=>WA y p v c Q
theorem Yy (x:aw) (p:ae) (v:T):WA (.str x) p v H Q=(H p=ab (.dct [])/\Q (.ref p) (fY H p (.dct [(x,v)]))):=rfl
theorem GR (x:AA X k tk) (s:AA X v tv):AA X (.Dict [ab k] [v] u?) (GQ tk tv):=by
 refine PE.imp (zQ (uH x s zP) rfl rfl Ap (by show 1<=15;decide)) ?_;rintro σ H Q ⟨c,H3,Q3,n,q,h,k⟩ p i;have a:t6 X.K H (As H p (.dK [])):=aO i;refine⟨c,fY H3 p (.dct []),_,n.mono a,q.newD i,h p (q.fresh i),λy D w j d l u B=>?_⟩;refine⟨c,j,_,n.mono (a.trans d),l,B,λz C t f b g A o=>?_⟩;cases w with
 |str key =>
  have h':f p=ab (.dct [])/\Q3 (.ref p) (fY f p (.dct [(key,t)])):=o
  obtain⟨ws,m,r⟩:=g p _ h'.1
  cases r
  refine⟨m,[(bv key,z)],by rw[(u.mono b).str];rfl,by show 1<=15;decide,?_⟩
  have e:jB [] [((bv key:AG),z)]=[((bv key:AG),z)]:=rfl
  rw[e]
  exact k _ _ _ _ (a.trans (d.trans (b.trans (bW (by rw[m];exact trivial))))) (g.wrD m (.cons ⟨rfl,A⟩ .nil)) .ofRef h'.2
 |_=>exact o.elim
def Sa (neg:Bool) (y:T) (o:ζ O3) (H:lq) (Q:AC):Prop:=match y,o with
 |.str k,ab (.dct kvs)=>Q (.bl (if neg then !(aU k kvs).isSome else (aU k kvs).isSome)) H
 |_,_=>False
def UB (neg:Bool) (y x:T) (H:lq) (Q:AC):Prop:=match x with
 |.ref a=>Sa neg y (H a) H Q
 |_=>False
def GX (neg:Bool) (a b:AF):AF:=λσ H Q=>a σ H λy c=>b σ c λx d=>UB neg y x d Q
theorem Yz (neg:Bool) (y:T) (a:ae):UB neg y (.ref a) H Q=Sa neg y (H a) H Q:=rfl
theorem YB (neg:Bool) (k:aw) (kvs:ξ (aw × T)):Sa neg (.str k) (ab (.dct kvs)) H Q=Q (.bl (if neg then !(aU k kvs).isSome else (aU k kvs).isSome)) H:=rfl
theorem qR {K:a5}{H:Hp}{k:aw}:∀{kvs:ξ (aw × T)}{vs:ξ (AG × V)},FM K H kvs vs->(gC vs (bv k:AG)).isSome=(aU k kvs).isSome
 |[],_,.nil=>rfl
 | (k',t')::r,_,.cons (b:=(kk,v')) ⟨e1,rv⟩ rr=>by
  simp only at e1 rv
  subst e1
  unfold aU
  by_cases a:k'=k
  ·
   rw[z3 a,gD (by rw[a])];rfl
  ·
   rw[zD a,gF (by intro z;exact a (NW z))]
   exact qR rr
def Ad {H:Hp} (g:zc X.K H3 H) (l:At X.K H d x) (j:At X.K H c y) (q:UB neg c d H3 Q3):
  ∃a f b,x=.ref a/\EA H a y f/\(if neg then !f.isSome else f.isSome)=b/\Q3 (.bl b) H3:=by
 cases d with
 |ref a =>
  have h':Sa neg c (H3 a) H3 Q3:=q
  cases c with
  |str k =>
   cases e:H3 a with
   |none=>rw[e] at h';exact h'.elim
   |some h =>
    rw[e] at h'
    cases h with
    |dct kvs =>
     obtain⟨ws,i,r⟩:=g a _ e
     refine⟨a,gC ws (bv k:AG),_,l.ref,by rw[j.str];exact EA.k (k:=bv k) i,rfl,?_⟩
     rw[qR r]
     exact h'
    |_=>exact h'.elim
  |_=>exact h'.elim
 |_=>exact q.elim
theorem rZ (u:X.A.units+1<br) (s:AA X i ti) (v:AA X o td) (C:bP .In o=ai:=by rfl):DT X (.Compare i [.In] [o] u?) (iD (GX ai ti td)):=by refine PT.imp (m6 (Tn u s v) C) ?_;rintro σ H Q ⟨d,H3,Q3,n,B,h,k⟩;refine⟨d,H3,_,n,B,h,λy I J l f m t E=>⟨d,l,_,n.mono f,m,E,λx F G z c j w r=>?_⟩⟩;obtain⟨a,p,b,e,g,D,q⟩:=Ad j w (t.mono c) r;exact⟨a,p,e,g,b,by rw[show p.isSome=b from D],k _ _ _ (f.trans c) j q⟩
theorem qT (u:X.A.units+1<br) (s:AA X i ti) (v:AA X o td) (C:bP .NotIn o=ai:=by rfl):DT X (.Compare i [.NotIn] [o] u?) (iD (GX ag ti td)):=by refine PT.imp (m6 (qH u s v) C) ?_;rintro σ H Q ⟨d,H3,Q3,n,B,h,k⟩;refine⟨d,H3,_,n,B,h,λy I J l f m t E=>⟨d,l,_,n.mono f,m,E,λx F G z c j w r=>?_⟩⟩;obtain⟨a,p,b,e,g,D,q⟩:=Ad j w (t.mono c) r;exact⟨a,p,e,g,b,by rw[show (!p.isSome)=b from D],k _ _ _ (f.trans c) j q⟩
end
def De (x:T) (H:lq) (R:ξ T->(lq->Prop)->lq->Prop):Prop:=match x with
 |.tup ts=>R ts dR H
 |.ref a=>RI (H a) a H R
 |_=>False
theorem Uq (ts:ξ T):De (.tup ts) H R=R ts dR H:=rfl
theorem Ur (a:ae):De (.ref a) H R=RI (H a) a H R:=rfl
def GZ (i:Nat):Fn:=λσ H R=>vq (σ[i]?) λx=>De x H R
theorem Mg (i:Nat):GZ i σ H R=vq (σ[i]?) λx=>De x H R:=rfl
theorem Mh {X:Cx}{n:Expr} (i:Nat) {d:gE} (g:X.N[i]?=ab x:=by rfl) (f:Os X.env.scope x:=by first | exact im rfl | exact e5 (im rfl) | exact e5 (e5 rfl)) (m:(x==("__debug__":aw))=ai:=by decide) (c:(x==("__classdict__":aw))=ai:=by decide):FH X n (.Name x d) (GZ i):=by
 intro pins s σ H R I q;obtain⟨b,H3,R3,l,j,h,k⟩:=q;have h':vq (b[i]?) λx=>De x H3 R3:=h;cases e:b[i]? with
 |none=>rw[e] at h';exact h'.elim
 |some o =>
 cases o with
 |none=>rw[e] at h';exact h'.elim
 |some t =>
 rw[e] at h';cases t with
 |tup ts=>exact bY (v3 i g f m c) pins s σ H R I ⟨b,H3,R3,l,j,by show nQ i b H3 _;rw[Gy,e];exact h',k⟩
 |ref a=>exact bD (v3 i g f m c) pins s σ H R I ⟨b,H3,R3,l,j,by show nQ i b H3 _;rw[Gy,e];exact h',k⟩
 |_=>exact h'.elim
theorem aV {c:Type} (a:c->T) (xs:ξ c) (I:ξ c->AV->lq->Prop) (d:I [] σ H) (f:∀σ H,I xs σ H->still H/\D.nx σ H) (j:∀A x B σ H (N:AV->lq->Prop),xs=A++x::B->I A σ H->(∀σ' H',I (A++[x]) σ' H'->N σ' H')->still H/\g (a x) σ H λσ2 H2=>b { D with nx:=N,ct:=N,bk:=D.nx} σ2 H2):Fs g b D still (xs.map a) σ H:=by
 have:∀(B A:ξ c) (σ:AV) (H:lq),xs=A++B->I A σ H->Fs g b D still (B.map a) σ H:=by
  intro B;induction B with
  |nil=>intro A σ H e h;rw[C9] at e;subst e;exact f σ H h
  |cons x B i =>
  intro A σ H e h;exact j A x B σ H (Fs g b D still (B.map a)) e h λσ' H' h'=>i (A++[x]) σ' H' (by rw[e];simp) h'
 exact this xs [] σ H rfl d
theorem ik {i:Type} (c:i->T) (xs:ξ i) (I:ξ i->ξ T->AV->lq->Prop) (j:I [] [] σ H) (k:∀a σ H,I xs a σ H->still H/\a.length<=am/\d a H) (m:∀A x B a σ H (N:ξ T->AV->lq->Prop),xs=A++x::B->I A a σ H->(∀f σ' H',I (A++[x]) f σ' H'->N f σ' H') ->
   still H/\g (c x) σ H λσ2 H2=>tt σ2 H2 λb H3=>if b=ag then te σ2 H3 λy H4=>a.length<am/\N (a++[y]) σ2 H4 else N a σ2 H3):EG g tt te still d (xs.map c) [] σ H:=by
 have:∀(B A:ξ i) (a:ξ T) (σ:AV) (H:lq),xs=A++B->I A a σ H->EG g tt te still d (B.map c) a σ H:=by
  intro B;induction B with
  |nil=>intro A a σ H e h;rw[C9] at e;subst e;exact k a σ H h
  |cons x B l =>
  intro A a σ H e h;exact m A x B a σ H (EG g tt te still d (B.map c)) e h λf σ' H' h'=>l (A++[x]) f σ' H' (by rw[e];simp) h'
 exact this xs [] [] σ H rfl j
theorem Mi (b:s.heap.IsTupleIter it t i) (h:s.heap.IsTuple t a) (j:a[i]?=ab x) (g:∀h',h'.IsTupleIter it t (i+1)->db it s.heap h'->Q x { s with heap:=h'}):ax (aI prog w) A (bS (.ref it)) Q E s:=by
 obtain⟨o,d,k,c⟩:=id b;obtain⟨m,f,_,l,e⟩:=h;unfold bS;refine a_ (II (name:=cr "__next__") b.typeIs Sl
  (EH Sl b.typeIs gT ?_ (gv _)))
 show ax _ _ (vE (.ref it) 0 >>= _) _ _ s;refine a_ (DS d c (x:=.ref t) rfl ?_);show ax _ _ (if (aS t==bp)=ag then _ else _) _ _ s;rw[zD (show ¬((aS t==bp)=ag) from M_)];show ax _ _ (vE (.ref it) 1 >>= _) _ _ s;refine a_ (DS d c (x:=.int i 0) rfl ?_);show ax _ _ (seqItems? (.ref t) >>= _) _ _ s;refine a_ (Gc f e ?_);simp only[GS,j];refine a_ (g6 d c Ap (i_ ⟨x,rfl,i_ (g _ ?_ (Lm ..))⟩));refine⟨_,P6 _ d (ly (Si c _)),(qa ..).trans k,?_⟩;rw[Si c];simp [cy]
theorem G4 (j:A.handled=af) (c:s.heap.IsTupleIter it t i) (k:s.heap.IsTuple t b) (n:b[i]?=af) (l:∀h' e,Heap.ExtBut it s.heap h'->(∃o,h'.get? e=ab o/\o.cls=.type "StopIteration")->E (.ref e) { s with heap:=h'}):ax (aI prog w) A (bS (.ref it)) Q E s:=by
 obtain⟨o,d,r,h⟩:=id c;obtain⟨p,g,_,q,f⟩:=k;unfold bS;refine a_ (II (name:=cr "__next__") c.typeIs Sl
  (EH Sl c.typeIs gT ?_ (gv _)))
 show ax _ _ (vE (.ref it) 0 >>= _) _ _ s;refine a_ (DS d h (x:=.ref t) rfl ?_);show ax _ _ (if (aS t==bp)=ag then _ else _) _ _ s;rw[zD (show ¬((aS t==bp)=ag) from M_)];show ax _ _ (vE (.ref it) 1 >>= _) _ _ s;refine a_ (DS d h (x:=.int i 0) rfl ?_);show ax _ _ (seqItems? (.ref t) >>= _) _ _ s;refine a_ (Gc g f ?_);simp only[GS,n];refine a_ (LY (a_ (g6 d h Ap ?_)));show ax _ _ (y7 (.type "StopIteration") [] >>= _) _ _ _;refine a_ ?_;simp only[y7,newTuple];refine a_ (FB ?_ (by size_fits));refine a_ (m:=hV _ _) (wpAny_of_eq (a:=bp) (by first | rfl | (simp only[hV];rfl)) ?_);refine FB ?_ (by size_fits);simp only[raiseNew];refine a_ (xi ?_);first | rw[show A.in1.handled=af from j] | rw[j]
 refine a_ (i_ (wpAny_throw ?_));exact l _ _ (((Lm ..).extBut.push _).push _) ⟨_,l_ _ rfl,rfl⟩
theorem Us (k:A.handled=af) (it t:ae) (d:t≠it) (a:Array av):
  lj prog w A it [it,t] a.size (λi v=>a[i]?=ab v) (λi h=>h.IsTupleIter it t i/\h.IsTuple t a) where
 live:=λ_ _ st=>let ⟨o,ho,_⟩:=st.1;⟨o,ho⟩
 frame:=λ_ _ _ st f=>⟨st.1.at λo e=>f it Ap o e,st.2.at λo e=>f t Ap o e⟩
 item:=λi s Q E g st j=>by
  refine Mi st.1 st.2 (x:=a[i]) (by simp [g]) λh' c b=>?_
  exact j _ h' s.toks (by simp [g]) ⟨c,st.2.extBut b.extBut d⟩ b
 done:=λs Q E st l=>G4 k st.1 st.2 Ap l
structure DH (z ti to i1 i2:ae) (f1 f2:List ae):Prop where
 ne:ti≠z/\to≠z/\ti≠to/\i1≠i2
 m1:i1∈f1
 m2:i2∈f2
 n1:z∉f1/\ti∉f1/\to∉f1/\i2∉f1
 n2:z∉f2/\ti∉f2/\to∉f2/\i1∉f2
theorem DH.i1z (D:DH z ti to i1 i2 f1 f2):i1≠z:=λe=>D.n1.1 (e▸D.m1)
theorem DH.i2z (D:DH z ti to i1 i2 f1 f2):i2≠z:=λe=>D.n2.1 (e▸D.m2)
theorem DH.i1ti (D:DH z ti to i1 i2 f1 f2):i1≠ti:=λe=>D.n1.2.1 (e▸D.m1)
theorem DH.i2ti (D:DH z ti to i1 i2 f1 f2):i2≠ti:=λe=>D.n2.2.1 (e▸D.m2)
theorem DH.i1to (D:DH z ti to i1 i2 f1 f2):i1≠to:=λe=>D.n1.2.2.1 (e▸D.m1)
theorem DH.i2to (D:DH z ti to i1 i2 f1 f2):i2≠to:=λe=>D.n2.2.2.1 (e▸D.m2)
theorem MC {Q:av->aT->Prop} (V:lj prog w A i1 f1 n1 P1 S1) (D2:lj prog w A i2 f2 n2 P2 S2) (D:DH z ti to i1 i2 f1 f2) (R:fA s.heap z ti to .none) (hI:de s.heap ti (.ref i1) (.ref i2)) (hO:de s.heap to a b) (h1:S1 k s.heap) (h2:S2 k s.heap) (k1:k<n1) (k2:k<n2) (hQ:∀x y h' tk,P1 k x->P2 k y->fA h' z ti to (cy s.heap.objs.size)->de h' to x y->S1 (k+1) h'->S2 (k+1) h'->de h' s.heap.objs.size x y->h'.objs.size=s.heap.objs.size+1 ->
   (∀c o,c∉[z,to,i1,i2]->s.heap.get? c=ab o->h'.get? c=ab o)->Q (.ref s.heap.objs.size) { s with heap:=h',toks:=tk}):
  ax (aI prog w) A (dt.«zip.__next__» ⟨[.ref z],[]⟩) (λY s'=>∃v,Y=.done (.ret v)/\Q v s') E s:=by
 show ax _ _ (vE (.ref z) 2 >>= _) _ _ _;refine a_ (DS R rfl (x:=.bool ai) rfl ?_);show ax _ _ (vE (.ref z) 3 >>= _) _ _ _;refine a_ (DS R rfl (x:=.ref ti) rfl ?_);refine a_ (Gc hI rfl ?_);show ax _ _ (cq (.ref z) >>= _) _ _ _;refine a_ ?_;unfold cq;refine a_ (DS R rfl (x:=.none) rfl (i_ ?_));try simp only[if_true]
 refine a_ (LY ?_);refine a_ (DS R rfl (x:=.ref to) rfl ?_);refine a_ (NV R Ap λha I m=>?_);replace I:fA ha z ti to .ellipsis:=I;refine a_ ?_;simp only[r_,sL,HC,MM];refine a_ (a_ (jS ?_));show ax _ _ (bS (.ref i1) >>= _) _ _ _;have p:∀{i:Nat} {h h':cn} {c:ae},S1 i h->db c h h'->c∉f1->S1 i h':=λst sb nc=>V.frame _ _ _ st λb r o e=>(sb.2 b λq=>nc (q▸r)).trans e;have t:∀{i:Nat} {h h':cn} {c:ae},S2 i h->db c h h'->c∉f2->S2 i h':=λst sb nc=>D2.frame _ _ _ st λb r o e=>(sb.2 b λq=>nc (q▸r)).trans e;refine a_ (V.item k _ _ _ k1 (p h1 m D.n1.1) λx r tb px sb1 g=>i_ ?_);have M:de r to a b:=(g.2 to (a6 D.i1to)).trans ((m.2 to D.ne.2.1).trans hO);refine a_ (Gc M rfl ?_);refine a_ (fi M λf H j=>?_);replace H:de f to x b:=H;refine a_ (i3 (i_ ?_));refine a_ (a_ (jS ?_));show ax _ _ (bS (.ref i2) >>= _) _ _ _;have Z:S2 k f:=t (t (t h2 m D.n2.1) g D.n2.2.2.2) j D.n2.2.2.1;refine a_ (D2.item k _ _ _ k2 Z λy hd td py U l=>i_ ?_);have L:de hd to x b:=(l.2 to (a6 D.i2to)).trans H;refine a_ (Gc L rfl ?_);refine a_ (fi L λd u n=>?_);replace u:de d to x y:=u;refine a_ (i3 (i_ (i_ ?_)));refine a_ (Gc u rfl ?_);refine a_ (hG ?_);have hsz:d.objs.size=s.heap.objs.size:=by rw[n.1,l.1,j.1,g.1,m.1]
 have P:fA d z ti to .ellipsis:=(n.2 z (a6 D.ne.2.1)).trans ((l.2 z (a6 D.i2z)).trans ((j.2 z (a6 D.ne.2.1)).trans ((g.2 z (a6 D.i1z)).trans I)));have hke:∀c o,c∉[z,to,i1,i2]->s.heap.get? c=ab o->d.get? c=ab o:=λc o f e=>by simp only[v_,DI,DJ,not_or] at f;exact (n.2 c f.2.1).trans ((l.2 c f.2.2.2).trans ((j.2 c f.2.1).trans ((g.2 c f.2.2.1).trans ((m.2 c f.1).trans e))))
 have X:S1 (k+1) d:=p (p (p sb1 j D.n1.2.2.1) l D.n1.2.2.2) n D.n1.2.2.1;have W:S2 (k+1) d:=t U n D.n2.2.2.1;have K:z<d.objs.size:=y_ P;show ax _ _ (eB (.ref z) (.ref d.objs.size) >>= _) _ _ _;refine a_ ?_;unfold eB;have T:fA (d.push { cls:=.type "tuple",data:=.seq #[x,y]}) z ti to .ellipsis:=b_ _ P;refine a_ (NV T Ap λhg G F=>?_);replace G:fA hg z ti to (cy d.objs.size):=G;refine NV G Ap λN B C=>?_;replace B:fA N z ti to (cy d.objs.size):=B;have S:∀c o,c≠z->d.get? c=ab o->N.get? c=ab o:=λc o c1 e=>(C.2 c c1).trans ((F.2 c c1).trans (b_ _ e));have O:de N d.objs.size x y:=(C.2 _ (B9 K)).trans ((F.2 _ (B9 K)).trans (l_ _ rfl));have J:N.objs.size=d.objs.size+1:=by rw[C.1,F.1,JI]
 rw[hsz] at B O J;refine i_ ⟨_,rfl,?_⟩;show Q (.ref d.objs.size) _;rw[hsz];exact hQ x y N _ px py B (S _ _ D.ne.2.1 u) (V.frame _ _ _ X λb r o e=>S b o (λq=>D.n1.1 (q▸r)) e) (D2.frame _ _ _ W λb r o e=>S b o (λq=>D.n2.1 (q▸r)) e) O J λc o f e=>S c o (λq=>f (q▸A_)) (hke c o f e)
theorem OO (H:lj prog w A i1 f1 n1 P1 S1) (O:lj prog w A i2 f2 n2 P2 S2) (D:DH z ti to i1 i2 f1 f2) (B:fA s.heap z ti to .none) (Z:de s.heap ti (.ref i1) (.ref i2)) (V:de s.heap to a b) (M:S1 k s.heap) (X:S2 k s.heap) (Y:k=n1\/(k<n1/\k=n2)) (N:∀h' e tk,(∀c o,c∉[z,to,i1,i2]->s.heap.get? c=ab o->h'.get? c=ab o)->(∃o,h'.get? e=ab o/\o.cls=.type "StopIteration")->E (.ref e) { s with heap:=h',toks:=tk}):
  ax (aI prog w) A (dt.«zip.__next__» ⟨[.ref z],[]⟩) Q E s:=by
 show ax _ _ (vE (.ref z) 2 >>= _) _ _ _;refine a_ (DS B rfl (x:=.bool ai) rfl ?_);show ax _ _ (vE (.ref z) 3 >>= _) _ _ _;refine a_ (DS B rfl (x:=.ref ti) rfl ?_);refine a_ (Gc Z rfl ?_);show ax _ _ (cq (.ref z) >>= _) _ _ _;refine a_ ?_;unfold cq;refine a_ (DS B rfl (x:=.none) rfl (i_ ?_));try simp only[if_true]
 refine a_ (LY ?_);refine a_ (DS B rfl (x:=.ref to) rfl ?_);refine a_ (NV B Ap λR n l=>?_);replace n:fA R z ti to .ellipsis:=n;refine a_ ?_;simp only[r_,sL,HC,MM];refine a_ (a_ (jS ?_));show ax _ _ (bS (.ref i1) >>= _) _ _ _;have F:∀{i:Nat} {h h':cn} {c:ae},S1 i h->db c h h'->c∉f1->S1 i h':=λst K g=>H.frame _ _ _ st λb p o e=>(K.2 b λq=>g (q▸p)).trans e;have r:∀{i:Nat} {h h':cn} {c:ae},S2 i h->db c h h'->c∉f2->S2 i h':=λst K g=>O.frame _ _ _ st λb p o e=>(K.2 b λq=>g (q▸p)).trans e;rcases Y with rfl | ⟨P,rfl⟩
 .refine a_ (H.done _ _ _ (F M l D.n1.1) λp e d ⟨I,f,m⟩=>?_);have C:fA p z ti to .ellipsis:=d z _ (a6 D.i1z) n;have t:e≠z:=λx=>by subst x;rw[C] at f;cases f;simp at m
  refine NV C Ap λJ _ j=>N J e _ (λc o g x=>?_) ⟨I,(j.2 e t).trans f,m⟩;simp only[v_,DI,DJ,not_or] at g;exact (j.2 c g.1).trans (d c _ g.2.2.1 ((l.2 c g.1).trans x))
 refine a_ (H.item k _ _ _ P (F M l D.n1.1) λx p tb px T d=>i_ ?_);have u:de p to a b:=(d.2 to (a6 D.i1to)).trans ((l.2 to D.ne.2.1).trans V);refine a_ (Gc u rfl ?_);refine a_ (fi u λJ W j=>?_);refine a_ (i3 (i_ ?_));refine a_ (a_ (jS ?_));show ax _ _ (bS (.ref i2) >>= _) _ _ _;have L:S2 k J:=r (r (r X l D.n2.1) d D.n2.2.2.2) j D.n2.2.2.1;refine a_ (O.done _ _ _ L λS e y ⟨I,f,m⟩=>?_);have v:fA S z ti to .ellipsis:=y z _ (a6 D.i2z) ((j.2 z (a6 D.ne.2.1)).trans ((d.2 z (a6 D.i1z)).trans n));have t:e≠z:=λx=>by subst x;rw[v] at f;cases f;simp at m
 refine NV v Ap λU _ G=>N U e _ (λc o g x=>?_) ⟨I,(G.2 e t).trans f,m⟩;simp only[v_,DI,DJ,not_or] at g;exact (G.2 c g.1).trans (y c _ g.2.2.2 ((j.2 c g.2.1).trans ((d.2 c g.2.2.1).trans ((l.2 c g.1).trans x))))
theorem Mj (j:lj prog w A.in1 i1 f1 n1 P1 S1) (v:lj prog w A.in1 i2 f2 n2 P2 S2) (D:DH z ti to i1 i2 f1 f2) (e:fA s.heap z ti to .none) (C:de s.heap ti (.ref i1) (.ref i2)) (u:de s.heap to a b) (m:S1 k s.heap) (B:S2 k s.heap) (g:k<n1) (H:k<n2) (h:∀x y h' tk,P1 k x->P2 k y->fA h' z ti to (cy s.heap.objs.size)->de h' to x y->S1 (k+1) h'->S2 (k+1) h'->de h' s.heap.objs.size x y->h'.objs.size=s.heap.objs.size+1 ->
   (∀c o,c∉[z,to,i1,i2]->s.heap.get? c=ab o->h'.get? c=ab o)->Q (ab (.ref s.heap.objs.size)) { s with heap:=h',toks:=tk}):ax (aI prog w) A (fI (.ref z)) Q E s:=by
 have d:s.TypeIs (.ref z) "zip":=⟨_,e,rfl⟩;unfold fI;exact a_ (NJ (II (name:=cr "__next__") d gu
  (EH gu d sj (MC j v D e C u m B g H λx y h' tk G r l t q n p f i=>i_ (h x y h' tk G r l t q n p f i)) (ra _))))
theorem G5 (n:lj prog w A.in1 i1 f1 n1 P1 S1) (h:lj prog w A.in1 i2 f2 n2 P2 S2) (D:DH z ti to i1 i2 f1 f2) (d:fA s.heap z ti to .none) (p:de s.heap ti (.ref i1) (.ref i2)) (g:de s.heap to a b) (r:S1 k s.heap) (j:S2 k s.heap) (l:k=n1\/(k<n1/\k=n2)) (q:∀h' tk,(∀c o,c∉[z,to,i1,i2]->s.heap.get? c=ab o->h'.get? c=ab o)->Q af { s with heap:=h',toks:=tk}):ax (aI prog w) A (fI (.ref z)) Q E s:=by
 have f:s.TypeIs (.ref z) "zip":=⟨_,d,rfl⟩;unfold fI;refine a_ (NJ (II (name:=cr "__next__") f gu
  (EH gu f sj (OO n h D d p g r j l λh' e tk m ⟨o,i,t⟩=>?_) (ra _))))
 refine a_ (Of (T:="StopIteration") (b:=ag) ⟨o,i,t⟩ t9 ?_);exact i_ (q _ _ m)
noncomputable abbrev Ae (t:ae):dP:={ cls:=.type "tuple_iterator",data:=.fields #[.ref t,.int 0 0]}
theorem Ut (c:A.handled=af) (it t:ae) (f:t≠it) (a:Array av) (k:Nat) (b:a[k]?=af):
  lj prog w A it [it,t] k (λ_ _=>True) (λi h=>i=k/\h.IsTupleIter it t i/\h.IsTuple t a) where
 live:=λ_ _ st=>let ⟨o,ho,_⟩:=st.2.1;⟨o,ho⟩
 frame:=λ_ _ _ st b=>⟨st.1,st.2.1.at λo e=>b it Ap o e,st.2.2.at λo e=>b t Ap o e⟩
 item:=λi s Q E g st j=>AL st.1 (H_ g)
 done:=λs Q E st d=>G4 c st.2.1 st.2.2 b d
section
variable {X:Cx}{pins:ξ (ae × dP)}{σ:L2.St}
theorem mO {ch:ξ ae} (I:Inv X pins σ H s) (k:∀b o,b∉ch->s.heap.get? b=ab o->h'.get? b=ab o) (f:∀b∈ch,m7 X pins H b):Inv X pins σ H { s with heap:=h',toks:=t'}:=by
 have d:∀b u,H b=ab u->b∉ch:=λb u e z=>by rw[(f b z).1] at e;cases e
 refine I.step (g':=s.gens) (d':=s.drawn) (ch:=ch) (λb j=>?_) (λb o _ _ a e _=>k b o a e) (λb o _ _ a e _=>⟨o.slots,k b o a e⟩) (λ_ _ _ _ n=>n)
  (λb o a e=>⟨o,k b o a e⟩) (λ_ _ e=>e) (λ_ _ _ e=>e) (λb ps e=>⟨#[],by rw[e];simp⟩) (λm p=>?_) (λb u e=>?_) I.bare
 .obtain⟨_,t,_,w,h,l⟩:=f b j;exact⟨w,t,h,l⟩
 .obtain⟨o,i,ep,g,r⟩:=p;exact⟨o,i,ep,k _ o (λz=>(f _ z).2.1 rfl) g,r⟩
 refine (I.hok b u e).stay (λc v a q=>k c v ?_ q) (λ_ q=>q) λ_ _ q=>q;rcases a with z | z
 .rw[z];exact d b u e
 exact d c _ z
end
theorem LI {x p q:ae}(a:x≠p) (b:x≠q):x∉[p,q]:=λh=>by
 rcases v_.mp h with e | e
 .exact a e
 exact b (j_.mp e)
theorem XE (d:a<c/\b<c) (h:c<e) (m:e<g) (l:g<f) (i:f<z):DH z g f c e [c,a] [e,b] :=
 have k:c<g:=CM h m
 have j:c<f:=CM k l
 have n:c<z:=CM j i
 have o:e<f:=CM m l
 have p:e<z:=CM o i
 have q:g<z:=CM l i
 ⟨⟨H_ q,H_ i,H_ l,H_ h⟩,A_,A_,
  ⟨LI (B9 n) (B9 (CM d.1 n)),LI (B9 k) (B9 (CM d.1 k)),LI (B9 j) (B9 (CM d.1 j)),LI (B9 h) (B9 (CM d.1 h))⟩,
  ⟨LI (B9 p) (B9 (CM d.2 n)),LI (B9 m) (B9 (CM d.2 k)),LI (B9 o) (B9 (CM d.2 j)),LI (H_ h) (B9 d.2)⟩⟩
noncomputable def fB:ξ T->ξ T->ξ T
 |x::xs,y::ys=>.tup [x,y]::fB xs ys
 |_,_=>[]
theorem vd:∀(xs a:ξ T) (i:Nat),(fB xs a)[i]?=(match xs[i]?,a[i]? with
  |some x,ab y=>ab (.tup [x,y])
  |_,_=>af)
 |[],a,i=>by simp [fB]
 |x::xs,[],i=>by
  simp only[fB,List.getElem?_nil]
  cases (x::xs)[i]? <;> rfl
 |x::xs,y::a,0=>by simp [fB]
 |x::xs,y::a,i+1=>by simp only[fB,Mb];exact vd xs a i
theorem vf:∀(xs a:ξ T),(fB xs a).length=min xs.length a.length
 |[],a=>by simp [fB]
 |x::xs,[]=>by simp [fB]
 |x::xs,y::a=>by simp [fB,vf xs a]
theorem yd:bi "zip"=ab (.type "zip"):=by decide +kernel
theorem lR {o:Type} (m l f:o->T) (e:ξ o) (AB:AV) (g:still H) (s:e.length<=am) (p:∀a∈e,∀Q:AC,Q (f a) H->te (ab (m a)::ab (l a)::AB) H Q) (j:i (e.map f) H):
  EG (Gb 2 (rN (iG 0) (rN (iG 1) Ga))) zV te still i (e.map λa=>.tup [m a,l a]) [] (v::u::AB) H:=by
 refine oG (λr n σ H'=>∃(d h:ξ o) (v u:ζ T),σ=v::u::AB/\r=d.map (λa=>.tup [m a,l a])/\n=h.map f/\h++d=e/\H'=H) ⟨e,[],v,u,rfl,rfl,rfl,rfl,rfl⟩ ?_ ?_
 .rintro n σ H' ⟨d,h,v,u,rfl,c,rfl,b,rfl⟩;have k:d=[]:=Pl.mp c.symm;subst k;rw[C9] at b;subst b;exact⟨g,by rw[g_];exact s,j⟩
 rintro x r n σ H' N ⟨d,h,v,u,rfl,c,rfl,b,rfl⟩ q;cases d with
 |nil=>cases c
 |cons t d =>
 injection c with a1 a2;subst a1 a2;refine⟨g,rfl,?_⟩;show te (ab (m t)::ab (l t)::AB) H' _;refine p t (by rw[<- b];simp) _ ⟨?_,q _ _ _ ⟨d,h++[t],_,_,rfl,rfl,Ap,by rw[<- b];simp,rfl⟩⟩;have:=U_ a7 b;simp only[d_,n_] at this;rw[g_];omega
theorem vg {K:a5} (h:∀ts H Q,¬sp ts H Q):iU P w K mg base k f c ps sp :=
 ⟨λvs H Q E ⟨ts,H3,Q3,_,_,q,_⟩=>AL q (h _ _ _),λA a s H b us vs Q E _ _ _ _ ⟨ts,H3,Q3,_,_,q,_⟩=>AL q (h _ _ _)⟩
theorem Uu (x:T):qN [x,.ty "str"] H Q=oq (BG "str" x H) λb=>Q (.bl b) H:=by rw[Aa];exact propext ⟨λh=>h.2,λh=>⟨Ap,h⟩⟩
theorem ye (x:aw):BG "str" (.str x) H=ab ag:=rfl
theorem yf (x:Int):BG "str" (.int x) H=ab ai:=rfl
theorem yg (x:ξ T):BG "str" (.tup x) H=ab ai:=rfl
theorem Df (x:Bool):BG "str" (.bl x) H=ab ai:=rfl
theorem yh  : BG "str" (.non) H=ab ai:=rfl
theorem Uv (x:T):qN [x,.ty "int"] H Q=oq (BG "int" x H) λb=>Q (.bl b) H:=by rw[Aa];exact propext ⟨λh=>h.2,λh=>⟨Ap,h⟩⟩
theorem yj (x:aw):BG "int" (.str x) H=ab ai:=rfl
theorem ym (x:Int):BG "int" (.int x) H=ab ag:=rfl
theorem yo (x:ξ T):BG "int" (.tup x) H=ab ai:=rfl
theorem Dg (x:Bool):BG "int" (.bl x) H=ab ag:=rfl
theorem yp  : BG "int" (.non) H=ab ai:=rfl
theorem Ml (x:T):qN [x,.ty "bool"] H Q=oq (BG "bool" x H) λb=>Q (.bl b) H:=by rw[Aa];exact propext ⟨λh=>h.2,λh=>⟨Ap,h⟩⟩
theorem vh (x:aw):BG "bool" (.str x) H=ab ai:=rfl
theorem vm (x:Int):BG "bool" (.int x) H=ab ai:=rfl
theorem vo (x:ξ T):BG "bool" (.tup x) H=ab ai:=rfl
theorem yq (x:Bool):BG "bool" (.bl x) H=ab ag:=rfl
theorem vp  : BG "bool" (.non) H=ab ai:=rfl
theorem G6 (x:T):qN [x,.ty "tuple"] H Q=oq (BG "tuple" x H) λb=>Q (.bl b) H:=by rw[Aa];exact propext ⟨λh=>h.2,λh=>⟨Ap,h⟩⟩
theorem sr (x:aw):BG "tuple" (.str x) H=ab ai:=rfl
theorem su (x:Int):BG "tuple" (.int x) H=ab ai:=rfl
theorem sy (x:ξ T):BG "tuple" (.tup x) H=ab ag:=rfl
theorem vz (x:Bool):BG "tuple" (.bl x) H=ab ai:=rfl
theorem sE  : BG "tuple" (.non) H=ab ai:=rfl
theorem vA (x:aw):BG "list" (.str x) H=ab ai:=rfl
theorem vB (x:Int):BG "list" (.int x) H=ab ai:=rfl
theorem vC (x:ξ T):BG "list" (.tup x) H=ab ai:=rfl
theorem yr (x:Bool):BG "list" (.bl x) H=ab ai:=rfl
theorem vD  : BG "list" (.non) H=ab ai:=rfl
open L2 PySem.Builtin PySem.Builtin.Str
def TR (x:T) (H:lq) (Q:AC):Prop:=match x with
 |.int i=>Q (.int (-i)) H
 |_=>False
def Qs (a:AF):AF:=λσ H Q=>a σ H λx b=>TR x b Q
theorem YC (a:AF) {σ:AV}{H:lq}{Q:AC}:Qs a σ H Q=a σ H λx b=>TR x b Q:=rfl
theorem YD (i:Int) {H:lq}{Q:AC}:TR (.int i) H Q=Q (.int (-i)) H:=rfl
theorem yt (j:AA X a ta):AA X (.UnaryOp .USub a u?) (Qs ta):=by
 refine PE.imp (W5 SX j) ?_;rintro σ H Q ⟨b,H3,Q3,f,e,h,k⟩;refine⟨b,H3,_,f,e,h,λv H' t g d c r q=>?_⟩;cases t with
 |int i=>exact⟨i,r.int,k _ _ _ _ d c .ofInt q⟩
 |_=>exact q.elim
def GC (K:a5) (mg:aw->ζ av) (x:aw) (t:T):Prop:=∃u v,mg x=ab u/\z4 v u/\∀H,At K H t v
structure Cs (K:a5) (mg:aw->Option av):Prop where
 MOST_LETTERS:GC K mg "MOST_LETTERS" (.int 8)
 MOST_FIGURES:GC K mg "MOST_FIGURES" (.int 60)
 MOST_TASKS:GC K mg "MOST_TASKS" (.int 8)
 MOST_KINDS:GC K mg "MOST_KINDS" (.int 4)
 MOST_ORDERS:GC K mg "MOST_ORDERS" (.int 28)
 MOST_PAIRS:GC K mg "MOST_PAIRS" (.int 12)
 MOST_STANDS:GC K mg "MOST_STANDS" (.int 8)
 LETTERS:GC K mg "LETTERS" (.str "abcdefghijklmnopqrstuvwxyz")
 FIGURES:GC K mg "FIGURES" (.str "0123456789")
 PAIR_WORDS:GC K mg "PAIR_WORDS" (.tup [.str "with",.str "apart"])
theorem oH:dU X (ca .LShift) (MH Kp λi j=>.int (i*2^j.toNat)):=Gi SN λ_ _ _=>.ofInt
def SL (o:ζ O3) (H:lq) (Q:AC):Prop:=match o with
 |some (.lst xs)=>oq (cF xs) λa=>Q (.bl (a.any id)) H
 |some (.rol xs)=>oq (cF xs) λa=>Q (.bl (a.any id)) H
 |_=>False
def Qt:ξ T->lq->AC->Prop:=λts H Q=>match ts with
 |[.ref a]=>SL (H a) H Q
 |_=>False
theorem YF (a:ae):Qt [.ref a] H Q=SL (H a) H Q:=rfl
theorem YG (xs:ξ T):SL (ab (.lst xs)) H Q=oq (cF xs) λa=>Q (.bl (a.any id)) H:=rfl
theorem FV (c:ξ Bool):(ay c.length).any (λi=>c.getD i ag)=c.any id:=by
 rw[CC,LM,LM];constructor
 .rintro⟨i,d,h⟩;have a:=Y_.mp d;refine⟨c[i],FI a,?_⟩;simpa [kx,a] using h
 rintro⟨b,e,h⟩;obtain⟨i,d,rfl⟩:=SE.mp e;refine⟨i,Y_.mpr d,?_⟩;simpa [kx,d] using h
theorem Uw (M:X.calm=ag):dB X (.builtin "any") Qt:=by
 intro pins s σ H xs us Q I L h;obtain⟨ts,H3,Q3,r,B,h,k⟩:=h
 match ts,h,r with
 |[.ref a],h,r =>
 obtain⟨v,rfl,y⟩:=r.one';obtain⟨u,rfl,E⟩:=AU L;rw[y.ref] at E;cases E;have f:∀{g:ξ T} {m:ξ V},BN X.K H a m->nP X.K H g m->oq (cF g) (λd=>Q3 (.bl (d.any id)) H3)->ax (aI X.prog X.w) X.A (fT (.builtin "any") [.ref a]) (EP X pins σ Q) X.xe s:=by
  intro g m p l q;cases e:cF g with
  |none=>rw[e] at q;exact q.elim
  |some d =>
  rw[e] at q;obtain⟨O,t,D,_⟩:=I.list p;have G:=iW e l t;subst G;have x:a≠s.heap.objs.size:=λz=>by obtain⟨o,n,j,_⟩:=D;have:=y_ j;rw[z] at this;exact CU _ this
  refine call_any_walk (NG D.isList ?_);refine⟨s.heap.objs.size,_,_,_,_,_,λi=>d.getD i ag,rfl,Walks.list (A:=X.A.in1) (I.ok.hd M) s.heap.objs.size a x (d.map dA).toArray,⟨⟨_,l_ _ rfl,rfl,rfl⟩,D.isList.push _⟩,λi v s' P R F hq=>?_,λh' tk N=>?_⟩
  .have c:(d.map dA)[i]?=ab v:=by simpa using F
   rw[C_] at c;cases C:d[i]? with
   |none=>rw[C] at c;cases c
   |some b =>
   rw[C] at c;cases c;have:d.getD i ag=b:=by simp [kx,C]
   dsimp only at hq;rw[this] at hq;exact GO hq
  have J:(d.map dA).toArray.size=d.length:=Ap
  rw[J,FV];refine⟨.bl (d.any id),H,I.kept λb o e=>N b o (λz=>?_) (b_ _ e),rfl,k _ _ _ _ .refl B .ofBl q⟩;have:=y_ e;rw[j_.mp z] at this;exact CU _ this
 have h':SL (H3 a) H3 Q3:=h;cases j:H3 a with
 |none=>rw[j] at h';exact h'.elim
 |some o =>
 rw[j] at h';cases o with
 |lst g=>obtain⟨m,p,l⟩:=B.sqL (.inl j);exact f p l h'
 |rol g=>obtain⟨m,p,l⟩:=B.sqL (.inr j);exact f p l h'
 |_=>exact h'.elim
def G7:ξ T->lq->AC->Prop:=λts H Q=>match ts with
 |[.int i,.int j]=>Q (.int (if j>i then j else i)) H
 |_=>False
def G8:ξ T->lq->AC->Prop:=λts H Q=>match ts with
 |[.int i,.int j]=>Q (.int (if j<i then j else i)) H
 |_=>False
theorem Ux (i j:Int):G7 [.int i,.int j] H Q=Q (.int (if j>i then j else i)) H:=rfl
theorem Uy (i j:Int):G8 [.int i,.int j] H Q=Q (.int (if j<i then j else i)) H:=rfl
theorem Mm (g:X.calm=ag):dB X (.builtin "max") G7:=by
 intro pins s σ H xs us Q I f h;obtain⟨ts,H3,Q3,r,e,h,k⟩:=h
 match ts,h,r with
 |[.int i,.int j],h,r =>
 obtain⟨v,m,rfl,l,c⟩:=r.two';obtain⟨q,o,rfl,a,b⟩:=G0 f;rw[l.int] at a;rw[c.int] at b;obtain⟨p,rfl⟩:=a;obtain⟨n,rfl⟩:=b;refine max_two_ints (I.ok.hd g) λh' tk d=>?_;refine⟨.int (if j>i then j else i),H,I.kept d,?_,k _ _ _ _ .refl e .ofInt h⟩;by_cases z:j>i
 .rw[z3 z,z3 z];exact⟨_,rfl⟩
 rw[zD z,zD z];exact⟨_,rfl⟩
theorem Mp (g:X.calm=ag):dB X (.builtin "min") G8:=by
 intro pins s σ H xs us Q I f h;obtain⟨ts,H3,Q3,r,e,h,k⟩:=h
 match ts,h,r with
 |[.int i,.int j],h,r =>
 obtain⟨v,m,rfl,l,c⟩:=r.two';obtain⟨q,o,rfl,a,b⟩:=G0 f;rw[l.int] at a;rw[c.int] at b;obtain⟨p,rfl⟩:=a;obtain⟨n,rfl⟩:=b;refine min_two_ints (I.ok.hd g) λh' tk d=>?_;refine⟨.int (if j<i then j else i),H,I.kept d,?_,k _ _ _ _ .refl e .ofInt h⟩;by_cases z:j<i
 .rw[z3 z,z3 z];exact⟨_,rfl⟩
 rw[zD z,zD z];exact⟨_,rfl⟩
theorem fC:dU X (ca .BitAnd) (rP λi j=>.int (a8 i j)):=n6 SQ λ_ _ _=>.ofInt
theorem Af:dU X (ca .BitOr) (rP λi j=>.int (cE i j)):=n6 W6 λ_ _ _=>.ofInt
theorem oJ:bi "max"=ab (.builtin "max"):=by decide +kernel
theorem Uz:bi "min"=ab (.builtin "min"):=by decide +kernel
theorem aX {N P:ξ aw}{h:Scope}(a:h.kind=.function:=by rfl) (b:h.isCoroutine=ai:=by rfl) (c:h.isGenerator=ai:=by rfl) (d:N.Nodup:=by decide +kernel) (e:N.take P.length=P:=by rfl)
 (f:∀x∈P,h.names.lookup x=ab .local\/h.names.lookup x=ab .cell:=by decide +kernel) (g:∀y∈h.names,y.2≠.free:=by decide +kernel):gV N P h:=⟨a,b,c,d,e,f,g⟩
theorem vG {p:Prop} [Decidable p] (h:¬p):¬(decide p=ag) := λe=>h (MU e)
theorem IH (h:H a=ab u) (hq:H q=af):fY H q o a=ab u := by rw[aF (bB h hq)];exact h
structure R7 (P:bb) (w:bg) (K:a5) (mg:aw->Option av) (base:cn) (k:Nat) (x:aw) (st:ez) (ps:List aw) (sp:AM):Prop where
 ex:∃(f:ae) (fd:d4),G3 K mg x st ps f fd/\iU P w K mg base k f fd ps sp
theorem UG {st:ez}{p a:gE} (D:R7 X.prog X.w X.K X.mg X.base k x st ps sp) (l:xr k X.A) (j:Gl X x) (n:DL X (e::c) t) (h:(x==("__debug__":aw))=ai:=by decide) (i:aE (e::c) X.env=(ai,bt e X.env)::aE c X.env:=by rfl) (d:(cf a (aE c X.env)).any (·.1)=ai:=by rfl):
  AA X (.Call (.Name x p) (e::c) [] a) (nY sp t):=by
 obtain⟨f,o,g,F⟩:=D.ex;exact Ln F l j g.m g.fn.kp g.b n h i d
theorem aM {st:ez}{p a:gE} (D:R7 X.prog X.w X.K X.mg X.base k x st ps sp) (i:xr j X.A) (g:Gl X x) (l:DL X (e::b) t) (h:k<=j:=by decide) (d:(x==("__debug__":aw))=ai:=by decide) (f:aE (e::b) X.env=(ai,bt e X.env)::aE b X.env:=by rfl) (c:(cf a (aE b X.env)).any (·.1)=ai:=by rfl):AA X (.Call (.Name x p) (e::b) [] a) (nY sp t):=UG D (i.mono h) g l d f c
def T1 (o:ζ O3) (k:Int) (H:lq) (Q:AC):Prop:=match o with
 |some (.lst xs)=>(-(2^63)<=k/\k<2^63/\xs.length*k.toNat<=am)/\∀p,H p=af->Q (.ref p) (fY H p (.lst (a3 k.toNat xs).flatten))
 |_=>False
def Qu:R3:=λx y H Q=>match x,y with
 |.ref a,.int k=>T1 (H a) k H Q
 |_,_=>False
theorem Qv (a:ae) (k:Int) (H:lq) (Q:AC):Qu (.ref a) (.int k) H Q=T1 (H a) k H Q:=rfl
theorem Qw (xs:ξ T) (k:Int) (H:lq) (Q:AC):T1 (ab (.lst xs)) k H Q=((-(2^63)<=k/\k<2^63/\xs.length*k.toNat<=am)/\∀p,H p=af->Q (.ref p) (fY H p (.lst (a3 k.toNat xs).flatten))):=rfl
noncomputable def nP.rep {K:a5} (r:nP K H ts vs):∀k:Nat,nP K H (a3 k ts).flatten (a3 k vs).flatten
 |0=>.nil
 |k+1=>by rw[HV,HV,LB,LB];exact r.append (nP.rep r k)
theorem G9:dU X (ca .Mult) Qu:=by
 refine AX.imp Tj ?_;rintro x y H Q ⟨j,g,H3,Q3,r,q,b,h,k⟩;cases j with
 |ref a =>
  cases g with
  |int n =>
   rw[Qv] at h;cases e:H3 a with
   |none=>rw[e] at h;exact h.elim
   |some o =>
   rw[e] at h;cases o with
   |lst xs=>rw[Qw] at h;obtain⟨vs,l,d⟩:=b a _ e;obtain⟨⟨m,i,f⟩,h'⟩:=h;refine⟨a,n,vs,r.ref,q.int,l,m,i,by rw[<- d.length];exact f,λp c=>?_⟩;exact k _ _ _ _ (aO c) (b.newLst c (d.rep n.toNat)) .ofRef (h' p (b.fresh c))
   |_=>exact h.elim
  |_=>exact h.elim
 |_=>exact h.elim
theorem M!:Slot "list_reverseiterator" "__length_hint__" "list_reverseiterator.__length_hint__":=.of (owner:="list_reverseiterator") (n:="__length_hint__") (by rw[lb,fe];kernel_rfl) AQ AQ AQ
 (by first | exact .inr AQ | exact .inl AQ) (by rw[t5];kernel_rfl)
theorem Ha:ow (.type "list_reverseiterator") "__len__"=ce af:=by rw[lb,fe];kernel_rfl
theorem UJ:isSubtype (.type "list_reverseiterator") (.type "list_reverseiterator")=ce ag:=by rw[t5];kernel_rfl
theorem Hf {a b:Array av}(h:tw (λi v=>a[a.size - 1 - i]?=ab v) b a.size):b=a.reverse:=by
 refine Array.ext (by rw[h.1];simp) λj c d=>?_;have q:a[a.size - 1 - j]?=ab b[j]:=h.2 j b[j] (IE c);have e:j<a.size:=by rw[<- h.1];exact c
 rw[IE zo] at q;rw[Array.getElem_reverse];exact (O_ q).symm
theorem Dh (y:A.handled=af) (x:l≠I) (hsz:c.size<=am) (o:S∉[I,l]) (j:s.heap.IsRevIter I l ((c.size:Int) - 1)) (H:s.heap.IsList l c) (E:s.heap.get? S=ab { cls:=.type "list",data:=.seq #[] p}) (z:∀s' d k,Moved (S::[I]) (λa b=>b=a) s s'->s'.heap.get? S=ab { cls:=.type "list",dict:=af,data:=.seq d k,slots:=#[]}->tw (λi v=>c[c.size - 1 - i]?=ab v) d c.size->R (.ok (.ret m)) s'):
  ax (aI prog w) A.in1 (ci (.ref S) (.ref I) m)
   (λt s'=>match t with | .done f=>R (.ok f) s' | .again k=>k.quiet=ag/\eJ (aI prog w) A k R s') (λe s'=>R (.error e) s') s:=by
 have W:=(Walks.listRev (prog:=prog) (w:=w) (A:=A.in1) y I l x c).toS;have r:S≠I:=λe=>o (e▸A_);have st:(λ(i:Nat) (s:aT)=>i<=c.size/\s.heap.IsRevIter I l ((c.size:Int) - 1 - (i:Int))/\s.heap.IsList l c) 0 s:=⟨B8 _,by simpa using j,H⟩;have g:s.TypeIs (.ref I) "list_reverseiterator":=j.typeIs;unfold ci;refine a_ (LW g ?_);have B:kg (.ref S) (.ref I)=ai:=by simp [kg,r]
 have C:(eM "list_reverseiterator"==eM "list")=ai:=by decide
 have G:(eM "list_reverseiterator"==eM "tuple")=ai:=by decide
 simp only[B,C,G,og,u_,W_];refine a_ (fm j ?_);refine a_ (DU ?_);unfold Builtin.List.listLengthHint;refine a_ (LS g Ha ?_);show ax _ A.in1 (specialOf (aS I) (cr "__length_hint__") >>= _) _ _ _;refine a_ (LS g M!.lookup ?_);generalize h:("list_reverseiterator.__length_hint__":String)=n
 (fail_if_success (clear h n))
 wp_delta
 rw[show splitId n=ab ("list_reverseiterator","__length_hint__") from by subst h;decide +kernel];subst h;refine a_ (Of (b:=ag) g UJ ?_);rw[zD (show ¬(!ag)=ag from M_)];dsimp only;rw[z3 AQ];rw[zD (show ¬((j3 "list_reverseiterator.__length_hint__"==j3 "range_iterator.__length_hint__")=ag) from zC)];refine i_ ?_;try rw[zD M_]
 refine i_ ⟨nX F.plain_extend_loop _,?_⟩;exact codeAny_extend_loopS W hsz _ o _ c.size 0 _ _ _ rfl (B8 _) st E (ItemsOf.nil _) λs' d k D u q=>z s' d k D u q
theorem Mq (B:A.handled=af) (y:l≠I) (hsz:d.size<=am) (k:S∉[I,l]) (x:s.heap.IsRevIter I l ((d.size:Int) - 1)) (K:s.heap.IsList l d) (z:s.heap.get? S=ab { cls:=.type "list",data:=.seq #[]}) (C:∀s' g n,Moved (S::[I]) (λa b=>b=a) s s'->s'.heap.get? S=ab { cls:=.type "list",dict:=af,data:=.seq g n,slots:=#[]}->tw (λi v=>d[d.size - 1 - i]?=ab v) g d.size->R (.ok (.ret .none)) s'):
  ax (aI prog w) A.in1 (dt.«list.__init__» ⟨[.ref S,.ref I],[]⟩)
   (λr s'=>match r with | .done f=>R (.ok f) s' | .again n=>n.quiet=ag/\eJ (aI prog w) A n R s') (λe s'=>R (.error e) s') s:=by
 show ax _ A.in1 (do let u <- kX (.ref S);eT (.ref S) (λ_=>#[]);letGo u.toList.reverse;ci (.ref S) (.ref I) .none) _ _ s;refine a_ ?_;unfold kX;refine a_ (Gc z rfl (i_ ?_));show ax _ A.in1 (updateSeq S (λ_=>#[]) >>= λ_=>letGo (#[]:Array av).toList.reverse >>= λ_=>ci (.ref S) (.ref I) .none) _ _ s;refine a_ (wpAny_updateSeq z rfl ?_);have m:=P6 (a9 (λ_=>(#[]:Array av))) z rfl;have j:∀b o,b≠S->s.heap.get? b=ab o->(s.heap.update S (a9 (λ_=>(#[]:Array av)))).get? b=ab o :=
  λb o q e=>(P3 _ _ (a6 q)).trans e
 refine a_ (i3 ?_);have E:I≠S:=λe=>k (by simp [e]);have F:l≠S:=λe=>k (by simp [e]);refine Dh B y hsz k (x.at λo e=>j _ o E e) (K.at λo e=>j _ o F e) m λs' g n J t p=>?_;exact C s' g n (Moved.trans (G:=λa b=>b=a) (λa b c D H=>H.trans D) ((Moved.refl (G:=λa b=>b=a) λ_=>rfl).then_heap (o_ _) λb o q e=>j b o (λh=>q (h▸A_)) e) J) t p
theorem p7 (z:A.handled=af) (r:l≠I) (hsz:c.size<=am) (i:s.heap.IsRevIter I l ((c.size:Int) - 1)) (x:s.heap.IsList l c) (y:∀s' q,Moved (s.heap.objs.size::[I]) (λa b=>b=a) { s with heap:=s.heap.push { cls:=.type "list",data:=.seq #[]}} s' ->
   s'.heap.get? s.heap.objs.size=ab { cls:=.type "list",dict:=af,data:=.seq c.reverse q,slots:=#[]}->Q (.ref s.heap.objs.size) s'):
  ax (aI prog w) A (fT (.type "list") [.ref I]) Q E s:=by
 have g:I<s.heap.objs.size:=by obtain⟨o,m,_⟩:=i;exact y_ m
 have h:l<s.heap.objs.size:=by obtain⟨o,m,_⟩:=x;exact y_ m
 have n:s.heap.objs.size∉[I,l]:=λt=>by
  rcases v_.mp t with e | e
  .rw[<- e] at g;exact CU _ g
  rw[<- j_.mp e] at h;exact CU _ h
 refine vT (Q₁:=λj d=>j=.ref s.heap.objs.size/\d={ s with heap:=s.heap.push { cls:=.type "list",data:=.seq #[]}}) F.called_list (F.typeCall_list_1 _) F.entry_list_init
  (code_list_new _ ⟨rfl,rfl⟩) λj d f=>?_
 obtain⟨rfl,rfl⟩:=f;have v:(s.heap.push { cls:=.type "list",data:=.seq #[]}).get? s.heap.objs.size=ab { cls:=.type "list",data:=.seq #[]}:=l_ _ rfl;refine⟨⟨_,v,rfl⟩,F.args_list_init_2 _ _,Mq (A:=A.in1) z r hsz n (i.at λo e=>b_ _ e) (x.at λo e=>b_ _ e) v λs' u q t p k=>?_⟩;refine⟨rfl,y s' q t ?_⟩;rw[<- Hf k];exact p
noncomputable def Ts (K:a5) (a:ae) (n:Nat):It :=
 ⟨λi H=>∃xs x,BN K H a xs/\xs.length=n/\i<n/\xs[n - 1 - i]?=ab x,λi H x H'=>H'=H/\∀xs,BN K H a xs->xs[n - 1 - i]?=ab x,λi _=>n<=i⟩
theorem Hg {K:a5} (a it:ae) (n:Nat):D7 P w K Q (Ts K a n) [it] it (λi h=>i<=n/\h.IsRevIter it a ((n:Int) - 1 - (i:Int))) where
 mem:=by simp
 obj:=λi h st b f=>by
  have e:b=it:=by simpa using f
  subst e
  obtain⟨_,o,e,c,d⟩:=st
  exact⟨o,e,λv z=>by rw[d] at z;cases z⟩
 keep:=λi h h' st k=>⟨st.1,st.2.at λo e=>k it Ap o e⟩
 item:=by
  intro X A q B F i pins s σ H E I j st l
  subst A q B
  obtain⟨xs,x,hq,hn,M,D⟩:=l
  obtain⟨W,U,p,hz⟩:=I.list hq
  obtain⟨u,O,V⟩:=U.get D
  obtain⟨y,C,R,t,m,r⟩:=j it Ap
  have e:(n:Int) - 1 - (i:Int)=((n - 1 - i:Nat):Int):=zo
  obtain⟨_,st⟩:=st
  rw[e] at st
  refine wpAny_pyNext_rev_item st p.isList (x:=u) (by simpa using O) λh' g Y=>?_
  have T:Inv X pins σ H { s with heap:=h'}:=I.turned (t':=s.toks) (λb o f e=>(Y.2 b f).trans e) y C t m r
  obtain⟨o,S,c,d⟩:=id g
  have G:((n - 1 - i:Nat):Int) - 1=(n:Int) - 1 - ((i+1:Nat):Int):=zo
  rw[G] at g
  exact⟨u,rfl,zJ (s:={ s with heap:=h'}) S c d zC ⟨x,H,T,V,⟨rfl,λys L=>by rw[I.list_inj L hq];exact D⟩,⟨M,g⟩,λb f=>(j b f).1⟩⟩
 done:=by
  intro X A q B F i pins s σ H E I j st l
  subst A q B
  obtain⟨y,C,R,t,m,r⟩:=j it Ap
  obtain⟨N,st⟩:=st
  have J:n<=i:=l
  have e:(n:Int) - 1 - (i:Int) = -1:=zo
  rw[e] at st
  exact wpAny_pyNext_rev_end (I.ok.hd F) st λh' Z=>⟨rfl,I.turned (t':=s.toks) (λb o f e=>Z b o f e) y C t m r⟩
 self:=λ_ _ _ _ _ st h=>fm st.2 h
theorem lU:bi "reversed"=ab (.type "reversed"):=by decide +kernel
section
variable {X:Cx}{tg e:Expr}{p p1 p2 u? x?:gE}
def E! (K:a5) (te:TE):TI:=λσ H R=>te σ H λx b=>∃a xs,x=.ref a/\BN K b a xs/\R (Ts K a xs.length) b
theorem UL (m:Gl X "reversed") (t:X.mg "reversed"=af) (l:PE X e te) (j:aE [e] X.env=(ai,bt e X.env)::aE [] X.env:=by rfl) (g:(cf u? (aE [] X.env)).any (·.1)=ai:=by rfl):
  PI X tg (.Call (.Name "reversed" p) [e] [] u?) (E! X.K te):=by
 intro pins s σ H R I h;refine Ll (gY I m t lU ?_ zC zC);refine MI ?_ j g;rw[j];show ax _ _ (tj ((ai,bt e X.env)::cf u? (aE [] X.env))) _ _ s;refine NE (AE (l pins s σ H _ I h) λu c ⟨x,z,f,A,a,xs,n,hq,q⟩=>?_);subst n;cases A;refine OY ?_;obtain⟨i,w,y,B⟩:=f.list hq;have d:=w.length;refine oI y.isList ?_;have v:((i.toArray.size:Nat):Int) - 1=(xs.length:Int) - 1:=by simp [d]
 rw[v];have k:(c.heap.push (y6 a ((xs.length:Int) - 1))).IsRevIter c.heap.objs.size a ((xs.length:Int) - 1):=⟨_,l_ _ rfl,rfl,rfl⟩;refine fm k ?_;refine⟨c.heap.objs.size,[c.heap.objs.size],_,_,z,rfl,f.kept (t':=c.toks) λb o e=>b_ _ e,Hg a c.heap.objs.size xs.length,⟨B8 _,by simpa using k⟩,λb r=>?_,q⟩;have e:b=c.heap.objs.size:=by simpa using r
 subst e;exact f.fpOk (o_ _) (f.hok.fresh (o_ _))
def P9 (o:ζ O3) (a:ae) (H:lq) (R:ξ T->(lq->Prop)->lq->Prop):Prop:=match o with
 |some (.lst ts)=>R ts.reverse (bK a ts) H
 |_=>False
def Qx (te:AF):Fn:=λσ H R=>te σ H λx b=>match x with
 |.ref a=>P9 (b a) a b R
 |_=>False
theorem Hh {K:a5}{xs:ξ V} (j:xs.length=ts.length):lO K (Ts K a xs.length) ts.reverse (bK a ts) H:=λH' k p h st=>by
 obtain⟨f,d,b⟩:=h.sqL st;have m:=b.length;rw[j];refine⟨λi c=>by rw[IG] at c;exact c,λi t e=>?_⟩;have c:i<ts.length:=by have:=(IR.mp e).1;rw[IG] at this;exact this
 rw[lI c] at e;obtain⟨v,g,l⟩:=b.get e;refine⟨⟨f,v,d,m.symm,c,g⟩,λx n y=>?_⟩;obtain⟨o,y⟩:=y;subst o;have:=y f d;rw[g] at this;cases this;exact⟨.refl,h,l⟩
theorem UT (l:Gl X "reversed") (x:X.mg "reversed"=af) (i:AA X e te) (w:aE [e] X.env=(ai,bt e X.env)::aE [] X.env:=by rfl) (f:(cf u? (aE [] X.env)).any (·.1)=ai:=by rfl):
  FH X tg (.Call (.Name "reversed" p) [e] [] u?) (Qx te):=by
 refine PI.imp (UL l x i w f) ?_;rintro σ H R ⟨g,H3,R3,u,n,h,k⟩;refine⟨g,H3,_,u,n,h,λv H' t b m c r q=>?_⟩;cases t with
 |ref a =>
  have d:P9 (b a) a b R3:=q
  cases e:b a with
  |none=>rw[e] at d;exact d.elim
  |some o =>
   rw[e] at d
   cases o with
   |lst ts =>
    obtain⟨xs,j,s⟩:=c.sqL (.inl e)
    exact⟨a,xs,r.ref,j,k _ _ (bK a ts) H' b m c (Hh s.length.symm) d⟩
   |_=>exact d.elim
 |_=>exact q.elim
def UV (te:AF) {σ:AV}{H:lq}{R:ξ T->(lq->Prop)->lq->Prop}:Qx te σ H R=te σ H λx b=>match x with
 |.ref a=>P9 (b a) a b R
 |_=>False:=rfl
theorem YH (ts:ξ T) (a:ae) (H:lq) (R:ξ T->(lq->Prop)->lq->Prop):P9 (ab (.lst ts)) a H R=R ts.reverse (bK a ts) H:=rfl
def UW (te:TE):TE:=λσ H Q=>te σ H λx a=>∃p b,x=.ref p/\BN X.K a p b/\∀l,a l=af->Q (.ref l) (As a l (.lst b.reverse))
theorem Hi (M:X.calm=ag) (r:Gl X "list") (l:X.mg "list"=af) (k:Gl X "reversed") (j:X.mg "reversed"=af) (D:PE X e te) (y:aE [e] X.env=(ai,bt e X.env)::aE [] X.env:=by rfl) (c:(cf u? (aE [] X.env)).any (·.1)=ai:=by rfl) (f:(cf x? (aE [] X.env)).any (·.1)=ai:=by rfl):
  PE X (.Call (.Name "list" p1) [.Call (.Name "reversed" p2) [e] [] x?] [] u?) (UW (X:=X) te):=by
 intro pins s σ H Q I h;refine Ll (gY I r l mL ?_ zC zC);refine MI ?_ rfl c;show ax _ _ (tj ((ai,bt (.Call (.Name "reversed" p2) [e] [] x?) X.env)::cf u? (aE [] X.env))) _ _ s;refine NE ?_;refine Ll (gY I k j lU ?_ zC zC);refine MI ?_ y f;rw[y];show ax _ _ (tj ((ai,bt e X.env)::cf x? (aE [] X.env))) _ _ s;refine NE (AE (D pins s σ H _ I h) λu s1 ⟨x,K,i,N,p,G,C,O,q⟩=>?_);subst C;cases N;obtain⟨a,w,t,P⟩:=i.list O;have v:=w.length;have hsz:a.toArray.size<=am:=by simp only[m_];omega
 refine OY ?_;refine oI t.isList ?_;refine OY ?_;have c:p<s1.heap.objs.size:=by obtain⟨o,R,_⟩:=t.isList;exact y_ R
 have m:(s1.heap.push (y6 p ((a.toArray.size:Int) - 1))).IsRevIter s1.heap.objs.size p ((a.toArray.size:Int) - 1):=⟨_,l_ _ rfl,rfl,rfl⟩;refine p7 (s:={ s1 with heap:=s1.heap.push (y6 p ((a.toArray.size:Int) - 1))}) (i.ok.hd M) (H_ c) hsz m (t.isList.at λo e=>b_ _ e) λs' L g A=>?_;generalize n:(s1.heap.push (y6 p ((a.toArray.size:Int) - 1))).objs.size=z at g A;have d:s1.heap.objs.size<z:=by rw[<- n];simp [Heap.push]
 have J:∀b u,s1.heap.get? b=ab u->s'.heap.get? b=ab u:=λb u B=>g.heap b u (λF=>by
  have:=y_ B
  rcases v_.mp F with e | e
  ·
   rw[e] at this;exact AL (CM this d) (CU _)
  ·
   rw[j_.mp e] at this;exact CU _ this) (b_ _ (b_ _ B))
 have S:s'={ s1 with heap:=s'.heap,toks:=s'.toks}:=by
  obtain⟨Y,V,T,W,U⟩:=s';have:=g.gens;have:=g.drawn;have:=g.os
  simp_all
 have E:Inv X pins σ (As K z (.lst G.reverse)) { s1 with heap:=s'.heap,toks:=s'.toks} :=
  i.laid (t':=s'.toks) J (D0 d) ⟨by rw[IG];exact P,a.reverse,L,w.reverse,by simpa using A⟩
 rw[S];exact⟨.ref z,_,E,rfl,q _ (i.hok.fresh (D0 d))⟩
def SF (o:ζ O3) (H:lq) (Q:AC):Prop:=match o with
 |some (.lst xs)=>∀p,H p=af->Q (.ref p) (fY H p (.lst xs.reverse))
 |_=>False
def Ag (te:AF):AF:=λσ H Q=>te σ H λx b=>match x with
 |.ref a=>SF (b a) b Q
 |_=>False
theorem Hj (z:X.calm=ag) (p:Gl X "list") (n:X.mg "list"=af) (i:Gl X "reversed") (g:X.mg "reversed"=af) (x:AA X e te) (A:aE [e] X.env=(ai,bt e X.env)::aE [] X.env:=by rfl) (j:(cf u? (aE [] X.env)).any (·.1)=ai:=by rfl) (d:(cf x? (aE [] X.env)).any (·.1)=ai:=by rfl):
  AA X (.Call (.Name "list" p1) [.Call (.Name "reversed" p2) [e] [] x?] [] u?) (Ag te):=by
 refine PE.imp (Hi z p n i g x A j d) ?_;rintro σ H Q ⟨m,H3,Q3,w,y,h,k⟩;refine⟨m,H3,_,w,y,h,λv H' t c C b r q=>?_⟩;cases t with
 |ref a =>
  have f:SF (c a) c Q3:=q
  cases e:c a with
  |none=>rw[e] at f;exact f.elim
  |some o =>
   rw[e] at f
   cases o with
   |lst ts =>
    obtain⟨xs,B,u⟩:=b.sqL (.inl e)
    exact⟨a,xs,r.ref,B,λl s=>k _ _ _ _ (C.trans (aO s)) (b.newLst s u.reverse) .ofRef (f l (b.fresh s))⟩
   |_=>exact f.elim
 |_=>exact q.elim
def Mr (te:AF) {σ:AV}{H:lq}{Q:AC}:Ag te σ H Q=te σ H λx b=>match x with
 |.ref a=>SF (b a) b Q
 |_=>False:=rfl
theorem YJ (xs:ξ T) (H:lq) (Q:AC):SF (ab (.lst xs)) H Q=∀p,H p=af->Q (.ref p) (fY H p (.lst xs.reverse)):=rfl
variable {w? v?:gE}{Ty id:String}
def Hk (c:String) (m:T->ξ T->lq->AC->Prop) (b:AF):AF:=λσ H Q=>b σ H λx a=>Pe c x a/\m x [] a Q
theorem yu (p:o0 Ty) (d:Slot Ty name id) (g:y3 (.builtin id)=ce (.type "method_descriptor")) (t:xW X id m) (n:AA X o to)
  (a:da o name X.env (bt o X.env)=bt o X.env:=by rfl) (b:(w?.endLine==v?.line)=ag:=by rfl) :
  AA X (.Call (.Attribute o name w?) [] [] v?) (Hk Ty m to):=by
 refine PE.imp (Th p d g t n a b) ?_;rintro σ H Q ⟨f,H3,Q3,s,r,h,k⟩;exact⟨f,H3,_,s,r,h,λx u q e i c l j=>⟨Qi c l j.1,q,[],e,Q3,l,.nil,c,j.2,k.at i⟩⟩
def SS (o:ζ O3) (H:lq) (Q:AC):Prop:=match o with
 |some (.lst xs)=>oq (AJ xs) λns=>ns≠[]/\∀M,M∈ns->(∀a∈ns,a<=M)->Q (.int M) H
 |_=>False
def Hl:ξ T->lq->AC->Prop:=λts H Q=>match ts with
 |[.ref a]=>SS (H a) H Q
 |_=>False
theorem Hm (a:ae) (H:lq) (Q:AC):Hl [.ref a] H Q=SS (H a) H Q:=rfl
theorem Qy (xs:ξ T) (H:lq) (Q:AC):SS (ab (.lst xs)) H Q=oq (AJ xs) λns=>ns≠[]/\∀M,M∈ns->(∀a∈ns,a<=M)->Q (.int M) H:=rfl
theorem mQ (E:X.calm=ag):dB X (.builtin "max") Hl:=by
 intro pins s σ H xs us Q I D h;obtain⟨ts,H3,Q3,r,x,h,k⟩:=h;cases ts with
 |nil=>exact h.elim
 |cons t ts =>
 cases ts with
 |cons _ _=>cases t <;> exact h.elim
 |nil =>
 cases t with
 |ref a =>
  rw[Hm] at h;obtain⟨v,rfl,i⟩:=r.one';obtain⟨u,rfl,y⟩:=AU D;rw[i.ref] at y;cases y;cases e:H3 a with
  |none=>rw[e] at h;exact h.elim
  |some o =>
  rw[e] at h;cases o with
  |lst B =>
   rw[Qy] at h;obtain⟨N,F,A⟩:=x.sqL (.inl e);cases g:AJ B with
   |none=>rw[g] at h;exact h.elim
   |some ns =>
   rw[g,eY] at h;obtain⟨l,h⟩:=h;obtain⟨b,n,L,_⟩:=I.list F;have p:=jF g A n;have d:AllInts b.toArray:=p.allInts;obtain⟨c,w⟩:=d.items;have m:s.heap.IsList a (intItems c):=by rw[<- w];exact L.isList
   have f:=xp c;rw[<- w,show b.toArray.toList=b from rfl,p.numsOf] at f;have G:0<c.size:=by have:=U_ a7 f;simp at this;have:=List.length_pos_iff.mpr l;omega
   refine max_intList (I.ok.hd E) m G λv h' tk z K=>?_;obtain⟨t,rfl⟩:=intItems_at z;obtain⟨M,J⟩:=argBest_gt (numAt c) (c.size - 1);refine⟨.int _,H,I.kept K,⟨t,rfl⟩,k _ _ _ _ .refl x .ofInt (h _ ?_ λa q=>?_)⟩
   .rw[f,numAt_eq];exact getD_mem (by rw[g_,E7];omega)
   rw[f] at q;obtain⟨j,C,rfl⟩:=mem_getD q;rw[g_,E7] at C;rw[<- numAt_eq];exact J j zo
  |_=>exact h.elim
 |_=>cases h
end
open L2 HT
theorem jH (b:sv s.heap t a) (l:s.heap.IsSliceOf f k j .none) (pl:iA k c) (n:iA j i) (m:sIx a.size 0 c=0/\sIx a.size a.size i=a.size) (h:Q (.ref t) s):ax (aI prog w) A (eW (.ref t) (.ref f)) Q E s:=by
 obtain⟨os,e,d,o⟩:=id l;have g:s.TypeIs (.ref f) "slice":=⟨os,e,d⟩;unfold eW;try with_reducible refine DU ?_
 first | refine a_ (i_ ?_) | skip
 refine a_ (iX b.typeIs zC ?_);refine a_ (II (name:=cr "__getitem__") b.typeIs IP
  (EH IP b.typeIs gx ?_ (ib _ _)))
 show ax _ _ (dE (.ref t) >>= _) _ _ s;refine a_ (nS b ?_);refine a_ (LW g ?_);rw[z3 zC];refine a_ (ie l pl n ?_);show ax _ _ (if (((sIx a.size 0 c:Nat):Int)==0&&(1:Int)==1&&(sIx a.size a.size i - sIx a.size 0 c)==a.size)=ag then _ else _) _ _ s;rw[z3 (by rw[m.1,m.2];simp)];have p:=b.typeIs
 wp_walk
 exact⟨_,rfl,i_ h⟩
theorem Ms:IT X (λx d f H Q=>∃a xs,x=.ref a/\A3 X.K H a xs/\(HT.sIx xs.length 0 d=0/\HT.sIx xs.length xs.length f=xs.length)/\Q (.ref a) H):=by
 intro pins s σ H x v o m d f p Q I l j pl g h;obtain⟨a,xs,rfl,k,i,q⟩:=h;cases l;obtain⟨c,r,e,n⟩:=I.tuple k;have b:c.toArray.size=xs.length:=by rw[m_];exact r.length.symm
 refine⟨"tuple",_,IP.lookup,e.typeIs,?_⟩;exact jH e j pl g (by rw[b];exact i) ⟨.ref a,H,I,rfl,q⟩
def Hn:T->ζ Int->ζ Int->lq->AC->Prop:=λx a b H Q=>match x with
 |.tup ts=>Q (.tup (eU ts a b)) H
 |_=>False
def Qz (te:AF) (d a:HI):AF:=λσ H Q=>te σ H λx b=>d σ b λl c=>a σ c λu H3=>Hn x l u H3 Q
theorem Ho (ts:ξ T) (a b:ζ Int) (H:lq) (Q:AC):Hn (.tup ts) a b H Q=Q (.tup (eU ts a b)) H:=rfl
theorem U0 (te:AF) (b a:HI) (σ:AV) (H:lq) (Q:AC):Qz te b a σ H Q=te σ H λx c=>b σ c λl d=>a σ d λu H3=>Hn x l u H3 Q:=rfl
theorem lz {C E:HI} (M:AA X e te) (O:L7 X D C) (G:L7 X B E):AA X (.Subscript e (.Slice D B af J) y) (Qz te C E):=by
 refine PE.imp (uA (VS.or Ms) M O G) ?_;rintro σ H Q ⟨c,H3,Q3,m,L,h,k⟩;refine⟨c,H3,_,m,L,h,λx R I o d q K N=>⟨c,o,_,m.mono d,q,N,λl P t b v F=>⟨c,t,_,m.mono (d.trans b),v,F,λu S z g i f=>?_⟩⟩⟩;have A:=k.at (d.trans (b.trans g));have s:=K.mono (b.trans g);cases I with
 |tup ts =>
  rw[Ho] at f;obtain⟨a,xs,rfl,w,r⟩:=s.tup;by_cases j:HT.sIx xs.length 0 l=0/\HT.sIx xs.length xs.length u=xs.length
  .refine .inr ⟨a,xs,rfl,w,j,A _ _ _ _ .refl i (.ofTup w r) ?_⟩;have e:eU ts l u=ts:=by unfold eU;rw[r.length,j.1,j.2,Nat.sub_zero,mx,<- r.length,OK]
   rw[e] at f;exact f
  exact .inl ⟨a,xs,rfl,w,j,λp n=>A _ _ _ _ (aO n) (i.new n) (zc.newTup (H3:=z) n (mK r l u)) f⟩
 |_=>exact f.elim
theorem Hq (l : ξ av) : ((ay l.length).filterMap λ(k : Nat) => l.toArray[((l.length : Int) - 1 + (k : Int) * (-1)).toNat]?) = l.reverse:=by
 have e:(ay l.length).map (λ(k:Nat)=>l.toArray[((l.length:Int) - 1+(k:Int)*(-1)).toNat]?)=l.reverse.map ab:=by
  apply Na;intro i;rw[C_,C_];by_cases h:i<l.length
  .rw[FR h,lI h];have d:((l.length:Int) - 1+(i:Int)*(-1)).toNat=l.length - 1 - i:=zo
   have c:l.length - 1 - i<l.length:=zo
   simp only[OV,d,List.getElem?_toArray];rw[e_ c];rfl
  rw[Ee (by simp;omega),Ee (by simp;omega)];rfl
 have a:=U_ (xa id) e;rw [Sk,Sk] at a;have b : xa (id ∘ ab) l.reverse = l.reverse:=nI;rw [b] at a;exact a
section
variable {w:bg}
theorem Mt (n:Nat):cp af af (-1) (n:Int)=((n:Int) - 1,-1):=by unfold cp;simp
theorem yw (n:Nat):bX ((n:Int) - 1) (-1) (-1)=n:=by
 unfold bX;have a:¬((-1:Int)>0):=zo
 simp only[a,W_,Int.neg_neg,qS];split <;> omega
theorem lA {n:Nat} (e:s.heap.IsSliceOf c .none .none vs) (ps:iA vs (ab (-1))) (h:Q ((n:Int) - 1,-1,n) s):ax (aI prog w) A (dL (.ref c) (ce (n:Int))) Q E s:=by obtain⟨os,a,d,b⟩:=id e;unfold dL iS;refine a_ (a_ (DS a b (x:=.none) rfl (a_ (DS a b (x:=.none) rfl (a_ (DS a b (x:=vs) rfl (i_ ?_)))))));refine a_ (jA ps ?_);show ax _ _ (if ((-1:Int)==0)=ag then _ else _) _ _ s;rw[zD zC];refine a_ (hU (a_ (hU (a_ (i_ ?_)))));show ax _ _ (match cp af af (-1) (n:Int) with | (lo,hi)=>ce (lo,(-1:Int),bX lo hi (-1))) _ _ s;rw[Mt n];show ax _ _ (ce ((n:Int) - 1,(-1:Int),bX ((n:Int) - 1) (-1) (-1))) _ _ s;rw[yw];exact i_ h
theorem jW {b:ξ av} (c:sv s.heap t b.toArray) (i:s.heap.IsSliceOf f .none .none vs) (ps:iA vs (ab (-1))) (h:Q (.ref s.heap.objs.size) { s with heap:=s.heap.push { cls:=.type "tuple",data:=.seq b.reverse.toArray}}) (hsz:b.length<=am):ax (aI prog w) A (eW (.ref t) (.ref f)) Q E s:=by
 obtain⟨os,e,d,j⟩:=id i;have g:s.TypeIs (.ref f) "slice":=⟨os,e,d⟩;have a:sizeOk (.seq b.reverse.toArray):=by show b.reverse.toArray.size<=am;rw[m_,IG];exact hsz
 unfold eW;try with_reducible refine DU ?_
 first | refine a_ (i_ ?_) | skip
 refine a_ (iX c.typeIs zC ?_);refine a_ (II (name:=cr "__getitem__") c.typeIs IP
  (EH IP c.typeIs gx ?_ (ib _ _)))
 show ax _ _ (dE (.ref t) >>= _) _ _ s;refine a_ (nS c ?_);refine a_ (LW g ?_);rw[z3 zC];refine a_ (lA i ps ?_);rw[m_];show ax _ _ (if (((b.length:Int) - 1)==0&&(-1:Int)==1&&b.length==b.toArray.size)=ag then _ else _) _ _ s;rw[zD Ap,Hq];first
  |exact a_ (m:=b9 _) (FB (i_ ⟨_,rfl,i_ h⟩) a)
  |exact a_ (m:=b9 _) (FB (a_ (i_ (i_ ⟨_,rfl,i_ h⟩))) a)
  |exact a_ (a_ (m:=b9 _) (FB (i_ (i_ ⟨_,rfl,i_ h⟩)) a))
  |exact a_ (a_ (m:=b9 _) (FB (i_ ⟨_,rfl,i_ h⟩) a))
variable {e st:Expr}
def YK (K:a5) (te:TE) (ts:TO):TE:=λσ H Q=>te σ H λx c=>ts σ c λo b=>o=ab (-1)/\∃a xs,x=.ref a/\A3 K b a xs/\∀p,b p=af->Q (.ref p) (As b p (.tup xs.reverse))
theorem Mu (i:PE X e te) (n:PO X (ab st) ts):PE X (.Subscript e (.Slice af af (ab st) p2) u?) (YK X.K te ts):=by intro pins s σ H Q I h;refine oQ (AE (i pins s σ H _ I h) λv p ⟨x,l,y,C,z⟩=>?_);refine wpAny_Slice ?_;rw[n9];refine i_ (i_ (AE (n pins p σ l _ y z) λvs s3 ⟨o,H3,k,ps,m,a,xs,B,u,q⟩=>?_));subst m B;cases C;have c:Inv X pins σ H3 { s3 with heap:=s3.heap.push { cls:=.type "slice",data:=.fields #[.none,.none,vs]}}:=k.kept (t':=s3.toks) λb t q=>b_ _ q;obtain⟨d,r,f,j⟩:=c.tuple u;have g:=r.length;show ax (aI X.prog X.w) X.A (j2 e (.Slice af af (ab st) p2) (.ref a) (.ref s3.heap.objs.size)) (EP X pins σ Q) X.xe { s3 with heap:=s3.heap.push { cls:=.type "slice",data:=.fields #[.none,.none,vs]}};refine yT (T:="tuple") (ops:=[.ref a,.ref s3.heap.objs.size]) f.typeIs IP.lookup ?_ (by with_unfolding_all rfl);refine jW f (Heap.IsSliceOf.new ..) ps ?_ zo;refine⟨.ref (s3.heap.push { cls:=.type "slice",data:=.fields #[.none,.none,vs]}).objs.size,_,c.laid (t':=s3.toks) (o:=.tup xs.reverse) (λb t q=>b_ _ q) (o_ _) ?_,rfl,q _ (c.hok.fresh (o_ _))⟩;exact⟨by simpa using j,d.reverse,r.reverse,GV.new _ _⟩
def To (x:T) (o:ζ Int) (H:lq) (Q:AC):Prop:=match x with
 |.tup ts=>o=ab (-1)/\Q (.tup ts.reverse) H
 |_=>False
def Hr (te:AF) (ts:HI):AF:=λσ H Q=>te σ H λx a=>ts σ a λo b=>To x o b Q
theorem U3 (te:AF) (ts:HI):Hr te ts σ H Q=te σ H λx a=>ts σ a λo b=>To x o b Q:=rfl
theorem QB (xs:ξ T) (o:ζ Int):To (.tup xs) o H Q=(o=ab (-1)/\Q (.tup xs.reverse) H):=rfl
theorem Mv (v:AA X e te) (s:L7 X (ab st) ts):AA X (.Subscript e (.Slice af af (ab st) p2) u?) (Hr te ts):=by
 refine PE.imp (Mu v s) ?_;rintro σ H Q ⟨c,H3,Q3,n,u,h,k⟩;refine⟨c,H3,_,n,u,h,λx A q i d j t y=>⟨c,i,_,n.mono d,j,y,λo z l b m f=>?_⟩⟩;cases q with
 |tup ts=>rw[QB] at f;obtain⟨a,xs,rfl,w,r⟩:=(t.mono b).tup;exact⟨f.1,a,xs,rfl,w,λp g=>k _ _ _ _ (d.trans (b.trans (aO g))) (m.new g) (zc.newTup (H3:=l) g r.reverse) f.2⟩
 |_=>exact f.elim
noncomputable def GH:T->Bool
 |.non=>ag
 |_=>ai
def YL:R3:=λx y H Q=>match y with
 |.non=>Q (.bl (GH x)) H
 |_=>False
theorem aa6 (x:T) (H:lq) (Q:AC):YL x .non H Q=Q (.bl (GH x)) H:=rfl
theorem Mw:GH .non=ag:=rfl
theorem Mx (i:Int):GH (.int i)=ai:=rfl
theorem Mz (x:aw):GH (.str x)=ai:=rfl
theorem MF (ts:ξ T):GH (.tup ts)=ai:=rfl
theorem U4 (b:Bool):GH (.bl b)=ai:=rfl
theorem YM:dU X (ba .Is) YL:=by
 refine AX.imp S5 ?_;rintro x y H Q ⟨c,ty,H3,Q3,b,f,d,h,k⟩;cases ty with
 |non =>
  refine⟨f.non,?_⟩;have e:decide (x=.non)=GH c:=by
   cases c with
   |non=>rw[b.non];rfl
   |int i=>rw[b.int];rfl
   |str i=>rw[b.str];rfl
   |bl i=>rw[b.bl];rfl
   |ref a=>rw[b.ref];rfl
   |tup ts=>obtain⟨a,vs,rfl,_⟩:=b.tup;rfl
   |ty n=>rw[b.ty];rfl
  rw[e];exact k _ _ _ _ .refl d .ofBl h
 |_=>exact h.elim
end
end L3
open L3.T renaming int→zh,str→zi,tup→zk,ref→zl
namespace L2
end L2
namespace L3
open L2
def B' (x:T) (p q:Prop):Prop:=match x with
 |.non=>p
 |.tup (_::_)=>q
 |_=>False
def YQ (b c:AF):AF:=λσ H Q=>b σ H λx a=>B' x (c σ a Q) (Q x a)
end L3
namespace L2
theorem Di:ow (.type "list") "keys"=ce af:=by rw[lb,fe];kernel_rfl
theorem yx (j:s.heap.get? a=ab { cls:=.type "list",dict:=af,data:=.seq xs k,slots:=i}) (l:A.handled=af) (h:∀h' tk e,Heap.NewExcOf s.heap h' e "AttributeError"->Q af { s with heap:=h',toks:=tk}):ax (aI prog w) A (getAttr? (.ref a) "keys") Q E s:=by
 obtain⟨m,g,d,tk,os⟩:=s;have f:∀b,(⟨m,g,d,b,os⟩:aT).TypeIs (.ref a) "list":=λ_=>⟨_,j,rfl⟩;have r:=sub_AttributeError;have t:=Tk.lookup;have p:=Tk.bind (.ref a);have q:=am_list_getattr_none;unfold getAttr? getAttrBy? getAttrBy;repeat (any_goals (first | assumption | exact f _ | ((with_reducible show ax _ _ (fT (j3 "list.__getattribute__") _ _) _ _ _);refine LA Tk (f _) am_entry_list_getattribute (F.args_list_getattribute_2 _ _) (meets_getattribute_miss_list a xs k i "keys" _ Di zC zC) ⟨j,l,λh' b e c=>?_⟩) | wp_step))
 obtain⟨t',o,n⟩:=c.there;show ax _ _ (oz _ _ _ _ _ _ _) _ _ _;unfold oz;repeat (any_goals (first | assumption | wp_step))
 all_goals exact h _ _ _ c.of
theorem ji:plainId "dict.update.loop"=ag:=by decide +kernel
theorem qU:entryFor table "dict.update.loop"=ab dt.«dict.update.loop»:=entryFor_of_tree Bi
def U5 (h:cn) (p:ae) (k v:av):Prop:=∃o n,h.get? p=ab o/\o.cls=.type "tuple"/\o.data=.seq #[k,v] n
end L2
namespace L3
open L2
section
variable {X:Cx}
variable {pins:ξ (ae × dP)}{σ:L2.St}
theorem Inv.freeze (I:Inv X pins σ H s) (e:H a=ab (.dK kvs)):∃o,s.heap.get? a=ab o/\Inv X pins σ (As H a (.frz o (.dK kvs))) s:=by
 have z:=I.hok a _ e;obtain⟨i,k,vs,g,o,j,ep,f,l,r⟩:=id (show W2 X.prog X.w H s.heap a (.dK kvs) from z);have d:∀b u,H b=ab u->(∀ks,u≠.dK ks)->b≠a:=λb u q n w=>by subst w;rw[e] at q;cases q;exact n _ rfl
 refine⟨o,f,?_⟩;have:=I.step (h':=s.heap) (g':=s.gens) (d':=s.drawn) (t':=s.toks) (H':=As H a (.frz o (.dK kvs))) (ch:=[]) (λ_ z=>nomatch z) (λb o _ _ _ q _=>q) (λb o _ _ _ q _=>⟨_,q⟩)
  (λb o _ _ n=>by rw[aL (λw=>by subst w;rw[e] at n;cases n)];exact n) (λb o _ q=>⟨_,q⟩)
  (λb xs q=>by rw[aL (d b _ q λ_=>nofun)];exact q) (λb o u q=>by rw[aL (d b _ q λ_=>nofun)];exact q)
  (λb ps q=>⟨#[],by rw[aL (d b _ q λ_=>nofun),iF];exact q⟩) (λ_ q=>q) (λb u q=>?_) I.bare
 .exact this
 by_cases h:b=a
 .subst h;rw[aZ] at q;cases q;exact⟨f,i,k,vs,g,o,j,ep,f,l,r⟩
 rw[aL h] at q;exact (I.hok b u q).stay (λ_ _ _ r=>r) (λc r=>by rw[aL (d c _ r λ_=>nofun)];exact r) λc xs r=>by rw[aL (d c _ r λ_=>nofun)];exact r
end
theorem YS (h:(bc P w).is k u=ag):z4 (kV k) u:=by
 rcases cz h with ⟨i,t,a,b⟩ | ⟨y,t,a,b⟩
 .subst a b;exact⟨t,rfl⟩
 subst a b;exact⟨t,rfl⟩
theorem jJ:∀{l₁:ξ a}{l₂:ξ c}{i:Nat}{x:a},dQ F l₁ l₂->l₁[i]?=ab x->∃y,l₂[i]?=ab y/\F x y
 |_,_,i,x,.nil,e=>by simp at e
 |_,_,0,x,.cons (b:=b) h t,e=>by simp at e;subst e;exact⟨b,rfl,h⟩
 |_,_,i+1,x,.cons h t,e=>by simpa using jJ t (by simpa using e)
noncomputable def QA (d:ae) (o:dP):It :=
 ⟨λi H=>∃kvs a,H d=ab (.frz o (.dK kvs))/\kvs[i]?=ab a,
  λi H v H'=>∃p k x,v=.ref p/\H p=af/\H'=As H p (.tup [kV k,x])/\∀kvs,H d=ab (.frz o (.dK kvs))->kvs[i]?=ab (k,x),
  λi H=>∃kvs,H d=ab (.frz o (.dK kvs))/\kvs.length<=i⟩
theorem Dj:entryFor table "dict_itemiterator.__iter__"=ab dt.«dict_keyiterator.__iter__» :=
 entryFor_alias (id':="dict_keyiterator.__iter__") Bi rfl AQ Bi
theorem Ht {σ:L2.St} (I:Inv X pins σ H s) (e:H d=ab (.frz o (.dK kvs))) (i:o.data=.dict c ep):
  ∃vs,KV kvs vs/\s.heap.DictAt (bc X.prog X.w) d vs ep/\vs.length=c.size:=by
 obtain⟨g,_,_,vs,f,p,k,m,b,n,a,l,h,j⟩:=(show W2 X.prog X.w H s.heap d (.frz o (.dK kvs)) from I.hok d _ e);rw[g] at b;cases b;rw[i] at a;cases a;exact⟨vs,f,⟨o,c,g,n,i,l,h,j⟩,by rw[<- h.length];simp⟩
theorem yz {K:a5} (d it:ae) (o:dP) (V:Array nv) (ep:Nat) (U:o.data=.dict V ep):
  D7 P w K (.Tuple y Z R) (QA d o) [it] it (λi h=>∃l g,IsItemIter h it d i V.size ep l g) where
 mem:=A_
 obj:=λi h st c e=>by
  obtain⟨l,g,f⟩:=st
  rw[j_.mp e]
  exact⟨_,f,λv z=>by cases z⟩
 keep:=λi h h' st k=>by
  obtain⟨l,g,f⟩:=st
  exact⟨l,g,k it Ap _ f⟩
 item:=by
  intro X O L S e i pins s σ H E I t st J
  subst O L S
  obtain⟨kvs,⟨k,x⟩,hq,M⟩:=J
  obtain⟨l,g,f⟩:=st
  obtain⟨vs,j,T,a⟩:=Ht I hq U
  obtain⟨⟨k',u⟩,hu,Y,ru⟩:∃q,vs[i]?=ab q/\k=q.1/\z4 x q.2:=jJ j M
  subst Y
  rw[<- a] at f
  refine wpAny_pyNext_items_item f T hu λkey h' hk ho r hsz kp=>?_
  refine⟨_,rfl,wpAny_letOwnedTupleGo_items ho λm n W=>?_⟩
  have lt:∀{c o},s.heap.get? c=ab o->s.heap.objs.size≠c:=λq=>B9 (y_ q)
  have B:s.heap.objs.size≠it:=lt f
  have D:∀{c:ae},c∈[it]->c≠s.heap.objs.size:=λ{c} e=>by rw[j_.mp e];exact a6 B
  have N:∀c o,c∉[it]->s.heap.get? c=ab o->m.get? c=ab o:=λc o G q=>(W.2 c λz=>G (z▸A_)).trans (kp c o (λz=>G (z▸A_)) q)
  have I1:Inv X pins σ (As H s.heap.objs.size (.tup [kV k,x])) { s with heap:=s.heap.push { cls:=.type "tuple",data:=.seq #[key,u]},toks:=s.toks} :=
   I.laid (t':=s.toks) (λb o q=>b_ _ q) (o_ _) (show W2 X.prog X.w _ _ _ (.tup [kV k,x]) from ⟨by show 2<=am;decide,[key,u],.cons (YS hk) (.cons ru .nil),GV.new _ _⟩)
  have I2:Inv X pins σ (As H s.heap.objs.size (.tup [kV k,x])) { s with heap:=m}:=mO (s:={ s with heap:=s.heap.push { cls:=.type "tuple",data:=.seq #[key,u]}}) (ch:=[it]) (t':=s.toks) I1 (λc o G q=>by
   by_cases z:c=s.heap.objs.size
   ·
    subst z
    have C:(s.heap.push { cls:=.type "tuple",data:=.seq #[key,u]}).get? s.heap.objs.size=ab o:=q
    rw[l_ _ rfl] at C
    cases C
    exact (W.2 _ B).trans r
   ·
    have C:(s.heap.push { cls:=.type "tuple",data:=.seq #[key,u]}).get? c=ab o:=q
    rw[qV _ _ _ z] at C
    exact N c o G C) λc e=>⟨by rw[aL (D e)];exact (t c e).1,(t c e).2⟩
  refine⟨.ref s.heap.objs.size,_,I2,rfl,⟨s.heap.objs.size,k,x,rfl,I.hok.fresh (o_ _),rfl,λzs p=>by rw[hq] at p;cases p;exact M⟩,⟨key,u,?_⟩,λc e=>by rw[aL (D e)];exact (t c e).1⟩
  rw[<- a]
  exact n
 done:=by
  intro X O L S e i pins s σ H E I t st J
  subst O L S
  obtain⟨kvs,hq,M⟩:=J
  obtain⟨l,g,f⟩:=st
  obtain⟨vs,j,T,a⟩:=Ht I hq U
  have hl:=j.length
  rw[<- a] at f
  exact wpAny_pyNext_items_end (I.ok.hd e) f T (Ee zo) λh' eb=>⟨rfl,mO (ch:=[it]) (t':=s.toks) I (λb o nb q=>eb b o (λz=>nb (by simp [z])) q) t⟩
 self:=λA i s Q E st h=>by
  obtain⟨l,g,f⟩:=st
  have r:s.TypeIs (.ref it) "dict_itemiterator":=⟨_,f,rfl⟩
  refine o3 r eC (EH eC r Dj ?_ (PySem.F.args_dict_itemiterator_iter_1 _))
  show ax _ _ (ret (.ref it)) _ _ s
  exact i_ ⟨_,rfl,"dict_itemiterator",_,r,PySem.F.slot_dict_itemiterator_next.lookup,h⟩
section
variable {B?:ξ Expr}{x1:Nat}{C? u? w? v?:gE}
def U6 (te:TE):TI:=λσ H R=>te σ H λx b=>∃a kvs,x=.ref a/\b a=ab (.dK kvs)/\∀o,R (QA a o) (As b a (.frz o (.dK kvs)))
theorem Hu (K:PE X e te) (f:da e "items" X.env (bt e X.env)=bt e X.env:=by rfl) (g:(w?.endLine==v?.line)=ag:=by rfl):
  PI X (.Tuple B? x1 C?) (.Call (.Attribute e "items" w?) [] [] v?) (U6 te):=by
 intro pins s σ H R I h;refine kn f g (AE (K pins s σ H _ I h) λv s1 ⟨x,E,n,L,a,kvs,J,p,q⟩=>?_);subst J;cases L;obtain⟨z,i,vs,G,u⟩:=zN n.hok p;obtain⟨o,t,D⟩:=Inv.freeze n p;obtain⟨y,A,_⟩:=Ff n (a:=a) (.inl ⟨kvs,.inl p⟩);refine⟨"dict","dict.items",kw,kv,PySem.F.type_dict_items,y,A,SI rfl (nz (call_meetsIn kv y PySem.F.entry_dict_items (PySem.F.args_dict_items_1 _) (meets_dict_items (bc X.prog X.w) a i) ⟨⟨vs,u⟩,?_⟩))⟩;obtain⟨O,m,ep,k,B,j,N,r,C⟩:=id u;rw[t] at k;cases k;have hsz:m.size=vs.length:=by rw[<- r.length];simp
 have l:Inv X pins σ (As E a (.frz o (.dK kvs))) { s1 with heap:=s1.heap.push { cls:=.type "dict_items",data:=.fields #[.ref a]}}:=D.kept (t':=s1.toks) λb o q=>b_ _ q;refine wpAny_pyIter_items (knd:=bc X.prog X.w) (d:=a) (kvs:=vs) (ep:=ep) ⟨_,l_ _ rfl,rfl,rfl⟩ ⟨o,m,b_ _ t,B,j,N,r,C⟩ ?_;refine⟨_,[_],_,QA a o,_,rfl,l.kept (t':=s1.toks) λb o q=>b_ _ q,yz a _ o m ep j,⟨.none,.none,?_⟩,λc M=>?_,q o⟩
 .rw[hsz];exact l_ _ rfl
 rw[j_.mp M];exact l.fpOk (o_ _) (l.hok.fresh (o_ _))
def YT (c f d:TE):TE:=λσ H Q=>c σ H λx b=>∃a,x=.ref a/\X2 b a/\f σ b λy e=>d σ e λz H3=>∃kvs k,H3 a=ab (.dK kvs)/\y=kV k/\kvs.length<am /\
 (∀v,gC kvs k=ab v->Q v H3)/\(gC kvs k=af->Q z (As H3 a (.dK (A0 kvs k z))))
theorem MJ (O:PE X o td) (n:PE X e ty) (U:PE X f tx) (m:M2 X o "setdefault" w? e f v?):PE X (.Call (.Attribute o "setdefault" w?) [e,f] [] v?) (YT td ty tx):=by
 intro pins s σ H Q I h;refine wpAny_Call_method m.base m.few m.line kw f6 PySem.F.type_dict_setdefault (AE (O pins s σ H _ I h) λu R ⟨x,Y,A,T,a,L,d,q1⟩=>?_);subst L;obtain rfl:u=aS a:=T;obtain⟨t1,G,_⟩:=Ff A d;refine⟨t1,G,?_⟩;rw[m.trees];refine SI rfl (mI (NE (AE (n pins R σ Y _ A q1) λiv Z ⟨y,M,V,K,J⟩ =>
  NE (AE (U pins Z σ M _ V J) λfv s3 ⟨z,H3,j,C,kvs,k,B,W,l,D,E⟩=>OY ?_))))
 subst W;obtain⟨S,r,vs,c,t⟩:=zN j.hok B;have g:=c.val k;refine call_meetsIn f6 t.typeIs PySem.F.entry_dict_setdefault (PySem.F.args_dict_setdefault_3 _ _ _) (kt_meets_setdefault (bc X.prog X.w) a (nF K) r fv) ⟨vs,t,by rw[<- c.length];exact S,λv p=>?_,λN h' i P=>?_⟩
 .cases b:gC kvs k with
  |none=>rw[b,p] at g;exact (show False from g).elim
  |some w =>
  rw[b,p] at g;exact⟨w,H3,j.tok _,g,D w b⟩
 have b:gC kvs k=af:=by
  cases b:gC kvs k with
  |none=>rfl
  |some w=>rw[b,N] at g;exact (show False from g).elim
 have n:∃q,h'.get? a=ab q:=let ⟨q,_,_,hq,_⟩:=i;⟨q,hq⟩;have hl:(A0 kvs k z).length<=am:=by have:=gM kvs k z;omega
 exact⟨z,_,jf j (by rw[B];exact cx) P n (xT hl r (c.put k C) i),C,E b⟩
end
noncomputable def dW (k:Int):ξ (Int × T)->ζ T
 |[]=>af
 | (k',v)::r=>if k'=k then ab v else dW k r
noncomputable def yC (k:Int) (v:T) (kvs:ξ (Int × T)):ξ (Int × T) :=
 if (kvs.any λa=>decide (a.1=k))=ag then kvs.map (λa=>if a.1=k then (a.1,v) else a) else kvs++[(k,v)]
noncomputable def jj {K:a5}:∀{kvs:ξ (Int × T)}{vs:ξ (AG × V)}{t:T},ES K H kvs vs->dW k kvs=ab t->∃v,gC vs (cK k:AG)=ab v/\At K H t v
 |[],_,_,_,e=>by cases e
 | (k',t')::r,_,t,.cons (b:=(kk,v')) ⟨e1,rv⟩ rr,e=>by
  simp only at e1 rv
  subst e1
  unfold dW at e
  by_cases a:k'=k
  ·
   rw[z3 a] at e
   cases e
   exact⟨v',by rw[gD (by rw[a])],rv⟩
  ·
   rw[zD a] at e
   obtain⟨v,c,q⟩:=jj rr e
   exact⟨v,by rw[gF (by intro z;exact a (Nd z))];exact c,q⟩
theorem iJ {K:a5}:∀{kvs:ξ (Int × T)}{vs:ξ (AG × V)},ES K H kvs vs->(gC vs (cK k:AG)).isSome=(dW k kvs).isSome
 |[],_,.nil=>rfl
 | (k',t')::r,_,.cons (b:=(kk,v')) ⟨e1,rv⟩ rr=>by
  simp only at e1 rv
  subst e1
  unfold dW
  by_cases a:k'=k
  ·
   rw[z3 a,gD (by rw[a])];rfl
  ·
   rw[zD a,gF (by intro z;exact a (Nd z))]
   exact iJ rr
def Hv {K:a5} (j:At K H t v) (r:ES K H kvs vs):ES K H (yC k t kvs) (A0 vs (cK k:AG) v):=by
 have e:∀{kvs:ξ (Int × T)} {vs:ξ (AG × V)},ES K H kvs vs->(kvs.any λa=>decide (a.1=k))=(vs.any λa=>decide (a.1=(cK k:AG)))/\ES K H (kvs.map (λa=>if a.1=k then (a.1,t) else a)) (vs.map (λa=>if a.1=(cK k:AG) then (a.1,v) else a)):=by
  intro kvs;induction kvs with
  |nil=>intro vs r;cases r;exact⟨rfl,.nil⟩
  |cons p l m =>
  intro vs r;cases r with
  |cons q n =>
  rename_i b u;obtain⟨g,f⟩:=m n;obtain⟨h,i⟩:=q;obtain⟨s,o⟩:=b;simp only at h i;subst h;by_cases d:p.1=k
  .refine⟨by simp [d],?_⟩;simp only[I_,d,if_true];exact .cons ⟨rfl,j⟩ f
  have c:¬(cK p.1:AG)=cK k:=λz=>d (Nd z);refine⟨by simp only[M0,d,c,ED,ON];exact g,?_⟩;simp only[I_,d,c,W_];exact .cons ⟨rfl,i⟩ f
 obtain⟨g,f⟩:=e r;unfold yC A0;rw[g];split
 .exact f
 exact KF r ⟨rfl,j⟩
section
variable {K:a5}
theorem zc.wrI (s:zc K H3 H) (g:H a=ab (.dK h)) (r:ES K H kvs c):zc K (fY H3 a (.dci kvs)) (As H a (.dK c)):=λb o e=>by
 have f:t6 K H (As H a (.dK c)):=bW (by rw[g];exact trivial);by_cases d:b=a
 .subst d;rw[aq] at e;cases e;exact⟨c,aZ,r.mono f⟩
 rw[aF d] at e;exact (s b o e).stay f λu q=>by rw[aL d];exact q
theorem zc.newI (s:zc K H3 H) (c:H p=af):zc K (fY H3 p (.dci [])) (As H p (.dK [])):=λa o e=>by
 by_cases b:a=p
 .subst b;rw[aq] at e;cases e;exact⟨[],aZ,.nil⟩
 rw[aF b] at e;exact s.new c a o e
theorem zc.frzI (s:zc K H3 H) (g:H a=ab (.dK c)) (r:ES K H kvs c):zc K (fY H3 a (.dif o kvs)) (As H a (.frz o (.dK c))):=λb u e=>by
 have f:t6 K H (As H a (.frz o (.dK c))):=bW (by rw[g];exact trivial);by_cases d:b=a
 .subst d;rw[aq] at e;cases e;exact⟨c,aZ,r.mono f⟩
 rw[aF d] at e;exact (s b u e).stay f λu q=>by rw[aL d];exact q
end
section
variable {X:Cx}{u? x? w? v? C?:gE}{B?:ξ Expr}{x1:Nat}
def Ah:AF:=λ_ H Q=>∀p,H p=af->Q (.ref p) (fY H p (.dci []))
theorem Hw:AA X (.Dict [] [] u?) Ah:=by refine PE.imp uG ?_;rintro σ H Q ⟨c,H3,Q3,d,b,h,k⟩ p a;exact k _ _ _ _ (aO a) (b.newI a) .ofRef (h p (b.fresh a))
def X1 (y:T) (p:ae) (v:T) (H:lq) (Q:AC):Prop:=match y with
 |.int k=>H p=ab (.dci [])/\Q (.ref p) (fY H p (.dci [(k,v)]))
 |_=>False
def sG (tk a:AF):AF:=λσ H Q=>∀p,H p=af->tk σ (fY H p (.dci [])) λy b=>a σ b λv c=>X1 y p v c Q
theorem YW (x:Int) (p:ae) (v:T):X1 (.int x) p v H Q=(H p=ab (.dci [])/\Q (.ref p) (fY H p (.dci [(x,v)]))):=rfl
theorem Dk (x:AA X k tk) (s:AA X v tv):AA X (.Dict [ab k] [v] u?) (sG tk tv):=by
 refine PE.imp (zQ (uH x s zP) rfl rfl Ap (by show 1<=15;decide)) ?_;rintro σ H Q ⟨c,H3,Q3,n,q,h,k⟩ p i;have a:t6 X.K H (As H p (.dK [])):=aO i;refine⟨c,fY H3 p (.dci []),_,n.mono a,q.newI i,h p (q.fresh i),λy D w j d l u B=>?_⟩;refine⟨c,j,_,n.mono (a.trans d),l,B,λz C t f b g A o=>?_⟩;cases w with
 |int key =>
  have h':f p=ab (.dci [])/\Q3 (.ref p) (fY f p (.dci [(key,t)])):=o
  obtain⟨ws,m,r⟩:=g p _ h'.1
  cases r
  refine⟨m,[(cK key,z)],by rw[(u.mono b).int];rfl,by show 1<=15;decide,?_⟩
  have e:jB [] [((cK key:AG),z)]=[((cK key:AG),z)]:=rfl
  rw[e]
  exact k _ _ _ _ (a.trans (d.trans (b.trans (bW (by rw[m];exact trivial))))) (g.wrI m (.cons ⟨rfl,A⟩ .nil)) .ofRef h'.2
 |_=>exact o.elim
def Pc (o:ζ O3) (k:Int) (H:lq) (Q:AC):Prop:=match o with
 |some (.dci kvs)=>oq (dW k kvs) λt=>Q t H
 |some (.dif _ kvs)=>oq (dW k kvs) λt=>Q t H
 |_=>False
def YX:R3:=λx y H Q=>match x,y with
 |.ref a,.int k=>Pc (H a) k H Q
 |_,_=>False
theorem aa7 (a:ae) (k:Int):YX (.ref a) (.int k) H Q=Pc (H a) k H Q:=rfl
theorem QC (kvs:ξ (Int × T)) (k:Int):Pc (ab (.dci kvs)) k H Q=oq (dW k kvs) λt=>Q t H:=rfl
theorem Hy (o:dP) (kvs:ξ (Int × T)) (k:Int):Pc (ab (.dif o kvs)) k H Q=oq (dW k kvs) λt=>Q t H:=rfl
theorem Hz (E:X.A.units+1<br) (F:AA X o B) (D:AA X i ti) (I:K4 i:=by exact λ_ _=>rfl):AA X (.Subscript o i u?) (uN YX B ti):=by
 refine PE.imp (zO E F D I) ?_;rintro σ H Q ⟨j,H3,Q3,u,J,h,k⟩;refine⟨j,H3,_,u,J,h,λx O G m c n z L=>⟨j,m,_,u.mono c,n,L,λy M K d g b w l=>?_⟩⟩;cases G with
 |ref a =>
  cases K with
  |int key =>
   have h':Pc (d a) key d Q3:=l
   cases e:d a with
   |none=>rw[e] at h';exact h'.elim
   |some C =>
    rw[e] at h'
    cases C with
    |dci kvs =>
     rw[QC] at h'
     obtain⟨vs,s,r⟩:=b a _ e
     cases f:dW key kvs with
     |none=>rw[f] at h';exact h'.elim
     |some t =>
      rw[f] at h'
      obtain⟨v,p,q⟩:=jj r f
      refine⟨a,v,z.ref,?_,k.at (c.trans g) _ _ _ _ .refl b q h'⟩
      rw[w.int,<- p]
      exact EA.k (k:=cK key) s
    |dif N kvs =>
     rw[Hy] at h'
     obtain⟨vs,s,r⟩:=b a _ e
     cases f:dW key kvs with
     |none=>rw[f] at h';exact h'.elim
     |some t =>
      rw[f] at h'
      obtain⟨v,p,q⟩:=jj r f
      refine⟨a,v,z.ref,?_,k.at (c.trans g) _ _ _ _ .refl b q h'⟩
      rw[w.int,<- p]
      exact .inl ⟨vs,cK key,.inr ⟨_,s⟩,rfl,rfl⟩
    |_=>exact h'.elim
  |_=>exact l.elim
 |_=>exact l.elim
def Y! (x y v:T) (H:lq) (Q:lq->Prop):Prop:=match x,y with
 |.ref a,.int k=>match H a with
  |some (.dci kvs)=>kvs.length<am/\Q (fY H a (.dci (yC k v kvs)))
  |_=>False
 |_,_=>False
def MK (c f d:AF):Co:=λD σ H=>d σ H λv b=>c σ b λx e=>f σ e λy H3=>Y! x y v H3 λa=>D.nx σ a
def QP (neg:Bool) (y:T) (o:ζ O3) (H:lq) (Q:AC):Prop:=match y,o with
 |.int k,ab (.dci kvs)=>Q (.bl (if neg then !(dW k kvs).isSome else (dW k kvs).isSome)) H
 |_,_=>False
def U7 (neg:Bool) (y x:T) (H:lq) (Q:AC):Prop:=match x with
 |.ref a=>QP neg y (H a) H Q
 |_=>False
def HB (neg:Bool) (a b:AF):AF:=λσ H Q=>a σ H λy c=>b σ c λx d=>U7 neg y x d Q
theorem U8 (neg:Bool) (y:T) (a:ae):U7 neg y (.ref a) H Q=QP neg y (H a) H Q:=rfl
theorem YZ (neg:Bool) (k:Int) (kvs:ξ (Int × T)):QP neg (.int k) (ab (.dci kvs)) H Q=Q (.bl (if neg then !(dW k kvs).isSome else (dW k kvs).isSome)) H:=rfl
def HD {H:Hp} (g:zc X.K H3 H) (l:At X.K H d x) (j:At X.K H c y) (q:U7 neg c d H3 Q3):
  ∃a f b,x=.ref a/\EA H a y f/\(if neg then !f.isSome else f.isSome)=b/\Q3 (.bl b) H3:=by
 cases d with
 |ref a =>
  have h':QP neg c (H3 a) H3 Q3:=q
  cases c with
  |int k =>
   cases e:H3 a with
   |none=>rw[e] at h';exact h'.elim
   |some h =>
    rw[e] at h'
    cases h with
    |dci kvs =>
     obtain⟨ws,i,r⟩:=g a _ e
     refine⟨a,gC ws (cK k:AG),_,l.ref,by rw[j.int];exact EA.k (k:=cK k) i,rfl,?_⟩
     rw[iJ r]
     exact h'
    |_=>exact h'.elim
  |_=>exact h'.elim
 |_=>exact q.elim
theorem yD (u:X.A.units+1<br) (s:AA X i ti) (v:AA X o td) (C:bP .NotIn o=ai:=by rfl):DT X (.Compare i [.NotIn] [o] u?) (iD (HB ag ti td)):=by refine PT.imp (m6 (qH u s v) C) ?_;rintro σ H Q ⟨d,H3,Q3,n,B,h,k⟩;refine⟨d,H3,_,n,B,h,λy I J l f m t E=>⟨d,l,_,n.mono f,m,E,λx F G z c j w r=>?_⟩⟩;obtain⟨a,p,b,e,g,D,q⟩:=HD j w (t.mono c) r;exact⟨a,p,e,g,by rw[show (!p.isSome)=b from D];exact⟨b,rfl,k _ _ _ (f.trans c) j q⟩⟩
def Tl (o:ζ O3) (a:ae) (k:Int) (v:T) (H:lq) (Q:AC):Prop:=match o with
 |some (.dci kvs)=>kvs.length<am/\match dW k kvs with
  |some t=>Q t H
  |none=>Q v (fY H a (.dci (yC k v kvs)))
 |_=>False
def WO (x y v:T) (H:lq) (Q:AC):Prop:=match x,y with
 |.ref a,.int k=>Tl (H a) a k v H Q
 |_,_=>False
def U9 (o:ζ O3):Prop:=match o with
 |some (.dci _)=>True
 |_=>False
def Y0 (x:T) (H:lq):Prop:=match x with
 |.ref a=>U9 (H a)
 |_=>False
def HF (b e c:AF):AF:=λσ H Q=>b σ H λx a=>Y0 x a/\e σ a λy d=>c σ d λv H3=>WO x y v H3 Q
theorem yE (a:ae):Y0 (.ref a) H=U9 (H a):=rfl
theorem Va (kvs:ξ (Int × T)):U9 (ab (.dci kvs))=True:=rfl
theorem QD (a:ae) (k:Int) (v:T):WO (.ref a) (.int k) v H Q=Tl (H a) a k v H Q:=rfl
theorem QF (kvs:ξ (Int × T)) (a:ae) (k:Int) (v:T):Tl (ab (.dci kvs)) a k v H Q=(kvs.length<am/\match dW k kvs with
  |some t=>Q t H
  |none=>Q v (fY H a (.dci (yC k v kvs)))):=rfl
theorem MN (W:AA X o td) (he:AA X e E) (hf:AA X f tv) (m:M2 X o "setdefault" w? e f v?:=by exact⟨rfl,rfl,rfl,rfl⟩):AA X (.Call (.Attribute o "setdefault" w?) [e,f] [] v?) (HF td E tv):=by
 refine PE.imp (MJ W he hf m) ?_;rintro σ H Q ⟨c,H3,Q3,w,sh,h,k⟩;refine⟨c,H3,_,w,sh,h,λx H1 Y q d s Z J=>?_⟩;obtain⟨n,J⟩:=J;cases Y with
 |ref a =>
  cases L:q a with
  |none=>rw[yE,L] at n;exact n.elim
  |some A =>
  rw[yE,L] at n;cases A with
  |dci N =>
   obtain⟨D,F,_⟩:=s a _ L;refine⟨a,Z.ref,.inl ⟨D,.inl F⟩,c,q,_,w.mono d,s,J,λy H2 E B l C U T=>⟨c,B,_,w.mono (d.trans l),C,T,λz P tz G p g S b=>?_⟩⟩;cases E with
   |int key =>
    rw[QD] at b;cases e:G a with
    |none=>rw[e] at b;exact b.elim
    |some A =>
    rw[e] at b;cases A with
    |dci kvs =>
     rw[QF] at b;obtain⟨vs,I,r⟩:=g a _ e;have R:=d.trans (l.trans p);refine⟨vs,cK key,I,(U.mono p).int,by rw[<- EO r];exact b.1,λv M=>?_,λV=>?_⟩
     .have j:=iJ (k:=key) r;cases i:dW key kvs with
      |none=>rw[i,M] at j;cases j
      |some t =>
      rw[i] at b;obtain⟨v',O,rv⟩:=jj r i;rw[M] at O;cases O;exact k _ _ _ _ R g rv b.2
     have j:=iJ (k:=key) r;cases i:dW key kvs with
     |some t=>rw[i,V] at j;cases j
     |none =>
     rw[i] at b;have u:t6 X.K P (As P a (.dK (A0 vs (cK key:AG) z))):=bW (by rw[I];exact trivial);exact k _ _ _ _ (R.trans u) (g.wrI I (Hv S r)) (S.mono u) b.2
    |_=>exact b.elim
   |_=>exact b.elim
  |_=>exact n.elim
 |_=>exact n.elim
noncomputable def QE (a:Int × T):T:=.tup [.int a.1,a.2]
def yF (a:ae) (o:dP) (kvs:ξ (Int × T)):lq->Prop:=λH=>H a=ab (.dif o kvs)
def TM (u:ζ O3) (a:ae) (H:lq) (R:ξ T->(lq->Prop)->lq->Prop):Prop:=match u with
 |some (.dci kvs)=>∀o,R (kvs.map QE) (yF a o kvs) (fY H a (.dif o kvs))
 |_=>False
def S3 (x:T) (H:lq) (R:ξ T->(lq->Prop)->lq->Prop):Prop:=match x with
 |.ref a=>TM (H a) a H R
 |_=>False
def Ai (te:AF):Fn:=λσ H R=>te σ H λx a=>S3 x a R
theorem HH (te:AF):Ai te σ H R=te σ H λx a=>S3 x a R:=rfl
theorem QG (a:ae):S3 (.ref a) H R=TM (H a) a H R:=rfl
theorem QH (kvs:ξ (Int × T)) (a:ae):TM (ab (.dci kvs)) a H R=∀o,R (kvs.map QE) (yF a o kvs) (fY H a (.dif o kvs)):=rfl
theorem yG {K:a5}{H:Hp}{o:dP}:lO K (QA a o) (kvs.map QE) (yF a o kvs) H:=λH' c u g st=>by
 obtain⟨vs,b,r⟩:=g a _ st;have x:=EO r;refine⟨λi l=>⟨vs,b,by rw[g_] at l;omega⟩,λi t e=>?_⟩;rw[C_] at e;cases q:kvs[i]? with
 |none=>rw[q] at e;cases e
 |some A =>
 rw[q] at e;cases e;obtain⟨⟨n,v⟩,f,h,j⟩:=jJ r q;simp only at h j;subst h;refine⟨⟨vs,_,b,f⟩,λz m y=>?_⟩;obtain⟨p,w,s,rfl,d,rfl,k⟩:=y;have:=(k vs b).symm.trans f;cases this;exact⟨aO d,g.new d,zc.newTup (H3:=c) d (.cons .ofInt (.cons j .nil))⟩
theorem HJ (l:AA X e te) (b:da e "items" X.env (bt e X.env)=bt e X.env:=by rfl) (c:(w?.endLine==v?.line)=ag:=by rfl):
  FH X (.Tuple B? x1 C?) (.Call (.Attribute e "items" w?) [] [] v?) (Ai te):=by
 refine PI.imp (Hu l b c) ?_;rintro σ H R ⟨f,H3,R3,s,n,h,k⟩;refine⟨f,H3,_,s,n,h,λv H' t i m d r q=>?_⟩;cases t with
 |ref a =>
  rw[QG] at q;cases g:i a with
  |none=>rw[g] at q;exact q.elim
  |some u =>
  rw[g] at q;cases u with
  |dci kvs=>rw[QH] at q;obtain⟨vs,j,p⟩:=d a _ g;exact⟨a,vs,r.ref,j,λo=>k _ _ _ _ _ (m.trans (bW (by rw[j];exact trivial))) (d.frzI j p) yG (q o)⟩
  |_=>exact q.elim
 |_=>exact q.elim
end
noncomputable def qW {K:a5}:∀{c:ξ (aw × T)}{vs:ξ (aw × V)}{t:T},Iy K H c vs->aU f c=ab t->∃v,vs.lookup f=ab v/\At K H t v
 |[],_,_,_,e=>by cases e
 | (g,t')::r,_,t,.cons (b:=(g',v')) ⟨e1,rv⟩ rr,e=>by
  simp only at e1 rv
  subst e1
  unfold aU at e
  by_cases a:g'=f
  ·
   rw[z3 a] at e
   cases e
   exact⟨v',by rw[F1,show (f==g')=ag from E1.mpr a.symm],rv⟩
  ·
   rw[zD a] at e
   obtain⟨v,d,q⟩:=qW rr e
   exact⟨v,by rw[F1,show (f==g')=ai from EB.mpr (a6 a)];exact d,q⟩
theorem oK {K:a5}:∀{c:ξ (aw × T)}{vs:ξ (aw × V)},Iy K H c vs->aU f c=af->vs.lookup f=af
 |[],_,.nil,_=>rfl
 | (g,t')::r,_,.cons (b:=(g',v')) ⟨e1,rv⟩ rr,e=>by
  simp only at e1 rv
  subst e1
  unfold aU at e
  by_cases a:g'=f
  ·
   rw[z3 a] at e;cases e
  ·
   rw[zD a] at e
   rw[F1,show (f==g')=ai from EB.mpr (a6 a)]
   exact oK rr e
noncomputable def fc (f:aw) (v:T):ξ (aw × T)->ξ (aw × T)
 |[]=>[(f,v)]
 | (g,x)::r=>if g=f then (g,v)::r else (g,x)::fc f v r
noncomputable def vH {K:a5} (c:At K H t v):∀{d:ξ (aw × T)}{vs:ξ (aw × V)},Iy K H d vs->Iy K H (fc f t d) (iB f v vs)
 |[],_,.nil=>.cons ⟨rfl,c⟩ .nil
 | (g,t')::r,_,.cons (b:=(g',v')) ⟨e1,r1⟩ rr=>by
  simp only at e1 r1
  subst e1
  unfold fc iB
  by_cases a:g'=f
  ·
   rw[z3 a,z3 a];exact .cons ⟨rfl,c⟩ rr
  ·
   rw[zD a,zD a];exact .cons ⟨rfl,r1⟩ (vH c rr)
structure C7 (K:a5) (C:ae) (ns:List aw):Prop where
 cls:FY K C
 no:∀n∈ns,ML K C n
structure Ix (P:bb) (w:bg) (K:a5) (mg:aw->Option av) (base:cn) (C:ae) (k:Nat) (m:aw) (ps:List aw) (sp:AM):Prop where
 cls:FY K C
 ex:∃(f:ae) (fd:d4),Ki K C m f/\A5 K fd ps []/\iU P w K mg base k f fd ps sp
structure Pw (P:bb) (w:bg) (K:a5) (mg:aw->Option av) (base:cn) (C:ae) (k:Nat) (x:aw) (ps:List aw) (sp:AM):Prop where
 at_:mg x=ab (.ref C)
 ex:∃(f:ae) (fd:d4),Mk K C f/\A5 K fd ps []/\iU P w K mg base k f fd ps sp
structure GM (K:a5) (C:ae) (m qual:aw) (st:ez) (ps:List aw) (f:ae) (fd:d4):Prop where
 cls:FY K C
 fn:G1 K m qual st f fd
 b:A5 K fd ps []
 mt:Ki K C m f
structure GI (K:a5) (mg:aw->Option av) (C:ae) (x qual:aw) (st:ez) (ps:List aw) (f:ae) (fd:d4):Prop where
 mk_:Mk K C f
 fn:G1 K "__init__" qual st f fd
 b:A5 K fd ps []
 at_:mg x=ab (.ref C)
theorem zc.wrO {K:a5} (s:zc K H3 H) (i:H a=ab (.ins C d vs)) (r:Iy K H g c):zc K (fY H3 a (.ins C g)) (As H a (.ins C d c)):=λb o e=>by
 have h:t6 K H (As H a (.ins C d c)):=bW (by rw[i];exact trivial);by_cases f:b=a
 .subst f;rw[aq] at e;cases e;exact⟨d,c,aZ,r.mono h⟩
 rw[aF f] at e;exact (s b o e).stay h λu q=>by rw[aL f];exact q
section
variable {u? x? w? p:gE}{H:lq}
def Vb (C:ae) (f:aw) (u:ζ O3) (H:lq) (Q:AC):Prop:=match u with
 |some (.ins C' fs)=>C'=C/\oq (aU f fs) λt=>Q t H
 |_=>False
def Y4 (C:ae) (f:aw) (x:T) (H:lq) (Q:AC):Prop:=match x with
 |.ref a=>Vb C f (H a) H Q
 |_=>False
def QJ (C:ae) (f:aw) (a:AF):AF:=λσ H Q=>a σ H λx b=>Y4 C f x b Q
theorem HN (a:ae):Y4 C f (.ref a) H Q=Vb C f (H a) H Q:=rfl
theorem Vc (a:ξ (aw × T)):Vb C f (ab (.ins C a)) H Q=oq (aU f a) λt=>Q t H:=propext ⟨λh=>h.2,λh=>⟨rfl,h⟩⟩
theorem di (c:C7 X.K C ns) (B:AA X e ta) (x:f∈ns:=by simp) (w:da e f X.env (bt e X.env)=bt e X.env:=by rfl):AA X (.Attribute e f u?) (QJ C f ta):=by
 refine PE.imp (S6 B w) ?_;rintro σ H Q ⟨i,H3,Q3,p,z,h,k⟩;refine⟨i,H3,_,p,z,h,λv H' t d E b r q=>?_⟩;cases t with
 |ref a =>
  rw[HN] at q;cases l:d a with
  |none=>rw[l] at q;exact q.elim
  |some s =>
  rw[l] at q;cases s with
  |ins n m =>
   obtain⟨rfl,g⟩:=(show n=C/\oq (aU f m) λt=>Q3 t d from q);clear q;obtain⟨u,vs,F,o⟩:=b a _ l;cases j:aU f m with
   |none=>rw[j] at g;exact g.elim
   |some t =>
   rw[j,eY] at g;obtain⟨D,y,A⟩:=qW o j;exact⟨a,n,u,vs,D,r.ref,F,c.cls,c.no f x,y,k _ _ _ _ E b A g⟩
  |_=>exact q.elim
 |_=>exact q.elim
def TW (C:ae) (f:aw) (a:ae) (y:T) (u:ζ O3) (H:lq) (Q:lq->Prop):Prop:=match u with
 |some (.ins C' fs)=>C'=C/\fs.length<1000/\Q (fY H a (.ins C (fc f y fs)))
 |_=>False
def X9 (C:ae) (f:aw) (x y:T) (H:lq) (Q:lq->Prop):Prop:=match x with
 |.ref a=>TW C f a y (H a) H Q
 |_=>False
def QK (C:ae) (f:aw) (a c:AF):Co:=λD σ H=>c σ H λy b=>a σ b λx d=>X9 C f x y d λH3=>D.nx σ H3
theorem QL (a:ae) (y:T) (Q:lq->Prop):X9 C f (.ref a) y H Q=TW C f a y (H a) H Q:=rfl
theorem Y5 (a:ae) (y:T) (b:ξ (aw × T)) (Q:lq->Prop):TW C f a y (ab (.ins C b)) H Q=(b.length<1000/\Q (fY H a (.ins C (fc f y b)))):=propext ⟨λh=>h.2,λh=>⟨rfl,h⟩⟩
theorem sH (c:C7 X.K C ns) (F:AA X o ta) (z:AA X value tv) (M:f∈ns:=by simp) (I:eh value (ab (.Attribute o f x?)) u?.line X.env=ce ai:=by rfl):EV X (.Assign [.Attribute o f x?] value u?) (QK C f ta tv):=by
 refine PS.imp (S7 F z I) ?_;rintro D σ H ⟨e,H3,J,l,N,h,A,_⟩;refine⟨e,H3,_,l,N,h,λy R O m g n E P=>⟨e,m,_,l.mono g,n,P,λx u G i b j L d=>?_⟩⟩;cases G with
 |ref a =>
  rw[QL] at d;cases r:i a with
  |none=>rw[r] at d;exact d.elim
  |some B =>
  rw[r] at d;cases B with
  |ins p w=>obtain⟨rfl,Q,q⟩:=(show p=C/\w.length<1000/\J.nx e (fY i a (.ins C (fc f O w))) from d);obtain⟨v,vs,s,t⟩:=j a _ r;have k:t6 X.K u (As u a (.ins p v (iB f y vs))):=bW (by rw[s];exact trivial);exact⟨a,p,v,vs,L.ref,s,c.cls,c.no f M,by rw[<- EO t];exact Q,A _ _ _ _ (g.trans (b.trans k)) (l.mono (g.trans (b.trans k))) (j.wrO s (vH (E.mono b) t)) q⟩
  |_=>exact d.elim
 |_=>exact d.elim
def TZ (C:ae) (m:aw) (u:ζ O3) (q:Prop):Prop:=match u with
 |some (.ins C' fs)=>C'=C/\aU m fs=af/\q
 |_=>False
def XZ (C:ae) (m:aw) (x:T) (H:lq) (q:Prop):Prop:=match x with
 |.ref a=>TZ C m (H a) q
 |_=>False
def HQ (C:ae) (m:aw) (sp:AM) (b:AF) (t:CF):AF:=λσ H Q=>b σ H λx a=>XZ C m x a (t σ a λvs c=>sp (x::vs) c Q)
theorem QM (a:ae) (q:Prop):XZ C m (.ref a) H q=TZ C m (H a) q:=rfl
theorem QQ (a:ξ (aw × T)) (q:Prop):TZ C m (ab (.ins C a)) q=(aU m a=af/\q):=propext ⟨λh=>h.2,λh=>⟨rfl,h⟩⟩
theorem jX {pl:Sem Bool}(M:Ix X.prog X.w X.K X.mg X.base C n m ps sp) (B:xr n X.A) (R:AA X o ta) (J:DL X (e::es) t)
  (i:aE (e::es) X.env=(ai,bt e X.env)::aE es X.env:=by rfl) (j:(cf u? (aE es X.env)).any (·.1)=ai:=by rfl)
  (y:bt (.Call (.Attribute o m w?) (e::es) [] u?) X.env=(do
   let ov <- bt o X.env
   ng w?.atName
   let (f,first) <- fh [ov] (rL ov m pl)
   callWith u? f first (cf u? (aE (e::es) X.env)) (pV u? (i5 [] X.env))):=by rfl) :
  AA X (.Call (.Attribute o m w?) (e::es) [] u?) (HQ C m sp ta t):=by
 obtain⟨f,W,S,O,F⟩:=M.ex;refine PE.imp (KJ (dvs:=[]) (E:=E0) R M.cls S F B O .nil Fg J i j y) ?_;rintro σ H Q ⟨d,H3,Q3,u,P,h,k⟩;refine⟨d,H3,_,u,P,h,λv H' t g x c r q=>?_⟩;cases t with
 |ref a =>
  rw[QM] at q;cases s:g a with
  |none=>rw[s] at q;exact q.elim
  |some G =>
  rw[s] at q;cases G with
  |ins Y V=>obtain⟨rfl,U,q⟩:=q;obtain⟨N,vs,T,z⟩:=c a _ s;refine⟨a,N,vs,r.ref,T,oK z U,d,g,_,u.mono x,c,q,λus L ts l b p I D=>?_⟩;show uT X.K sp (v::(us++[])) L Q E0;rw[C9];exact⟨_,l,Q3,.cons (r.mono b) I,p,D,k.at (x.trans b)⟩
  |_=>exact q.elim
 |_=>exact q.elim
def HR (C:ae) (sp:AM) (t:CF):AF:=λσ H Q=>t σ H λvs b=>∀a,b a=af->sp (.ref a::vs) (fY b a (.ins C [])) λv c=>v=.non/\Q (.ref a) c
theorem sI (M:Pw X.prog X.w X.K X.mg X.base C n x ps sp) (N:xr (n+1) X.A) (J:Gl X x) (l:DL X (e::es) t) (r:(x==("__debug__":aw))=ai:=by decide)
  (W:aE (e::es) X.env=(ai,bt e X.env)::aE es X.env:=by rfl) (s:(cf u? (aE es X.env)).any (·.1)=ai:=by rfl):AA X (.Call (.Name x p) (e::es) [] u?) (HR C sp t):=by
 obtain⟨f,fd,Z,m,F⟩:=M.ex;refine PE.imp (KN (dvs:=[]) (E:=E0) Z F N J M.at_ m .nil Fg l r W s) ?_;rintro σ H Q ⟨u,H3,Q3,L,U,h,k⟩;refine⟨u,H3,_,L,U,h,λus H' ts B Y g P q=>λa c l j D=>?_⟩;show uT X.K sp (V.ref a::(us++[])) _ _ E0;rw[C9];have I:As H' c (.own a) a=af:=by rw[aL (a6 D)];exact l
 have i:t6 X.K H' (As H' c (.own a)):=aO j;have d:t6 X.K (As H' c (.own a)) (As (As H' c (.own a)) a (.ins C c [])):=aO I;refine⟨zl a::ts,fY B a (.ins C []),_,.cons .ofRef (P.mono (i.trans d)),λb O o=>?_,q a (g.fresh l),λv H2 t2 R y z S G=>⟨?_,?_⟩⟩
 .by_cases m:b=a
  .subst m;rw[aq] at o;cases o;exact⟨c,[],aZ,.nil⟩
  rw[aF m] at o;exact ((g.new j).new I) b O o
 .obtain⟨rfl,_⟩:=G;exact S.non
 exact k _ _ _ _ (Y.trans (i.trans (d.trans y))) z .ofRef G.2
def QR:R3:=λx y H Q=>match y with
 |.non=>Q (.bl (!GH x)) H
 |_=>False
theorem Y6 (x:T) (H:lq) (Q:AC):QR x .non H Q=Q (.bl (!GH x)) H:=rfl
theorem HS:dU X (ba .IsNot) QR:=by
 refine AX.imp Kq ?_;rintro x y H Q ⟨c,ty,H3,Q3,b,f,d,h,k⟩;cases ty with
 |non =>
  refine⟨f.non,?_⟩;have e:decide (x=.non)=GH c:=by
   cases c with
   |non=>rw[b.non];rfl
   |int i=>rw[b.int];rfl
   |str i=>rw[b.str];rfl
   |bl i=>rw[b.bl];rfl
   |ref a=>rw[b.ref];rfl
   |tup ts=>obtain⟨a,vs,rfl,_⟩:=b.tup;rfl
   |ty n=>rw[b.ty];rfl
  rw[e];exact k _ _ _ _ .refl d .ofBl h
 |_=>exact h.elim
end
end L3
namespace L2
def k! (X:Cx) (H:Hp) (x y:V) (a b:ae) (k:NK) (ks:ξ (NK × ae × V)):Prop:=x=.ref a/\y=.ref b/\H a=ab (GB X.w a ks)/\CT X.K H ks/\EM X.K H k b
def Y7 (X:Cx) (neg:Bool) (f d:TE):TE:=λσ H Q=>f σ H λy e=>d σ e λx c=>∃a b k ks,k! X c x y a b k ks/\Q (.bl (if neg then !(fX ks k).isSome else (fX ks k).isSome)) c
theorem Vd (m:X.A.units+30<br) (e:PE X i ty) (n:PE X o td):PC X .In i o (Y7 X ai ty td):=by intro pins s σ H Q I h;refine AE (e pins s σ H _ I h) λf q ⟨y,w,z,g,C⟩=>AE (n pins q σ w _ z C) λu E ⟨x,l,v,r,a,b,k,ks,⟨j,t,D,c,B⟩,d⟩=>?_;subst j t;obtain rfl:u=aS a:=r;obtain rfl:f=aS b:=g;exact Zl m v D c B λF p=>⟨.bl (fX ks k).isSome,l,p,rfl,d⟩
theorem Dl (m:X.A.units+30<br) (e:PE X i ty) (n:PE X o td):PC X .NotIn i o (Y7 X ag ty td):=by intro pins s σ H Q I h;refine AE (e pins s σ H _ I h) λf q ⟨y,w,z,g,C⟩=>AE (n pins q σ w _ z C) λu E ⟨x,l,v,r,a,b,k,ks,⟨j,t,D,c,B⟩,d⟩=>?_;subst j t;obtain rfl:u=aS a:=r;obtain rfl:f=aS b:=g;exact Lh m v D c B λF p=>⟨.bl (!(fX ks k).isSome),l,p,rfl,d⟩
end L2
namespace L3
open L2
theorem vI:∀{ts:ξ T}{ns:ξ aw},oA ts=ab ns->ts=ns.map zi
 |[],_,h=>by cases h;rfl
 |t::r,ns,h=>by
  cases t with
  |str x =>
   obtain⟨l,e,rfl⟩:=Pv.mp (show (oA r).map (x::·)=ab ns from h)
   rw[vI e];rfl
  |_=>cases h
noncomputable def LV:T->ζ NK
 |.tup [.int i,.tup ts]=>(oA ts).map λns=>(i,ns)
 |_=>af
theorem HW (i:Int) (ns:ξ aw):LV (.tup [.int i,.tup (ns.map zi)])=ab (i,ns):=by show (oA (ns.map zi)).map _=_;rw[qP];rfl
noncomputable def vJ {K:a5}:∀{ns:ξ aw}{xs:ξ V},nP K H (ns.map zi) xs->xs=ns.map V.str
 |[],_,r=>r.inv0
 |n::ns,xs,r=>by
  obtain⟨v,a,rfl,q,b⟩:=r.inv
  rw[I_,<- vJ b,q.str]
def Aj {K:a5} (e:LV t=ab k) (r:At K H t v):∃a,v=.ref a/\EM K H k a:=by
 unfold LV at e;split at e
 .rename_i i ts;obtain⟨ns,m,rfl⟩:=Pv.mp e;rw[vI m] at r;obtain⟨a,xs,rfl,d,h⟩:=r.tup;obtain⟨n,s,rfl,p1,l⟩:=h.inv;obtain⟨o,q,rfl,f,j⟩:=l.inv;obtain⟨b,p,rfl,c,g⟩:=f.tup;rw[j.inv0,p1.int] at d;rw[vJ g] at c;exact⟨a,rfl,b,d,c⟩
 cases e
noncomputable def bU (k:NK):ξ (NK × T)->ζ T
 |[]=>af
 | (k',v)::r=>if k'=k then ab v else bU k r
noncomputable def qX (k:NK) (v:T) (kvs:ξ (NK × T)):ξ (NK × T):=if (bU k kvs).isSome then kvs.map (λx=>if x.1=k then (x.1,v) else x) else kvs++[(k,v)]
section
variable {K:a5}
def DF.look (r:DF K H kvs ks) (k:NK):(bU k kvs=af/\fX ks k=af)\/∃t v,bU k kvs=ab t/\fX ks k=ab v/\At K H t v:=by
 induction r with
 |nil=>exact .inl ⟨rfl,rfl⟩
 |@cons p q l m h _ b =>
 obtain⟨p1,g⟩:=p;obtain⟨f,i,d⟩:=q;obtain⟨e,_,a⟩:=h;dsimp only at e a;subst e;unfold bU;unfold fX at b |-;rw[F5];by_cases c:f=k
 .rw[z3 c,p_ (by exact c)];exact .inr ⟨g,d,rfl,rfl,a⟩
 rw[zD c,q_ (by exact c)];exact b
def DF.put (r:DF K H kvs ks) (i:EM K H k b) (j:At K H t v):DF K H (qX k t kvs) (Fz ks k b v):=by
 have e:(bU k kvs).isSome=(fX ks k).isSome:=by rcases r.look k with ⟨a,b⟩ | ⟨t,v,a,b,_⟩ <;> rw[a,b] <;> rfl
 unfold qX Fz;rw[e];split
 .rename_i c;clear e c;induction r with
  |nil=>exact .nil
  |@cons p q l m h _ g =>
  obtain⟨p1,s⟩:=p;obtain⟨o,u,n⟩:=q;obtain⟨e,d,f⟩:=h;dsimp only at e f d;subst e;refine .cons ?_ g;dsimp only;split <;> exact⟨rfl,d,by assumption⟩
 exact KF r ⟨rfl,i,j⟩
theorem DF.all (r:DF K H kvs ks):CT K H ks:=by
 induction r with
 |nil=>intro x a;exact nomatch a
 |cons h _ b =>
 intro x a;rcases v_.mp a with rfl | a
 .exact h.2.1
 exact b x a
end
def QI (u:ζ O3) (w:bg) (Q:ξ (NK × T)->Prop):Prop:=match u with
 |some (.dcn w' kvs)=>w'=w/\Q kvs
 |_=>False
def nq (w:bg) (x y:T) (H:lq) (Q:ae->NK->ξ (NK × T)->Prop):Prop:=match x with
 |.ref a=>oq (LV y) λk=>QI (H a) w (Q a k)
 |_=>False
theorem aa8 (w:bg) (a:ae) (i:Int) (ns:ξ aw):nq w (.ref a) (.tup [.int i,.tup (ns.map zi)]) H Q=QI (H a) w (Q a (i,ns)):=by unfold nq;rw[HW];rfl
theorem Y8 (w:bg) (kvs:ξ (NK × T)):QI (ab (.dcn w kvs)) w Q=Q kvs:=by show (w=w/\Q kvs)=Q kvs;rw[eq_self,true_and]
def Ve {K:a5} (l:zc K H3 H) (r:At K H f x) (p:At K H g y) (q:nq w f g H3 Q):
  ∃a b k kvs ks,x=.ref a/\y=.ref b/\H a=ab (GB w a ks)/\H3 a=ab (.dcn w kvs)/\DF K H kvs ks/\EM K H k b/\Q a k kvs:=by
 cases f with
 |ref a =>
  cases e:LV g with
  |none=>unfold nq at q;rw[e] at q;exact q.elim
  |some k =>
  unfold nq at q;rw[e] at q;have c:QI (H3 a) w (Q a k):=q;cases d:H3 a with
  |none=>rw[d] at c;exact c.elim
  |some n =>
  rw[d] at c;cases n with
  |dcn s kvs=>obtain⟨rfl,m⟩:=c;obtain⟨ks,o,j⟩:=l a _ d;obtain⟨b,h,i⟩:=Aj e p;exact⟨a,b,k,kvs,ks,r.ref,h,o,d,j,i,m⟩
  |_=>exact c.elim
 |_=>exact q.elim
def yH (w:bg) (neg:Bool) (b d:AF):AF:=λσ H Q=>b σ H λy c=>d σ c λx a=>nq w x y a λ_ k kvs=>Q (.bl (if neg then !(bU k kvs).isSome else (bU k kvs).isSome)) a
def Ak {neg:Bool}{K:a5}{f g:T}{Q3:AC} (j:zc K H3 H) (o:At K H f x) (n:At K H g y) (q:nq w f g H3 λ_ k kvs=>Q3 (.bl (if neg then !(bU k kvs).isSome else (bU k kvs).isSome)) H3):
  ∃a b k ks c,(x=.ref a/\y=.ref b/\H a=ab (GB w a ks)/\CT K H ks/\EM K H k b)/\(if neg then !(fX ks k).isSome else (fX ks k).isSome)=c/\Q3 (.bl c) H3:=by
 obtain⟨a,b,k,kvs,ks,m,i,h,_,d,p,l⟩:=Ve j o n q;refine⟨a,b,k,ks,_,⟨m,i,h,d.all,p⟩,rfl,?_⟩;have e:(bU k kvs).isSome=(fX ks k).isSome:=by rcases d.look k with ⟨a,b⟩ | ⟨t,v,a,b,_⟩ <;> rw[a,b] <;> rfl
 rwa [e] at l
theorem MP (r:X.w=w) (v:X.A.units+30<br) (t:AA X i ti) (z:AA X o td) (F:bP .In o=ai:=by rfl):AA X (.Compare i [.In] [o] u?) (yH w ai ti td):=by subst r;refine PE.imp (Ej (Vd v t z) F) ?_;rintro σ H Q ⟨f,H3,Q3,p,E,h,k⟩;refine⟨f,H3,_,p,E,h,λy K L m j n u G=>⟨f,m,_,p.mono j,n,G,λx I J C d l B s=>?_⟩⟩;obtain⟨a,b,D,ks,c,g,e,q⟩:=Ak l B (u.mono d) s;exact⟨a,b,D,ks,g,by rw[e];exact k _ _ _ _ (j.trans d) l .ofBl q⟩
end L3
namespace L2
abbrev PN:=NK × ae × av
noncomputable def EF (ps:ξ PN):ξ PN:=ps.foldl (λxs p=>gL xs p.1 p.2.1 p.2.2) []
theorem vK (ps:ξ PN) (p:PN):EF (ps++[p])=gL (EF ps) p.1 p.2.1 p.2.2:=by unfold EF;rw[PR];rfl
theorem sJ (ps:ξ PN):(EF ps).length<=ps.length/\∀x∈EF ps,∃p∈ps,p.1=x.1/\p.2.1=x.2.1:=by
 have:∀(n:Nat) (ps:ξ PN),ps.length=n->(EF ps).length<=n/\∀x∈EF ps,∃p∈ps,p.1=x.1/\p.2.1=x.2.1:=λn=>by
  induction n with
  |zero=>intro ps h;rw[List.length_eq_zero_iff.mp h];exact⟨o_ _,λx a=>nomatch a⟩
  |succ n f =>
  intro ps h;have b:ps≠[]:=λz=>by rw[z] at h;cases h
  have e:=gc b;rw[<- e,vK];obtain⟨j,g⟩:=f ps.dropLast (by rw[fz];omega);have d:∀x∈EF ps.dropLast,∃p∈ps.dropLast++[ps.getLast b],p.1=x.1/\p.2.1=x.2.1:=λx a=>by obtain⟨p,c,z⟩:=g x a;exact⟨p,FU _ c,z⟩
  unfold gL;split
  .refine⟨by rw[g_];omega,λx a=>?_⟩;obtain⟨y,i,rfl⟩:=t_.mp a;obtain⟨p,c,z⟩:=d y i;refine⟨p,c,?_⟩;unfold zd;split <;> exact z
  refine⟨by rw[d_,z_];omega,λx a=>?_⟩;rcases x_.mp a with q | q
  .exact d x q
  rw[j_.mp q];exact⟨_,J_ _ (.head _),rfl,rfl⟩
 exact this _ ps rfl
def NM (prog:bb) (w:bg) (c:ξ ae) (h:cn) (k:NK) (a:ae):Prop:=∃o t b n,h.get? a=ab o/\o.cls=.type "tuple"/\o.data=.seq #[.int k.1 t,.ref b] n/\xb (bc prog w) h (uL k.2) b/\a∉c/\b∉c
theorem NM.is (x:NM prog w c h k a):DE prog w h k a:=let ⟨o,t,b,n,h1,h2,h3,h4,_⟩:=x;⟨o,t,b,n,h1,h2,h3,h4⟩
theorem NM.kp (x:NM prog w d h k a) (g:∀c o,c∉d->h.get? c=ab o->h'.get? c=ab o):NM prog w d h' k a:=by obtain⟨o,t,b,n,q,l,j,⟨r,e,s,p,m⟩,i,f⟩:=x;exact⟨o,t,b,n,g _ _ i q,l,j,⟨r,e,s,g _ _ f p,m⟩,i,f⟩
def Y9 (prog:bb) (w:bg) (a:ξ ae) (h:cn) (ps:ξ PN):Prop:=∀p∈ps,NM prog w a h p.1 p.2.1
theorem vL {h h':cn} (x:h.DictOfH (fP prog w) d (EF (ps.take i))) (s:∀o,h.get? d=ab o->h'.get? d=ab o) (g:∀c o,c∉a->h.get? c=ab o->h'.get? c=ab o) (l:Y9 prog w a h ps):h'.DictOfH (fP prog w) d (EF (ps.take i)):=by
 obtain⟨o,k,ep,r,j,b,f,_,e⟩:=x;refine⟨o,k,ep,s _ r,j,b,f,λy n=>?_,e⟩;obtain⟨p,q,t,m⟩:=(sJ _).2 y n;have:=((l p (fy q)).kp g).is
 rwa [t,m] at this
theorem yI {St:Nat->cn->Prop} (hu:A.units+30<br) (W:Walks prog w A.in1 J Y g n P St) (d:ae) (Z:d∉Y) (ps:ξ PN) (hn:ps.length=n) (h8:n<=am):
  ∀(k i:Nat) (s:aT),n - i=k->i<=n->St i s.heap->s.heap.DictOfH (fP prog w) d (EF (ps.take i))->Y9 prog w (d::g) s.heap ps ->
   (∀j v,P j v->∃q p,ps[j]?=ab q/\v=.ref p/\p∉d::g/\U5 s.heap p (.ref q.2.1) q.2.2) ->
   (∀s',Moved (d::g) (λa b=>b=a) s s'->s'.heap.DictOfH (fP prog w) d (EF ps)->R (.ok (.ret .none)) s') ->
   eJ (aI prog w) A (.builtin "dict.update.loop" ⟨[.ref d,.ref J,cy i,.none],[]⟩) R s:=by
 have D:=W.toS;have U:d∉g:=λh=>Z (D.sub _ h);have F:∀c∈g,c∈d::g:=λc f=>E_ _ f;intro k;induction k with
 |zero =>
  intro i s hk hi st I E L u;obtain rfl:i=n:=by omega
  refine N3 qU ?_;rw[mN ji _];show ax _ A.in1 (fI (.ref J) >>= _) _ _ s;refine a_ (D.done s _ _ st λs' x=>?_);show ax _ A.in1 (do Builtin.Dict.addKeywords d [];ret bp) _ _ s';have t:=vL I (λo=>x.heap d o U) (λc o f=>x.heap c o λz=>f (F c z)) E;rw[<- hn,OK] at t;exact a_ (i_ (i_ (u s' (x.mono F) t)))
 |succ k ih =>
 intro i s hk hi st I E L u;have V:i<n:=zo
 refine N3 qU ?_;rw[mN ji _];show ax _ A.in1 (fI (.ref J) >>= _) _ _ s;refine a_ (D.item i s _ _ V st λv s' pv N x=>?_);obtain⟨q,p,y,rfl,r,o,X,K,f,M⟩:=L i v pv;have l:∀c o,c∉d::g->s.heap.get? c=ab o->s'.heap.get? c=ab o:=λc o f=>x.heap c o λz=>f (F c z);have C:s'.heap.get? p=ab o:=l p _ r K;have t:=vL I (λo=>x.heap d o U) l E;have hq:q∈ps:=E5 y;refine a_ (DU ?_);refine a_ (m:=tryCatch (Builtin.Dict.pairItems (.ref p)) _) (wpAny_tryCatch ?_);unfold Builtin.Dict.pairItems;refine a_ (LW (T:="tuple") ⟨o,C,f⟩ ?_);rw[z3 zC];refine a_ (Gc C M (i_ ?_));have hm:(EF (ps.take i)).length<=am:=by have h1:=(sJ (ps.take i)).1;rw[F3] at h1;omega
 show ax _ A.in1 (fh [.ref q.2.1,q.2.2] (dictSet d (.ref q.2.1) q.2.2)) _ _ s';refine DU (ot (knd:=fP prog w) (show A.units+1+1<br by omega) ((E q hq).kp l).is t (λh' H Q=>?_) hm);have B:∀c o,c∉d::g->s.heap.get? c=ab o->h'.get? c=ab o:=λc o f e=>by rw[Q.2 c (λz:c=d=>f (by rw[z];exact A_))];exact l c o f e
 refine i_ ⟨nX ji _,ih (i+1) _ zo V (D.frame _ s' _ _ N (r9 _ _) λc f o e=>?_) ?_ (λp y=>(E p y).kp B) (λj v pj=>?_) λS G O=>?_⟩
 .rw[Q.2 c (λz:c=d=>Z (by rw[<- z];exact f))];exact e
 .rw[List.take_succ,y];show h'.DictOfH (fP prog w) d (EF (ps.take i++[q]));rw[vK];exact H
 .obtain⟨q,p,y,e,r,o,X,K,f,M⟩:=L j v pj;exact⟨q,p,y,e,r,o,X,B p _ r K,f,M⟩
 refine u S (Moved.trans D.gtrans ((x.mono F).then_heap (r9 _ _) λc o f e=>?_) G) O;rw[Q.2 c (λz:c=d=>f (by rw[z];exact A_))];exact e
theorem vM {K:Nat} (hu:A.units+40<br) (Z:A.handled=af) (O:s.heap.get? l=ab { cls:=.type "list",dict:=af,data:=.seq a K,slots:=M}) (W:ps.length=a.size) (h8:a.size<=am) (al:∀p∈ps,DE prog w s.heap p.1 p.2.1) (X:∀(j:Nat) (v:av),a[j]?=ab v->∃q p,ps[j]?=ab q/\v=.ref p/\U5 s.heap p (.ref q.2.1) q.2.2) (h:∀(h':cn) (tk:Nat),h'.DictOfH (fP prog w) s.heap.objs.size (EF ps)->(∀b o,s.heap.get? b=ab o->h'.get? b=ab o)->Q (.ref s.heap.objs.size) { s with heap:=h',toks:=tk}):
  ax (aI prog w) A (fT (.type "dict") [.ref l]) Q E s:=by
 refine vT (Q₁:=λu g=>u=.ref s.heap.objs.size/\g={ s with heap:=s.heap.push { cls:=.type "dict",data:=.dict #[]}}) F.kt_called_dict (F.kt_typeCall_dict_1 _) F.entry_dict_init (kt_code_dict_new _ ⟨rfl,rfl⟩) ?_;rintro u g ⟨rfl,rfl⟩;have c:(s.heap.push { cls:=.type "dict",data:=.dict #[]}).DictOfH (fP prog w) s.heap.objs.size []:=Heap.DictOfH.new s.heap;have m:(s.heap.push { cls:=.type "dict",data:=.dict #[]}).get? l=ab { cls:=.type "list",dict:=af,data:=.seq a K,slots:=M}:=b_ _ O;refine⟨c.typeIs,F.args_dict_init_2 _ _,?_⟩;unfold dt.«dict.__init__»;refine a_ ?_;unfold Builtin.Dict.selfAndRest;refine a_ (ln c.typeIs ?_);show ax _ _ (ce (s.heap.objs.size,[aS l])) _ _ _;refine i_ ?_;show ax _ _ (Builtin.Dict.updateFrom "dict.__init__" s.heap.objs.size (.ref l) [] .none) _ _ _;unfold Builtin.Dict.updateFrom;refine a_ (LW (T:="list") ⟨_,m,rfl⟩ ?_);rw[z3 zC];have r:A.in1.in1.handled=af:=by simp [Z]
 refine a_ (yx m r λi tk e y=>?_);show ax _ _ (do rule _;let it <- ya (.ref l);again (.builtin "dict.update.loop" ⟨[.ref s.heap.objs.size,it,cy 0,.none],[]⟩)) _ _ _;refine a_ (LY ?_);have k:=y.keeps _ _ m;refine a_ (NG (s:={ s with heap:=i,toks:=tk}) ⟨_,k,rfl,_,rfl⟩ (i_ ?_));have S:l<i.objs.size:=y_ k;have J:s.heap.objs.size<i.objs.size:=y_ (y.keeps s.heap.objs.size _ (l_ _ rfl));have H:l<s.heap.objs.size:=y_ O;have nB:s.heap.objs.size∉[i.objs.size,l]:=by
  intro z;simp only[v_,DI,DJ] at z;rcases z with z | z
  .exact AL z (H_ J)
  exact AL z (B9 H)
 have f:∀b o,s.heap.get? b=ab o->b∉[s.heap.objs.size,i.objs.size]:=λb o e z=>by
  have:=y_ e;simp only[v_,DI,DJ] at z;rcases z with z | z
  .exact AL z (H_ this)
  exact AL z (H_ (CM this J))
 have d:∀b o,s.heap.get? b=ab o->(i.push { cls:=.type "list_iterator",data:=.fields #[.ref l,.int 0 0]}).get? b=ab o:=λb o e=>b_ _ (y.keeps _ _ (b_ _ e));refine⟨nX ji _,?_⟩;refine yI (by have:A.in1.units=A.units+1:=rfl;omega) (Walks.list r _ l (H_ S) a) s.heap.objs.size nB ps W h8 (a.size - 0) 0 _ zo (B8 _) ⟨⟨_,l_ _ rfl,rfl,rfl⟩,⟨_,b_ _ k,rfl,_,rfl⟩⟩ ?_ ?_ ?_ ?_
 .obtain⟨o,es,ep,x,i,P,Y,_,h6⟩:=c;exact⟨o,es,ep,b_ _ (y.keeps _ _ x),i,P,Y,(λ_ z=>nomatch z),h6⟩
 .intro p C;obtain⟨o,t,b,n,N,f2,f3,V,its',n',L,R⟩:=al p C;exact⟨o,t,b,n,d _ _ N,f2,f3,⟨V,its',n',d _ _ L,R⟩,f _ _ N,f _ _ L⟩
 .intro j v e;obtain⟨q,p,C,rfl,o,U,x,hc,hd⟩:=X j v e;exact⟨q,p,C,rfl,f _ _ x,o,U,d _ _ x,hc,hd⟩
 intro s' B I;obtain⟨h',g',d',D,G⟩:=s';have eg:g'=s.gens:=B.gens;have ed:d'=s.drawn:=B.drawn;have eo:G=s.os:=B.os;subst eg ed eo;exact⟨rfl,h h' D I λb o e=>B.heap b o (f b o e) (d b o e)⟩
noncomputable def Qr (l ks:ξ (NK × ae × V)):ξ (NK × ae × V):=ks.foldl (λl q=>Fz l q.1 q.2.1 q.2.2) l
theorem KA.mg:∀{ks:ξ (NK × ae × V)}{ps:ξ PN}{l:ξ (NK × ae × V)}{m:ξ PN},KA ks ps->KA l m->KA (Qr l ks) (ps.foldl (λxs p=>gL xs p.1 p.2.1 p.2.2) m)
 |_,_,_,_,.nil,h=>h
 | (k,b,v)::ks,(k',b',u)::ps,l,m,.cons ⟨e1,e2,rv⟩ r,h=>by
  dsimp only at e1 e2 rv
  subst e1 e2
  exact KA.mg (ks:=ks) (ps:=ps) r (h.put k b rv)
end L2
namespace L3
open L2
noncomputable def KI (l kvs:ξ (NK × T)):ξ (NK × T):=kvs.foldl (λl q=>qX q.1 q.2 l) l
theorem DF.mg {K:a5}:∀{kvs:ξ (NK × T)}{ks:ξ (NK × ae × V)}{l:ξ (NK × T)}{m:ξ (NK × ae × V)},DF K H kvs ks->DF K H l m->DF K H (KI l kvs) (Qr m ks)
 |_,_,_,_,.nil,h=>h
 | (k,t)::kvs,(k',b,v)::ks,l,m,.cons ⟨e1,hk,rv⟩ r,h=>by
  dsimp only at e1 hk rv
  subst e1
  exact DF.mg (kvs:=kvs) (ks:=ks) r (h.put hk rv)
noncomputable def HX:T->ζ (NK × T)
 |.tup [k,v]=>(LV k).map λk=>(k,v)
 |_=>af
noncomputable def vN:ξ T->ζ (ξ (NK × T))
 |[]=>ab []
 |t::r=>match HX t,vN r with
  |some p,ab ps=>ab (p::ps)
  |_,_=>af
theorem vO {a:Type}(f:a->Int × ξ aw) (g:a->T):∀xs:ξ a,vN (xs.map λx=>zk [.tup [.int (f x).1,.tup ((f x).2.map zi)],g x])=ab (xs.map λx=>(f x,g x))
 |[]=>rfl
 |x::r=>by
  rw[I_,I_]
  unfold vN
  rw[vO f g r]
  have e:HX (.tup [.tup [.int (f x).1,.tup ((f x).2.map zi)],g x])=ab (f x,g x):=by
   show (LV (.tup [.int (f x).1,.tup ((f x).2.map zi)])).map _=_
   rw[HW]
   rfl
  rw[e]
section
variable {X:Cx}
noncomputable def vP {σ:L2.St} (I:Inv X pins σ H s):∀{ts:ξ T}{us:ξ V}{a:ξ av}{kvs:ξ (NK × T)},vN ts=ab kvs->nP X.K H ts us->zS us a ->
  ∃(ks:ξ (NK × ae × V)) (ps:ξ PN),DF X.K H kvs ks/\KA ks ps/\ps.length=a.length/\(∀p∈ps,DE X.prog X.w s.heap p.1 p.2.1)/\∀(j:Nat) (v:av),a[j]?=ab v->∃q p,ps[j]?=ab q/\v=.ref p/\U5 s.heap p (.ref q.2.1) q.2.2
 |[],us,a,kvs,e,r,rv=>by
  cases e
  rw[r.inv0] at rv
  cases rv
  exact⟨[],[],.nil,.nil,rfl,(λ_ z=>nomatch z),λj v h=>by simp at h⟩
 |t::ts,us,a,kvs,e,r,rv=>by
  unfold vN at e
  split at e
  ·
   rename_i p y c A
   cases e
   obtain⟨v,ur,rfl,i,C⟩:=r.inv
   cases rv with
   |cons q D =>
    rename_i it itr
    obtain⟨ks,ps,a1,Q,L,P,S⟩:=vP I A C D
    unfold HX at c
    split at c
    ·
     rename_i tk tv
     obtain⟨u,R,rfl⟩:=Pv.mp c
     obtain⟨Z,xs,rfl,x,B⟩:=i.tup
     obtain⟨k0,r1,rfl,rk,k⟩:=B.inv
     obtain⟨Y,r2,rfl,N,f⟩:=k.inv
     obtain⟨b,rfl,m⟩:=Aj R rk
     rw[f.inv0] at x
     cases q
     obtain⟨l,g,⟨o,E,U,n,M⟩,_⟩:=I.tuple x
     cases g with
     |cons G z2 =>
      rename_i O l2
      cases z2 with
      |cons F J =>
       rename_i W l3
       cases J
       cases (show O=aS b from G)
       refine⟨(u,b,Y)::ks,(u,b,W)::ps,.cons ⟨rfl,m,N⟩ a1,.cons ⟨rfl,rfl,F⟩ Q,by simp [L],λp d=>?_,λj w h=>?_⟩
       ·
        rcases v_.mp d with rfl | d
        ·
         exact m.is I
        ·
         exact P p d
       ·
        cases j with
        |zero =>
         simp only[OZ,SA] at h
         subst h
         exact⟨_,Z,rfl,rfl,o,n,E,U,M⟩
        |succ j =>
         rw[Mb] at h |-
         exact S j w h
    ·
     cases c
  ·
   cases e
def UN (w:bg) (o:ζ O3) (H:lq) (Q:AC):Prop:=match o with
 |some (.lst xs)=>oq (vN xs) λkvs=>∀p,H p=af->Q (.ref p) (fY H p (.dcn w (KI [] kvs)))
 |_=>False
def Al (w:bg):ξ T->lq->AC->Prop:=λts H Q=>match ts with
 |[.ref a]=>UN w (H a) H Q
 |_=>False
theorem Am (w:bg) (a:ae) (H:lq) (Q:AC):Al w [.ref a] H Q=UN w (H a) H Q:=rfl
theorem QS (w:bg) (xs:ξ T) (H:lq) (Q:AC):UN w (ab (.lst xs)) H Q=oq (vN xs) λkvs=>∀p,H p=af->Q (.ref p) (fY H p (.dcn w (KI [] kvs))):=rfl
theorem HY (q:X.w=w) (B:X.A.units+40<br) (P:X.calm=ag):dB X (.type "dict") (Al w):=by
 subst q;intro pins s σ H xs us Q I N h;obtain⟨ts,H3,Q3,r,l,h,k⟩:=h
 match ts,h,r with
 |[.ref a],h,r =>
 obtain⟨v,rfl,i⟩:=r.one';obtain⟨u,rfl,p⟩:=AU N;rw[i.ref] at p;cases p;rw[Am] at h;cases e:H3 a with
 |none=>rw[e] at h;exact h.elim
 |some o =>
 rw[e] at h;cases o with
 |lst F =>
  rw[QS] at h;cases g:vN F with
  |none=>rw[g] at h;exact h.elim
  |some kvs =>
  rw[g,eY] at h;obtain⟨ys,U,t⟩:=l a _ e;obtain⟨z,T,n,y,m,V⟩:=I.lstM U;obtain⟨ks,ps,W,M,D,K,O⟩:=vP I g t y;have f:H s.heap.objs.size=af:=I.hok.fresh (o_ _);refine vM B (I.ok.hd P) V (by rw[m_];exact D) (by rw[m_];omega) K (λj v e=>O j v (by simpa using e)) λh' tk G J=>?_;have d:KA (Qr [] ks) (EF ps):=KA.mg M .nil;have R:(Qr [] ks).length<=am:=by have Z:=EO d;have h2:=(sJ ps).1;omega
  obtain⟨o,L,ep,x,C,S,Y,_,E⟩:=G;refine⟨.ref s.heap.objs.size,_,I.laid (a:=s.heap.objs.size) (h':=h') (t':=tk) J (o_ _) (GB.ok (w:=X.w) ⟨R,EB.mpr (B9 I.big),_,d,o,L,ep,x,C,S,Y,E⟩),rfl,?_⟩;refine k _ _ _ _ (aO f) (λc u z=>?_) .ofRef (h _ (l.fresh f));by_cases b:c=s.heap.objs.size
  .subst b;rw[aq] at z;cases z;exact⟨_,aZ,(DF.mg W .nil).mono (aO f)⟩
  rw[aF b] at z;exact l.new f c u z
 |_=>exact h.elim
end
def Ia:R3:=λx y H Q=>match x,y with
 |.tup [.int i,.int j],.tup [.int k,.int l]=>Q (.bl (if i=k then decide (j<l) else decide (i<k))) H
 |_,_=>False
theorem Za (i j k l:Int):Ia (.tup [.int i,.int j]) (.tup [.int k,.int l]) H Q=Q (.bl (if i=k then decide (j<l) else decide (i<k))) H:=rfl
theorem Vf (C:X.A.units+30<br):dU X (ba .Lt) Ia:=by
 refine AX.imp (Te zo) ?_;rintro x y H Q ⟨D,J,H3,Q3,u,r,v,h,k⟩;unfold Ia at h;split at h
 .rename_i i j d l;obtain⟨a,xs,rfl,g,w⟩:=u.tup;obtain⟨b,G,rfl,f,s⟩:=r.tup;obtain⟨K,L,rfl,p1,z⟩:=w.inv;obtain⟨B,I,rfl,t,q⟩:=z.inv;obtain⟨v3,E,rfl,p,m⟩:=s.inv;obtain⟨M,F,rfl,n,o⟩:=m.inv;rw[q.inv0,p1.int,t.int] at g;rw[o.inv0,p.int,n.int] at f;refine⟨a,b,[i,j],[d,l],rfl,rfl,g,f,k _ _ _ _ .refl v .ofBl ?_⟩;have e:HT.lexLt [i,j] [d,l]=if i=d then decide (j<l) else decide (i<d):=by
   rw[HT.afe,HT.afe,HT.afc];by_cases c:j=l
   .rw[z3 c,show decide (j<l)=ai from q_ zo]
   rw[zD c]
  rw[e];exact h
 exact h.elim
theorem ZU (r:xr k A):A.units+40<br:=by have:=r.un;omega
theorem yJ (r:X.w=w) (v:X.A.units+30<br) (t:AA X i ti) (z:AA X o td) (F:bP .NotIn o=ai:=by rfl):DT X (.Compare i [.NotIn] [o] u?) (iD (yH w ag ti td)):=by subst r;refine PT.imp (m6 (Dl v t z) F) ?_;rintro σ H Q ⟨f,H3,Q3,p,E,h,k⟩;refine⟨f,H3,_,p,E,h,λy K L m j n u G=>⟨f,m,_,p.mono j,n,G,λx I J C d l B s=>?_⟩⟩;obtain⟨a,b,D,ks,c,g,e,q⟩:=Ak (neg:=ag) (w:=X.w) (Q3:=λx H'=>match x with | .bl k=>Q3 k H' | _=>False) l B (u.mono d) s;exact⟨a,b,D,ks,g,c,by rw[e],k _ _ _ (j.trans d) l q⟩
theorem MT (c:A.handled=af) (it t:ae) (f:t≠it) (a:Array av) (k:Nat) (b:a[k]?=af):
  lj prog w A it [it,t] k (λ_ _=>True) (λi h=>i=k/\h.IsListIter it t i/\h.IsList t a) where
 live:=λ_ _ st=>let ⟨o,ho,_⟩:=st.2.1;⟨o,ho⟩
 frame:=λ_ _ _ st b=>⟨st.1,st.2.1.at λo e=>b it Ap o e,st.2.2.at λo e=>b t Ap o e⟩
 item:=λi s Q E g st j=>AL st.1 (H_ g)
 done:=λs Q E st d=>wpAny_nextOf_list_end c st.2.1 st.2.2 b d
structure M1 where
 Sq:a5->Hp->ae->List V->Prop
 It:cn->ae->ae->Nat->Prop
 Is:cn->ae->Array av->Prop
 itAt:∀{h h':cn} {it a:ae} {i:Nat},It h it a i->(∀o,h.get? it=ab o->h'.get? it=ab o)->It h' it a i
 itOb:∀{h:cn} {it a:ae} {i:Nat},It h it a i->∃o,h.get? it=ab o/\∀v,o.data≠.cell v
 lt:∀{h:cn} {a:ae} {xs:Array av},Is h a xs->a<h.objs.size
 seq:∀{X:Cx} {pins:List (ae × dP)} {σ:L2.St} {H:Hp} {s:aT} {a:ae} {xs:List V},L2.Inv X pins σ H s->Sq X.K H a xs->∃its:List av,zS xs its/\Is s.heap a its.toArray
 inj:∀{X:Cx} {pins:List (ae × dP)} {σ:L2.St} {H:Hp} {s:aT} {a:ae} {xs ys:List V},L2.Inv X pins σ H s->Sq X.K H a xs->Sq X.K H a ys->xs=ys
 dr:∀{prog:bb} {w:bg} {A:dn} (hh:A.handled=af) (it t:ae) (hne:t≠it) (items:Array av),lj prog w A it [it,t] items.size (λi v=>items[i]?=ab v) (λi h=>It h it t i/\Is h t items)
 drE:∀{prog:bb} {w:bg} {A:dn} (hh:A.handled=af) (it t:ae) (hne:t≠it) (items:Array av) (k:Nat) (hk:items[k]?=af),lj prog w A it [it,t] k (λ_ _=>True) (λi h=>i=k/\It h it t i/\Is h t items)
noncomputable def kL:M1:=⟨BN,λh=>h.IsListIter,λh=>h.IsList,λx k=>x.at k,λ⟨o,e,_,d⟩=>⟨o,e,λv z=>by rw[d] at z;cases z⟩,λ⟨_,e,_⟩=>y_ e,λI q=>let ⟨its,r,p,_⟩:=I.list q;⟨its,r,p.isList⟩,λI a b=>I.list_inj a b,Draws.list,MT⟩
noncomputable def kT:M1:=⟨A3,λh=>h.IsTupleIter,λh=>h.IsTuple,λx k=>x.at k,λ⟨o,e,_,d⟩=>⟨o,e,λv z=>by rw[d] at z;cases z⟩,λ⟨_,e,_⟩=>y_ e,λI q=>let ⟨its,r,p,_⟩:=I.tuple q;⟨its,r,p⟩,λI a b=>I.tuple_inj a b,Us,Ut⟩
noncomputable def Vg (d e:M1) (K:a5) (a b:ae):It :=
 ⟨λi H=>∃xs c x y,d.Sq K H a xs/\e.Sq K H b c/\xs[i]?=ab x/\c[i]?=ab y,
  λi H v H'=>∃p x y,v=.ref p/\H p=af/\H'=As H p (.tup [x,y])/\(∀xs,d.Sq K H a xs->xs[i]?=ab x)/\∀c,e.Sq K H b c->c[i]?=ab y,
  λi H=>∃xs c,d.Sq K H a xs/\e.Sq K H b c/\(xs.length<=i\/c.length<=i)⟩
def H! (d c:M1) (a b z g f e j:ae) (i:Nat) (h:cn):Prop:=fA h z g f .none/\de h g (.ref e) (.ref j)/\(∃u v,de h f u v)/\d.It h e a i/\c.It h j b i
theorem Dm (g f:M1) {K:a5} (a b z n m j l:ae) (L:a<j/\b<j) (l2:j<l) (l3:l<n) (l4:n<m) (l5:m<z):
  D7 P w K (.Tuple B? x1 u?) (Vg g f K a b) [z,n,m,j,l] z (H! g f a b z n m j l) where
 mem:=A_
 obj:=λi h st c d=>by
  obtain⟨B,C,⟨u,v,G⟩,F,J⟩:=st
  simp only[v_,DI,DJ] at d
  rcases d with rfl | rfl | rfl | rfl | rfl
  ·
   exact⟨_,B,λv z=>by cases z⟩
  ·
   exact⟨_,C,λv z=>by cases z⟩
  ·
   exact⟨_,G,λv z=>by cases z⟩
  ·
   exact g.itOb F
  ·
   exact f.itOb J
 keep:=λi h h' st k=>by
  obtain⟨B,C,⟨u,v,G⟩,F,J⟩:=st
  exact⟨k z Ap _ B,k n Ap _ C,⟨u,v,k m Ap _ G⟩,g.itAt F λo e=>k j Ap o e,f.itAt J λo e=>k l Ap o e⟩
 item:=by
  intro X hP hw hK d i pins s σ H E I Z st S
  subst hP hw hK
  obtain⟨xs,ys,x,y,qx,qy,ex,ey⟩:=S
  obtain⟨t,rv,p1⟩:=g.seq I qx
  obtain⟨r,M,p2⟩:=f.seq I qy
  obtain⟨u,hu,ru⟩:=rv.get ex
  obtain⟨v,hv,rv'⟩:=M.get ey
  have B:=st.1
  have C:=st.2.1
  obtain⟨a0,b0,G⟩:=st.2.2.1
  have F:=st.2.2.2.1
  have J:=st.2.2.2.2
  have hu':t.toArray[i]?=ab u:=by simpa using hu
  have R:r.toArray[i]?=ab v:=by simpa using hv
  have D:DH z n m j l [j,a] [l,b]:=XE L l2 l3 l4 l5
  have d1:=g.dr (prog:=X.prog) (w:=X.w) (A:=X.A.in1) (I.ok.hd d) j a (H_ L.1) t.toArray
  have d2:=f.dr (prog:=X.prog) (w:=X.w) (A:=X.A.in1) (I.ok.hd d) l b (H_ (CM L.2 l2)) r.toArray
  refine Mj d1 d2 D B C G ⟨F,p1⟩ ⟨J,p2⟩ (Array.getElem?_eq_some_iff.mp hu').1 (Array.getElem?_eq_some_iff.mp R).1 λN O h' tk px py hz' hO' s1 s2 hT hsz kp=>?_
  have e1:N=u:=O_ (px.symm.trans hu')
  have e2:O=v:=O_ (py.symm.trans R)
  subst e1 e2
  refine⟨_,rfl,wpAny_letOwnedTupleGo_zip hz' λT U sb=>?_⟩
  have W:∀c o,c∉[z,m,j,l]->s.heap.get? c=ab o->T.get? c=ab o:=λc o nc e=>(sb.2 c λq=>nc (q▸A_)).trans (kp c o nc e)
  have p:∀c∈[z,m,j,l],c∈[z,n,m,j,l]:=λc d=>by simp only[v_,DI,DJ] at d |-;rcases d with q | q | q | q <;> simp [q]
  have Q:∀{c o},s.heap.get? c=ab o->s.heap.objs.size≠c:=λe=>B9 (y_ e)
  have lt1:∀{c:ae},c∈[z,n,m,j,l]->c≠s.heap.objs.size:=λ{c} d=>by
   simp only[v_,DI,DJ] at d
   rcases d with q | q | q | q | q <;> subst q
   ·
    exact a6 (Q B)
   ·
    exact a6 (Q C)
   ·
    exact a6 (Q G)
   ·
    obtain⟨o,e,_⟩:=g.itOb F;exact a6 (Q e)
   ·
    obtain⟨o,e,_⟩:=f.itOb J;exact a6 (Q e)
  have hTz:s.heap.objs.size≠z:=Q B
  have I1:Inv X pins σ (As H s.heap.objs.size (.tup [x,y])) { s with heap:=s.heap.push { cls:=.type "tuple",data:=.seq #[N,O]},toks:=tk} :=
   I.laid (t':=tk) (λb o e=>b_ _ e) (o_ _) (show W2 X.prog X.w _ _ _ (.tup [x,y]) from ⟨by show 2<=am;decide,[N,O],.cons ru (.cons rv' .nil),GV.new _ _⟩)
  have I2:Inv X pins σ (As H s.heap.objs.size (.tup [x,y])) { s with heap:=T,toks:=tk}:=mO (s:={ s with heap:=s.heap.push { cls:=.type "tuple",data:=.seq #[N,O]},toks:=tk}) (ch:=[z,m,j,l]) (t':=tk) I1 (λc o nc e=>by
   by_cases q:c=s.heap.objs.size
   ·
    subst q
    have Y:(s.heap.push { cls:=.type "tuple",data:=.seq #[N,O]}).get? s.heap.objs.size=ab o:=e
    rw[l_ _ rfl] at Y
    cases Y
    exact (sb.2 _ hTz).trans hT
   ·
    have Y:(s.heap.push { cls:=.type "tuple",data:=.seq #[N,O]}).get? c=ab o:=e
    rw[qV _ _ _ q] at Y
    exact W c o nc Y) λc d=>⟨by rw[aL (lt1 (p c d))];exact (Z c (p c d)).1,(Z c (p c d)).2⟩
  refine⟨.ref s.heap.objs.size,_,I2,rfl,⟨s.heap.objs.size,x,y,rfl,I.hok.fresh (o_ _),rfl,λzs hq=>by rw[g.inj I hq qx];exact ex,λzs hq=>by rw[f.inj I hq qy];exact ey⟩,?_,λc d=>by rw[aL (lt1 d)];exact (Z c d).1⟩
  have n1:n≠z:=D.ne.1
  refine⟨U,?_,⟨N,O,(sb.2 m D.ne.2.1).trans hO'⟩,g.itAt s1.1 λo e=>(sb.2 j D.i1z).trans e,f.itAt s2.1 λo e=>(sb.2 l D.i2z).trans e⟩
  refine W n _ ?_ C
  simp only[v_,DI,DJ,not_or]
  exact⟨D.ne.1,D.ne.2.2.1,a6 D.i1ti,a6 D.i2ti⟩
 done:=by
  intro X hP hw hK d i pins s σ H E I Z st S
  subst hP hw hK
  obtain⟨xs,ys,qx,qy,S⟩:=S
  obtain⟨t,rv,p1⟩:=g.seq I qx
  obtain⟨r,M,p2⟩:=f.seq I qy
  have B:=st.1
  have C:=st.2.1
  obtain⟨a0,b0,G⟩:=st.2.2.1
  have F:=st.2.2.2.1
  have J:=st.2.2.2.2
  have n1:=rv.length
  have n2:=M.length
  have D:DH z n m j l [j,a] [l,b]:=XE L l2 l3 l4 l5
  have V:∀(h':cn) (tk:Nat),(∀c o,c∉[z,m,j,l]->s.heap.get? c=ab o->h'.get? c=ab o)->(af:ζ av)=af/\Inv X pins σ H { s with heap:=h',toks:=tk}:=λh' tk kp=>⟨rfl,mO I kp λc d=>Z c (by
   simp only[v_,DI,DJ] at d |-;rcases d with q | q | q | q <;> simp [q])⟩
  have d1:=g.dr (prog:=X.prog) (w:=X.w) (A:=X.A.in1) (I.ok.hd d) j a (H_ L.1) t.toArray
  have d2:=f.dr (prog:=X.prog) (w:=X.w) (A:=X.A.in1) (I.ok.hd d) l b (H_ (CM L.2 l2)) r.toArray
  by_cases hi:xs.length<=i
  ·
   have e1:=g.drE (prog:=X.prog) (w:=X.w) (A:=X.A.in1) (I.ok.hd d) j a (H_ L.1) t.toArray i (by simp;omega)
   exact G5 (k:=i) e1 d2 D B C G ⟨rfl,F,p1⟩ ⟨J,p2⟩ (.inl rfl) V
  ·
   have hy:ys.length<=i:=S.resolve_left hi
   have e2:=f.drE (prog:=X.prog) (w:=X.w) (A:=X.A.in1) (I.ok.hd d) l b (H_ (CM L.2 l2)) r.toArray i (by simp;omega)
   exact G5 (k:=i) d1 e2 D B C G ⟨F,p1⟩ ⟨rfl,J,p2⟩ (.inr ⟨by simp;omega,rfl⟩) V
 self:=λ_ _ _ _ _ st h=>re st.1 h
noncomputable abbrev sO (t:ae):dP:={ cls:=.type "list_iterator",data:=.fields #[.ref t,.int 0 0]}
theorem yK (a b:ae) (xs n:Array av) :
  Meets (dt.«zip.__new__» ⟨[.type "zip",.ref a,.ref b],[]⟩) (λ_ R s=>s.heap.IsTuple a xs/\s.heap.IsList b n/\∀m i c f,m=s.heap.push (Ae a)->i=m.push (sO b)->c=i.push { cls:=.type "tuple",data:=.seq #[.ref s.heap.objs.size,.ref m.objs.size]}->f=c.push { cls:=.type "tuple",data:=.seq #[.none,.none]} ->
   R (.ok (.ret (.ref f.objs.size))) { s with heap:=f.push { cls:=.type "zip",data:=.fields #[.none,.bool ai,.bool ai,.ref i.objs.size,.ref c.objs.size]}}) :=
 .of_wp λprog w A R s h=>by
  obtain⟨p,g,d,tk,os⟩:=s;obtain⟨l,e,h⟩:=h;have o:=sub_zip;have j:Heap.IsTuple (Shared.heap ⟨p,g,d,tk,os⟩) a xs:=l;have k:Heap.IsList (Shared.heap ⟨p.push { cls:=.type "tuple_iterator",data:=.fields #[.ref a,.int 0 0]},g,d,tk,os⟩) b n:=Heap.IsList.push e _
  wp_walk using g9 j,NG k
  exact⟨_,rfl,h _ _ _ _ rfl rfl rfl rfl⟩
section
variable {s:aT}
theorem Do (t:s.heap.IsTuple f xs) (m:s.heap.IsList e x) (h:∀h' i1 i2 ti to z,fA h' z ti to .none->de h' ti (.ref i1) (.ref i2)->de h' to .none .none->h'.IsTupleIter i1 f 0->h'.IsListIter i2 e 0 ->
   s.heap.objs.size<=i1->i1<i2->i2<ti->ti<to->to<z->(∀c o,s.heap.get? c=ab o->h'.get? c=ab o)->Q (.ref z) { s with heap:=h'}):
  ax (aI prog w) A (fT (.type "zip") [.ref f,.ref e]) Q E s:=by
 refine callType_new F.called_zip zC (sg _ _) (s9 _ _) (λr=>mB r _ _) s_
  (yK f e xs x) ⟨t,m,λb d a i u k n j=>?_⟩
 have p:∀(h:cn) (o:dP),h.objs.size<(h.push o).objs.size:=λh o=>by rw[JI];exact HP _
 have v:=l_ i (o:={ cls:=.type "zip",data:=.fields #[.none,.bool ai,.bool ai,.ref d.objs.size,.ref a.objs.size]}) rfl;have D:i.get? a.objs.size=ab { cls:=.type "tuple",data:=.seq #[.none,.none]}:=by rw[j];exact l_ _ rfl
 have G:a.get? d.objs.size=ab { cls:=.type "tuple",data:=.seq #[.ref s.heap.objs.size,.ref b.objs.size]}:=by rw[n];exact l_ _ rfl
 have B:d.get? b.objs.size=ab (sO e):=by rw[k];exact l_ _ rfl
 have H:b.get? s.heap.objs.size=ab (Ae f):=by rw[u];exact l_ _ rfl
 have C:∀c o,s.heap.get? c=ab o->b.get? c=ab o:=λc o q=>by rw[u];exact b_ _ q
 have y:∀c o,b.get? c=ab o->d.get? c=ab o:=λc o q=>by rw[k];exact b_ _ q
 have l:∀c o,d.get? c=ab o->a.get? c=ab o:=λc o q=>by rw[n];exact b_ _ q
 have g:∀c o,a.get? c=ab o->i.get? c=ab o:=λc o q=>by rw[j];exact b_ _ q
 refine⟨⟨_,v,rfl⟩,h _ s.heap.objs.size b.objs.size d.objs.size a.objs.size i.objs.size v (b_ _ (g _ _ G)) (b_ _ D) ⟨_,b_ _ (g _ _ (l _ _ (y _ _ H))),rfl,rfl⟩ ⟨_,b_ _ (g _ _ (l _ _ B)),rfl,rfl⟩
  (o_ _) ?_ ?_ ?_ ?_ λc o q=>b_ _ (g _ _ (l _ _ (y _ _ (C _ _ q))))⟩
 .rw[u];exact p _ _
 .rw[k];exact p _ _
 .rw[n];exact p _ _
 rw[j];exact p _ _
end
def An (b a:M1) (prog:bb) (w:bg):Prop:=∀(A:dn) (E:av->aT->Prop) (s:aT) (t1 t2:ae) (xs ys:Array av) (Q:av->aT->Prop),b.Is s.heap t1 xs->a.Is s.heap t2 ys ->
 (∀h' d g f e z,fA h' z f e .none->de h' f (.ref d) (.ref g)->de h' e .none .none->b.It h' d t1 0->a.It h' g t2 0->s.heap.objs.size<=d->d<g->g<f->f<e->e<z->(∀c o,s.heap.get? c=ab o->h'.get? c=ab o)->Q (.ref z) { s with heap:=h'}) ->
 ax (aI prog w) A (fT (.type "zip") [.ref t1,.ref t2]) Q E s
theorem y!:An kL kL prog w:=λ_ _ _ _ _ _ _ _ p1 g h=>call_zip_2 p1 g λh' b e a f c _ d=>h h' _ _ _ _ _ b e a f c (o_ _) (HP _) (HP _) (HP _) (HP _) d
section
variable {X:Cx}{B?:ξ Expr}{x1:Nat}{C? u? p:gE}
def Zb (c d:M1) (K:a5) (t:TA):TI:=λσ H R=>t σ H λvs e=>∃a b,vs=[.ref a,.ref b]/\(∃xs,c.Sq K e a xs)/\(∃f,d.Sq K e b f)/\R (Vg c d K a b) e
theorem sS (S:An f d X.prog X.w) (A:Gl X "zip") (hm:X.mg "zip"=af) (C:bi "zip"=ab (.type "zip")) (E:PA X [ea,eb] t) (G:aE [ea,eb] X.env=[(ai,bt ea X.env),(ai,bt eb X.env)]:=by rfl) (i:aE [eb] X.env=[(ai,bt eb X.env)]:=by rfl):
  PI X (.Tuple B? x1 C?) (.Call (.Name "zip" p) [ea,eb] [] u?) (Zb f d X.K t):=by
 intro pins s σ H R I h;refine Call_ (gY I A hm C (MI (AE (E u? pins s σ H _ I h) λus J ⟨vs,u,g,V,q1⟩=>?_) (by rw[G,i]) (by rw[i];rfl)));obtain⟨a,b,e,⟨xs,M⟩,⟨ys,Z⟩,q⟩:=q1;subst e;cases V with
 |cons r l =>
 cases l with
 |cons B l =>
 cases l;cases r;cases B;obtain⟨its,rv,p1⟩:=f.seq g M;obtain⟨Q,F,n⟩:=d.seq g Z;refine S _ _ _ _ _ _ _ _ p1 n λh' m y o v z x hI W N Y j U T O L P=>re x ?_;have D:∀c,m<=c->m7 X pins u c:=λc k=>g.fpOk (S_ j k) (g.hok.fresh (S_ j k));refine⟨z,[z,o,v,m,y],_,_,u,rfl,g.kept (t':=J.toks) P,Dm f d a b z o v m y ⟨R_ (f.lt p1) j,R_ (d.lt n) j⟩ U T O L,⟨x,hI,⟨_,_,W⟩,N,Y⟩,λc k=>D c ?_,q⟩;simp only[v_,DI,DJ] at k;simp only[ae] at *;omega
def lB {K:a5} (C:∀H' c,t6 K H H'->zc K c H'->S c->(∃xs,h.Sq K H' a xs/\nP K H' ts xs)/\∃d,f.Sq K H' b d/\nP K H' us d):lO K (Vg h f K a b) (fB ts us) S H:=λH' c J u st=>by
 obtain⟨⟨xs,m,r⟩,d,o,q⟩:=C H' c J u st;have D:=r.length;have G:=q.length;refine⟨λi B=>⟨xs,d,m,o,by rw[vf] at B;omega⟩,λi t e=>?_⟩;rw[vd] at e;cases j:ts[i]? with
 |none=>rw[j] at e;cases e
 |some x =>
 cases k:us[i]? with
 |none=>rw[j,k] at e;cases e
 |some y =>
 rw[j,k] at e;cases e;obtain⟨v,s,E⟩:=r.get j;obtain⟨I,g,n⟩:=q.get k;refine⟨⟨xs,d,v,I,m,o,s,g⟩,λz F A=>?_⟩;obtain⟨p,M,N,rfl,l,rfl,L,w⟩:=A;have:=(L xs m).symm.trans s;cases this;have:=(w d o).symm.trans g;cases this;exact⟨aO l,u.new l,zc.newTup (H3:=c) l (.cons E (.cons n .nil))⟩
def S4 (o u:ζ O3) (a b:ae) (H:lq) (R:ξ T->(lq->Prop)->lq->Prop):Prop:=match o,u with
 |some (.lst xs),ab (.lst ys)=>R (fB xs ys) (λH'=>bK a xs H'/\bK b ys H') H
 |_,_=>False
def Ib (d:CF):Fn:=λσ H R=>d σ H λvs c=>match vs with
 |[.ref a,.ref b]=>S4 (c a) (c b) a b c R
 |_=>False
theorem Ao (l:Gl X "zip") (E:X.mg "zip"=af) (o:DL X [ea,eb] j) (t:aE [ea,eb] X.env=[(ai,bt ea X.env),(ai,bt eb X.env)]:=by rfl) (i:aE [eb] X.env=[(ai,bt eb X.env)]:=by rfl):
  FH X (.Tuple B? x1 C?) (.Call (.Name "zip" p) [ea,eb] [] u?) (Ib j):=by
 refine PI.imp (sS y! l E yd o t i) ?_;rintro σ H R ⟨e,H3,R3,n,A,h,k⟩;refine⟨e,H3,_,n,A,h,λvs H' ts c C d r q=>?_⟩
 match ts,q,r with
 |[.ref a,.ref b],q,r =>
  have g:(match c a,c b with
   |some (.lst xs),ab (.lst f)=>R3 (fB xs f) (λH'=>bK a xs H'/\bK b f H') c
   |_,_=>False):=q
  obtain⟨v,w,rfl,B,y⟩:=r.two'
  split at g
  ·
   rename_i xs f F m
   obtain⟨us,x,I⟩:=d.sqL (.inl F)
   obtain⟨u,D,G⟩:=d.sqL (.inl m)
   exact⟨a,b,by rw[B.ref,y.ref],⟨_,x⟩,⟨_,D⟩,k _ _ _ H' c C d (lB λ_ _ _ s z=>⟨s.sqL z.1,s.sqL z.2⟩) g⟩
  ·
   exact g.elim
def M3 (d:CF) {σ:AV}{H:lq}{R:ξ T->(lq->Prop)->lq->Prop}:Ib d σ H R=d σ H λvs c=>match vs with
 |[.ref a,.ref b]=>S4 (c a) (c b) a b c R
 |_=>False:=rfl
theorem QT (xs c:ξ T) (a b:ae) (H:lq) (R:ξ T->(lq->Prop)->lq->Prop):S4 (ab (.lst xs)) (ab (.lst c)) a b H R=R (fB xs c) (λH'=>bK a xs H'/\bK b c H') H:=rfl
end
open L2 PySem.W
section
variable {O:kR}
noncomputable def Kw (O:kR) (key:Nat->O.α) (n:Nat) {b:Type}:KasT b->(b->Prop)->Prop
 |.ret a,Q=>Q a
 |.ask i j k,Q=>i<n/\j<n/\Kw O key n (k (O.blt (key i) (key j))) Q
theorem Kw.bind {f:b->KasT c}{Q:c->Prop}:∀{t:KasT b},Kw O key n t (λa=>Kw O key n (f a) Q)->Kw O key n (t.bind f) Q
 |.ret a,h=>h
 |.ask i j k,h=>⟨h.1,h.2.1,Kw.bind h.2.2⟩
theorem Kw.wp (d:∀i j (C:Bool->aT->Prop),i<n->j<n->C (O.blt (key i) (key j)) s->b i j C s) {Q:c->Prop}{R:c->aT->Prop} (hq:∀a,Q a->R a s):
  ∀{t:KasT c},Kw O key n t Q->t.kasWp b R s
 |.ret a,h=>hq a h
 |.ask i j k,h=>d i j _ h.1 h.2.1 (Kw.wp d hq h.2.2)
structure Pm (n:Nat) (p:Array Nat):Prop where
 pm:p.toList.Perm (ay n)
 n1:1<=n
theorem Pm.sz (h:Pm n p):p.size=n:=by have:=h.pm.length_eq;rw[D_] at this;simpa using this
theorem Pm.lt (h:Pm n p) (i:Nat):p.getD i 0<n:=by
 rw[Pp];by_cases a:i<p.size
 .rw[IE a];exact Y_.mp (h.pm.mem_iff.mp Ap)
 rw[k5 zo];exact h.n1
theorem Pm.by (h:Pm n p) (e:q.Perm p):Pm n q:=⟨(Array.perm_iff_toList_perm.mp e).trans h.pm,h.n1⟩
noncomputable def Ky (O:kR) (key:Nat->O.α) (p:Array Nat) (i:Nat):O.α:=key (p.getD i 0)
def Up (O:kR) (key:Nat->O.α) (p:Array Nat) (k:Nat):Prop:=∀i j,i<=j->j<k->O.kle (Ky O key p i) (Ky O key p j)
def Dn (O:kR) (key:Nat->O.α) (p:Array Nat) (k:Nat):Prop:=∀i j,i<=j->j<k->O.kle (Ky O key p j) (Ky O key p i)
theorem Ky.congr (h:p[i]?=q[j]?):Ky O key p i=Ky O key q j:=by unfold Ky;rw[Pp,Pp,h]
theorem Ky.mir (a:j<=p.size) (k:Nat):Ky O key (kas_rev p i j) k=if i<=k/\k<j then Ky O key p (i+j - 1 - k) else Ky O key p k:=by
 have e:=getElem?_mirror_all (i:=i) a k;split at e <;> rename_i h
 .rw[z3 h];exact Ky.congr e
 rw[zD h];exact Ky.congr e
theorem Ky.mirEq (b:j<=p.size) (a:∀k,i<=k->k<j->Ky O key p k=Ky O key p (j - 1)) (k:Nat):Ky O key (kas_rev p i j) k=Ky O key p k:=by
 rw[Ky.mir b];split
 .rw[a _ zo zo,a k zo zo]
 rfl
theorem Ky.bub (f:s<p.size) (c:d<=s) (k:Nat):Ky O key (bubble p s d) k=if k=s - d then Ky O key p s else if s - d<k/\k<=s then Ky O key p (k - 1) else Ky O key p k:=by
 have e:=getElem?_bubble f d c k;by_cases a:k=s - d
 .rw[z3 a] at e |-;exact Ky.congr e
 rw[zD a] at e |-;by_cases b:s - d<k/\k<=s
 .rw[z3 b] at e |-;exact Ky.congr e
 rw[zD b] at e |-;exact Ky.congr e
theorem Pm.rev (h:Pm n p) (i j:Nat):Pm n (kas_rev p i j):=h.by (mirror_perm _ _ _ _)
theorem Up.one:Up O key p 1:=λi j a b=>by
 obtain rfl:i=j:=by omega
 exact KG _
theorem Up.more (f:1<=k) (h:Up O key p k) (e:O.kle (Ky O key p (k - 1)) (Ky O key p k)):Up O key p (k+1):=λi j c d=>by
 by_cases a:j<k
 .exact h i j c a
 obtain rfl:j=k:=by omega
 by_cases b:i=j
 .subst b;exact KG _
 exact ff (h i (j - 1) zo zo) e
theorem Dn.more (f:1<=k) (h:Dn O key p k) (e:O.kle (Ky O key p k) (Ky O key p (k - 1))):Dn O key p (k+1):=λi j c d=>by
 by_cases a:j<k
 .exact h i j c a
 obtain rfl:j=k:=by omega
 by_cases b:i=j
 .subst b;exact KG _
 exact ff e (h i (j - 1) zo zo)
theorem yL (b:Pm n p):∀(f a:Nat),1<=a->Up O key p a->(∀m,a<=m->m<=a+f->Up O key p m->m=a+f\/O.klt (Ky O key p m) (Ky O key p (m - 1))->Q m)->Kw O key n (kas_asc p f a) Q
 |0,a,_,h,k=>k a (o_ _) (o_ _) h (.inl rfl)
 |f+1,a,ha,h,k=>by
  refine⟨b.lt _,b.lt _,?_⟩
  cases e:O.blt (key (p.getD a 0)) (key (p.getD (a - 1) 0)) with
  |true=>exact k a (o_ _) zo h (.inr e)
  |false=>exact yL b f (a+1) zo (h.more ha e) λm i g c d=>k m zo zo c (d.imp (λq=>by omega) id)
theorem mR:∀(f:Nat) (p:Array Nat) (a q:Nat),Pm n p->1<=a->a+f<=n->Dn O key p a->q+1<=a->(∀i,a - (q+1)<=i->i<a->Ky O key p i=Ky O key p (a - 1)) ->
  (∀b m r,Pm n b->a<=m->m<=a+f->Dn O key b m->r+1<=m->(∀i,m - (r+1)<=i->i<m->Ky O key b i=Ky O key b (m - 1))->Q (b,m,r))->Kw O key n (kas_desc f p a q) Q
 |0,p,a,q,hp,_,_,h,hq,he,k=>k p a q hp (o_ _) (o_ _) h hq he
 |f+1,p,a,q,hp,ha,hn,h,hq,he,k=>by
  refine⟨hp.lt _,hp.lt _,?_⟩
  cases e:O.blt (key (p.getD a 0)) (key (p.getD (a - 1) 0)) with
  |true =>
   have A:a<=p.size:=by rw[hp.sz];omega
   have g:∀b:Array Nat,∀i,a+1 - (0+1)<=i->i<a+1->Ky O key b i=Ky O key b (a+1 - 1):=λb i v u=>by rw[show i=a+1 - 1 by omega]
   dsimp only
   rw[z3 rfl]
   by_cases c:q>0
   ·
    rw[z3 c]
    have t:=Ky.mirEq (O:=O) (key:=key) (i:=a - (q+1)) A he
    refine mR f _ (a+1) 0 (hp.rev _ _) zo zo (Dn.more ha (λi j v u=>by rw[t,t];exact h i j v u) (by rw[t,t];exact OP e)) zo (g _) λb m r s x y o d l=>k b m r s zo zo o d l
   ·
    rw[zD c]
    exact mR f p (a+1) 0 hp zo zo (h.more ha (OP e)) zo (g _) λb m r s x y o d l=>k b m r s zo zo o d l
  |false =>
   dsimp only
   rw[zD M_]
   refine⟨hp.lt _,hp.lt _,?_⟩
   cases B:O.blt (key (p.getD (a - 1) 0)) (key (p.getD a 0)) with
   |true=>exact k p a q hp (o_ _) zo h hq he
   |false =>
    dsimp only
    rw[zD M_]
    have w:Ky O key p a=Ky O key p (a - 1):=nK B e
    refine mR f p (a+1) (q+1) hp zo zo (h.more ha (by rw[w];exact KG _)) zo (λi v u=>?_) λb m r s x y o d l=>k b m r s zo zo o d l
    rw[show a+1 - 1=a by omega]
    by_cases z:i=a
    ·
     rw[z]
    ·
     rw[w];exact he i zo zo
theorem Aq (b:Pm n p) (l:1<=a) (d:a<=n) (h:Dn O key p a) (k:∀m p',Pm n p'->1<=m->m<=n->Up O key p' m->Q (m,p')):Kw O key n (kas_tail3 a n p) Q:=by
 refine Kw.bind (yL (b.rev 0 a) _ a l (λi j g f=>?_) λm g f e _=>k m _ (b.rev 0 a) zo zo e);have c:a<=p.size:=by rw[b.sz];exact d
 rw[Ky.mir c,Ky.mir c,z3 zo,z3 zo];exact h _ _ zo zo
theorem lV (s:Pm n p) (t:a+1<=n) (h:Dn O key p (a+1)) (k:∀m b,Pm n b->1<=m->m<=n->Up O key b m->Q (m,b)):Kw O key n (kas_descPart a n p) Q:=by
 refine Kw.bind (mR _ p (a+1) 0 s zo zo h zo (λi g d=>by rw[show i=a+1 - 1 by omega]) λb m r c w u l v o=>?_);dsimp only;have q:m<=b.size:=by rw[c.sz];omega
 by_cases e:r>0
 .rw[z3 e];have f:=Ky.mirEq (O:=O) (key:=key) (i:=m - (r+1)) q o;exact Aq (c.rev _ _) zo zo (λi j g d=>by rw[f,f];exact l i j g d) k
 rw[zD e];exact Aq c zo zo l k
theorem Ie (a:Pm n p) (k:∀m p',Pm n p'->1<=m->m<=n->Up O key p' m->Q (m,p')):Kw O key n (kas_count n p) Q:=by
 have v:=a.n1;refine Kw.bind (yL a _ 1 (o_ _) Up.one λm g u d q=>?_);by_cases h:m=n
 .rw[z3 (by simpa using h)];exact k m p a g zo d
 rw[zD (by simpa using h)];have c:O.klt (Ky O key p m) (Ky O key p (m - 1)):=q.resolve_left zo;by_cases l:m>1
 .rw[z3 l];refine⟨a.lt _,a.lt _,?_⟩;cases e:O.blt (key (p.getD 0 0)) (key (p.getD (m - 1) 0)) with
  |true=>exact k m p a g zo d
  |false =>
  dsimp only;rw[zD M_];have o:m<=p.size:=by rw[a.sz];omega
  have b:∀i,0<=i->i<m->Ky O key p i=Ky O key p (m - 1):=λi _ s=>nK (d i (m - 1) zo zo) (ff e (d 0 i zo s));have f:=Ky.mirEq (O:=O) (key:=key) (i:=0) o b;refine lV (a.rev _ _) zo (Dn.more g (λi j t r=>?_) ?_) k
  .rw[f,f,b i zo zo,b j zo zo];exact KG _
  rw[f,f];exact OP c
 rw[zD l];obtain rfl:m=1:=by omega
 refine lV a zo (Dn.more (o_ _) (λi j t r=>?_) (OP c)) k;obtain rfl:i=j:=by omega
 exact KG _
theorem oM (a:Pm n p):∀(f l r:Nat),l<=r->r<=k->r - l<=f->(∀i,i<l->O.kle (Ky O key p i) (Ky O key p k))->(∀i,r<=i->i<k->O.klt (Ky O key p k) (Ky O key p i))->Up O key p k ->
  (∀l,l<=k->(∀i,i<l->O.kle (Ky O key p i) (Ky O key p k))->(∀i,l<=i->i<k->O.klt (Ky O key p k) (Ky O key p i))->Q l)->Kw O key n (kas_place p k f l r) Q
 |0,l,r,h1,h2,h3,lo,hi,_,q=>by
  obtain rfl:l=r:=by omega
  exact q l h2 lo hi
 |f+1,l,r,h1,h2,h3,lo,hi,hu,q=>by
  unfold kas_place
  by_cases h:l ≥ r
  ·
   obtain rfl:l=r:=by omega
   rw[z3 h]
   exact q l h2 lo hi
  ·
   rw[zD h]
   refine⟨a.lt _,a.lt _,?_⟩
   cases e:O.blt (key (p.getD k 0)) (key (p.getD ((l+r) / 2) 0)) with
   |true=>exact oM a f l ((l+r) / 2) zo zo zo lo (λi b c=>KeyOrd.klt_of_klt_of_kle e (hu _ i b c)) hu q
   |false=>exact oM a f ((l+r) / 2+1) r zo h2 zo (λi b=>ff (hu i ((l+r) / 2) zo zo) e) hi hu q
theorem Ig:∀(f:Nat) (p:Array Nat) (k:Nat),Pm n p->k+f=n->Up O key p k->(∀b,Pm n b->Up O key b n->Q b)->Kw O key n (kas_bin f p k) Q
 |0,p,k,hp,e,h,q=>by
  obtain rfl:k=n:=by omega
  exact q p hp h
 |f+1,p,k,hp,e,h,q=>by
  have g:k<p.size:=by rw[hp.sz];omega
  refine Kw.bind (oM hp k 0 k (B8 _) (o_ _) zo (λ_ z=>AL z (sK _)) (λ_ v t=>AL t zo) h λl w o r=>?_)
  refine Ig f _ (k+1) (hp.by (bubble_perm _ _ _)) zo (λi j s u=>?_) q
  rw[Ky.bub g zo,Ky.bub g zo,show k - (k - l)=l by omega]
  by_cases c:i=l
  ·
   rw[z3 c]
   by_cases a:j=l
   ·
    rw[z3 a];exact KG _
   ·
    rw[zD a,z3 zo];exact OP (r _ zo zo)
  ·
   rw[zD c]
   by_cases m:l<i/\i<=k
   ·
    rw[z3 m,zD zo,z3 zo];exact h _ _ zo zo
   ·
    rw[zD m]
    by_cases a:j=l
    ·
     rw[z3 a];exact o i zo
    ·
     rw[zD a]
     by_cases d:l<j/\j<=k
     ·
      rw[z3 d];exact h _ _ zo zo
     ·
      rw[zD d];exact h _ _ s zo
theorem M4 (f:1<=n):Kw O key n (kas_sort n) λp=>Pm n p/\Up O key p n:=by
 have e:Pm n (List.toArray (ay n)):=⟨.refl _,f⟩;refine Kw.bind (Ie e λm p d j g c=>?_);dsimp only;by_cases h:m<n
 .rw[z3 h,show max m 1=m by omega];exact Ig _ p m d zo c λi a b=>⟨a,b⟩
 rw[zD h];obtain rfl:m=n:=by omega
 exact⟨d,c⟩
def ET (h h':cn):Prop:=∀b o,h.get? b=ab o->h'.get? b=ab o
end
theorem jk:bi "sorted"=ab (.builtin "sorted"):=by decide +kernel
def PF (O:kR) (key:Nat->O.α) (n:Nat) (ps:ξ Nat):Prop:=ps.Perm (ay n)/\∀i j,i<=j->j<n->O.kle (key (ps.getD i 0)) (key (ps.getD j 0))
theorem PF.of (h:Pm n p) (u:Up O key p n):PF O key n p.toList:=⟨h.pm,λi j a b=>by
 have:=u i j a b;unfold Ky at this;rw[Pp,Pp] at this;rw[k_,k_,MD,MD];exact this⟩
section
variable {s:aT}{O:kR}
theorem zy9:∀{vs:List av},vs.length<2->(vs.toArray.zip vs.toArray).map (·.2)=((ay vs.length).map λi=>vs.getD i bp).toArray
 |[],_=>by simp
 |[v],_=>by simp [sN]
theorem oN (m:s.heap.get? a=ab (a4 "list" vs.toArray c)) (q:vs.length<64) (M:2<=vs.length->∀h',(∀b o,b≠a->s.heap.get? b=ab o->h'.get? b=ab o)->ax (aI P w) A (pE vs.toArray) (λu s'=>s'={ s with heap:=h'}/\∀i j (C:Bool->aT->Prop),i<vs.length->j<vs.length->C (O.blt (key i) (key j)) { s with heap:=h'}->i6 P w A u vs i j C { s with heap:=h'}) (λ_ _=>False) { s with heap:=h'}) (h:∀ps,PF O key vs.length ps->R (.done (.ret .none)) { s with heap:=eK s.heap a vs (ps.map λi=>vs.getD i bp).toArray}):ax (aI P w) A (dt.«list.sort» ⟨[.ref a],[]⟩) R E s:=by
 have T:a<s.heap.objs.size:=y_ m;have L:vs.length<=am:=by rw[E8];omega
 rw[sB];refine a_ (NC m rfl ?_);refine a_ (ID m rfl ?_ (by rw[m_];omega) (B8 _));obtain⟨t,k⟩:∃t,(s.heap.update a (a9 λ_=>(#[]:Array av))).get? a=ab (a4 "list" #[] t):=⟨_,GN m λ_=>#[]⟩;refine a_ (MA k rfl ?_);refine a_ (hG ?_ L);refine a_ (IZ ?_ (B8 _));refine DU ?_;have f:(((s.heap.update a (a9 λ_=>(#[]:Array av))).push (a4 "tuple" vs.toArray 0)).push (a4 "list" #[] 0)).get? a=ab (a4 "list" #[] t):=b_ _ (b_ _ k);show ax (aI P w) A _ R E { s with heap:=((s.heap.update a (a9 λ_=>(#[]:Array av))).push (a4 "tuple" vs.toArray 0)).push (a4 "list" #[] 0)};dsimp only;by_cases g:vs.toArray.size<2
 .rw[z3 g,z3 g];refine a_ (i_ ?_);rw[lf];refine a_ (i_ ?_);dsimp only;rw[m_] at g;refine a_ (MA f rfl ?_);have e:=zy9 (vs:=vs) g
  show ax (aI P w) A (eT (.ref a) (λ_=>(vs.toArray.zip vs.toArray).map (·.2)) >>= _) R E _;rw[e];refine a_ (ID f rfl ?_ (B8 _) (by rw[m_,g_,D_];omega));simp only[Sj,u_,W_];refine i_ (h (ay vs.length) ⟨.refl _,λi j U S=>?_⟩);obtain rfl:i=j:=by omega
  exact KG _
 rw[zD g,zD g];rw[m_] at g;refine a_ (CA (M zo _ λb o F e=>b_ _ (b_ _ ((IM _ _ _ _ F).trans e))) (λu s' D=>?_) λ_ _ x=>x.elim);obtain⟨rfl,K⟩:=D;have N:=M4 (O:=O) (key:=key) (n:=vs.length) zo;refine a_ (CA (kat_run (G:=λp s'=>(Pm vs.length p/\Up O key p vs.length)/\s'={ s with heap:=((s.heap.update a (a9 λ_=>(#[]:Array av))).push (a4 "tuple" vs.toArray 0)).push (a4 "list" #[] 0)}) (Q:=λd s'=>∃p:Array Nat,ev d=p.map (kas_item (vs.toArray.zip vs.toArray))/\fq d=af/\(Pm vs.length p/\Up O key p vs.length)/\s'={ s with heap:=((s.heap.update a (a9 λ_=>(#[]:Array av))).push (a4 "tuple" vs.toArray 0)).push (a4 "list" #[] 0)}) rfl zo q (λz d s' V J H y=>⟨z,J,H,y.1,y.2⟩) (N.wp K λp l=>⟨l,rfl⟩)) ?_ λ_ _ e=>e);rintro⟨⟨⟩,d⟩ s' ⟨p,r,I,⟨l,B⟩,rfl⟩;dsimp only;rw[kat_snds rfl r];refine a_ (MA f rfl ?_);refine a_ (ID f rfl ?_ (B8 _) (by rw[m_,g_,l.pm.length_eq,D_];omega));rw[I];simp only[Sj,u_,W_];exact i_ (h _ (.of l B))
theorem yM:ET h (rj h vs out)/\∃c,(rj h vs out).get? (h.objs.size+1)=ab (a4 "list" out c):=by
 have f:((h.push (a4 "list" #[] 0)).update h.objs.size (a9 (·++vs.toArray))).objs.size=h.objs.size+1:=by rw[ky,t3]
 have d:(((h.push (a4 "list" #[] 0)).update h.objs.size (a9 (·++vs.toArray))).push (a4 "list" vs.toArray 0)).get? (h.objs.size+1)=ab (a4 "list" vs.toArray 0):=by rw[<- f];exact l_ _ rfl
 refine⟨λb o e=>?_,?_⟩
 .have a:b<h.objs.size:=y_ e;unfold rj eK;rw[IM _ _ _ _ (H_ (IU a))];refine b_ _ (b_ _ ?_);rw[IM _ _ _ _ (H_ (IU a))];refine b_ _ ?_;rw[IM _ _ _ _ (H_ a)];exact b_ _ e
 unfold rj eK;exact⟨_,GN (b_ _ (b_ _ (GN d λ_=>#[]))) λ_=>out⟩
theorem vQ (d:s.heap.IsTuple l vs.toArray) (f:vs.length<=am) (h:Q vs { s with heap:=(s.heap.push (a4 "list" #[] 0)).update s.heap.objs.size (a9 (·++vs.toArray))}):ax (aI P w) A (kH (.ref l)) Q E s:=by obtain⟨o,b,e,n,c⟩:=id d;unfold kH;refine a_ (tF (N3 ma ?_));refine a_ (m:=yb []) (IZ (i_ ⟨Code.quiet_builtin _ AQ,N3 rV ?_⟩));show ax _ _ (ci (.ref s.heap.objs.size) (.ref l) (.ref s.heap.objs.size)) _ _ { s with heap:=s.heap.push (a4 "list" #[] 0)};unfold ci;have a:(s.heap.push (a4 "list" #[] 0)).get? l=ab o:=b_ _ b;refine a_ (LW (T:="tuple") ⟨o,a,e⟩ ?_);rw[z3 (by rw[show (eM "tuple"==eM "tuple")=ag from rfl,Bool.or_true])];refine a_ (NC a c (a_ (NC (xs:=#[]) (n:=0) (l_ _ rfl) rfl ?_)));rw[zD Ap];refine a_ (ID (xs:=#[]) (n:=0) (l_ _ rfl) rfl ?_ (B8 _) (by show (#[]++vs.toArray).size<=am+1;simp only[Array.size_append,m_,EW];omega));refine i_ ?_;refine a_ (m:=load s.heap.objs.size) (om (GN (l_ _ rfl) _) ?_);show ax _ _ (ce ((#[]:Array av)++vs.toArray).toList) Q E _;rw[show ((#[]:Array av)++vs.toArray).toList=vs by simp];exact i_ h
theorem lW (a:s.heap.IsList l vs.toArray\/s.heap.IsTuple l vs.toArray) (b:vs.length<=am) (h:Q vs { s with heap:=(s.heap.push (a4 "list" #[] 0)).update s.heap.objs.size (a9 (·++vs.toArray))}):ax (aI P w) A (kH (.ref l)) Q E s:=by
 rcases a with a | a
 .exact collect_list a h b
 exact vQ a b h
theorem JY (r:s.heap.IsList l vs.toArray\/s.heap.IsTuple l vs.toArray) (f:vs.length<64) (n:2<=vs.length->∀h',ET s.heap h'->ax (aI P w) A.in1.in1 (pE vs.toArray) (λκ s'=>s'={ s with heap:=h'}/\∀i j (C:Bool->aT->Prop),i<vs.length->j<vs.length->C (O.blt (key i) (key j)) { s with heap:=h'}->i6 P w A.in1.in1 κ vs i j C { s with heap:=h'}) (λ_ _=>False) { s with heap:=h'}) (h:∀ps h' c,PF O key vs.length ps->ET s.heap h'->h'.get? (s.heap.objs.size+1)=ab (a4 "list" (ps.map λi=>vs.getD i bp).toArray c)->Q (.ref (s.heap.objs.size+1)) { s with heap:=h'}):ax (aI P w) A (fT (.builtin "sorted") [.ref l]) Q E s:=by
 refine SO l8 kC kF (p9 _) ?_;unfold dt.«sorted»;refine a_ (m:=oC "sorted" 1 1 _) (i_ ?_);refine a_ (lW r (by rw[E8];omega) ?_);refine a_ (IZ ?_ (by rw[E8];omega));have g:((s.heap.push (a4 "list" #[] 0)).update s.heap.objs.size (a9 (·++vs.toArray))).objs.size=s.heap.objs.size+1:=by rw[ky,t3]
 have a:(((s.heap.push (a4 "list" #[] 0)).update s.heap.objs.size (a9 (·++vs.toArray))).push (a4 "list" vs.toArray 0)).get? (s.heap.objs.size+1)=ab (a4 "list" vs.toArray 0):=by rw[<- g];exact l_ _ rfl
 show ax _ _ _ _ _ { s with heap:=((s.heap.push (a4 "list" #[] 0)).update s.heap.objs.size (a9 (·++vs.toArray))).push (a4 "list" vs.toArray 0)};rw[g];refine a_ (DU (EH hH ⟨_,a,rfl⟩ fS (oN (O:=O) (key:=key) a f (λk h' d=>n k h' λb o e=>d b o ?_ ?_) λps p=>⟨_,rfl,?_⟩) (mf _)))
 .exact H_ (IU (y_ e))
 .have q:b<s.heap.objs.size:=y_ e;refine b_ _ ?_;rw[IM _ _ _ _ (H_ q)];exact b_ _ e
 obtain⟨d,c,t⟩:=yM (h:=s.heap) (vs:=vs) (out:=(ps.map λi=>vs.getD i bp).toArray);exact i_ ⟨_,rfl,h ps _ c p d t⟩
end
open L2 PySem.W M
theorem Dp (r:KV kvs vs):∀(us:ξ av),us.length=vs.length->(∀(j:Nat) (v:av),us[j]?=ab v->∃k x,vs[j]?=ab (k,x)/\(bc P w).is k v=ag)->zS (kvs.map λq=>kV q.1) us:=by
 induction r with
 |nil=>intro us h _;rw[QY h];exact .nil
 |cons l m f =>
 intro us d a;cases us with
 |nil=>cases d
 |cons u us =>
 refine .cons ?_ (f us (Nat.succ.inj d) λj v e=>a (j+1) v e);obtain⟨k,x,e,g⟩:=a 0 u rfl;cases e;obtain⟨hq,_⟩:=l;dsimp only at hq |-;rw[hq];rcases cz g with ⟨i,t,c,b⟩ | ⟨y,t,c,b⟩
 .rw[c,b];exact⟨t,rfl⟩
 rw[c,b];exact⟨t,rfl⟩
theorem Ar:ET h (eK (h.push (a4 "list" vs.toArray 0)) h.objs.size vs out)/\∃c,(eK (h.push (a4 "list" vs.toArray 0)) h.objs.size vs out).get? h.objs.size=ab (a4 "list" out c):=by
 have a:(h.push (a4 "list" vs.toArray 0)).get? h.objs.size=ab (a4 "list" vs.toArray 0):=l_ _ rfl;refine⟨λb o e=>?_,?_⟩
 .have d:b<h.objs.size:=y_ e;unfold eK;rw[IM _ _ _ _ (H_ d)];refine b_ _ (b_ _ ?_);rw[IM _ _ _ _ (H_ d)];exact b_ _ e
 unfold eK;exact⟨_,GN (b_ _ (b_ _ (GN a λ_=>#[]))) λ_=>out⟩
section
variable {O:kR}
theorem Av (p:∀A' E',A'.handled=A.handled->ax (aI P w) A' (kH x) (λvs s1=>vs.length<64 /\
   (2<=vs.length->∀h',ET s1.heap h'->ax (aI P w) A.in1.in1 (pE vs.toArray) (λκ s'=>s'={ s1 with heap:=h'}/\∀i j (C:Bool->aT->Prop),i<vs.length->j<vs.length->C (O.blt (key i) (key j)) { s1 with heap:=h'}->i6 P w A.in1.in1 κ vs i j C { s1 with heap:=h'}) (λ_ _=>False) { s1 with heap:=h'}) /\
   ∀ps h' c,PF O key vs.length ps->ET s1.heap h'->h'.get? s1.heap.objs.size=ab (a4 "list" (ps.map λi=>vs.getD i bp).toArray c)->Q (.ref s1.heap.objs.size) { s1 with heap:=h'}) E' s):ax (aI P w) A (fT (.builtin "sorted") [x]) Q E s:=by
 refine SO l8 kC kF (p9 _) ?_;unfold dt.«sorted»;refine a_ (m:=oC "sorted" 1 1 _) (i_ ?_);refine a_ (CA (p _ _ rfl) (λvs s1 g=>?_) λ_ _ e=>e);obtain⟨f,l,h⟩:=g;refine a_ (IZ ?_ (by rw[E8];omega));have a:(s1.heap.push (a4 "list" vs.toArray 0)).get? s1.heap.objs.size=ab (a4 "list" vs.toArray 0):=l_ _ rfl;refine a_ (DU (EH hH ⟨_,a,rfl⟩ fS (oN (O:=O) (key:=key) a f (λk h' d=>l k h' λb o e=>d b o ?_ ?_) λps n=>⟨_,rfl,?_⟩) (mf _)))
 .exact H_ (y_ e)
 .exact b_ _ e
 obtain⟨d,c,q⟩:=Ar (h:=s1.heap) (vs:=vs) (out:=(ps.map λi=>vs.getD i bp).toArray);exact i_ ⟨_,rfl,h ps _ c n d q⟩
theorem iY {T:String} (K:KdlSrc P w T r d n u v) (C:A.handled=af) (k:v s.heap) (z:n<=am) (h:∀h' tk a,ET s.heap h'->s.heap.objs.size<h'.objs.size->tw u a n->Q a.toList { s with heap:=h',toks:=tk}):ax (aI P w) A (kH (.ref r)) Q E s:=by
 have p:=K.there _ k;unfold kH;refine a_ (tF (N3 ma ?_));refine a_ (m:=yb []) (IZ (i_ ⟨Code.quiet_builtin _ AQ,N3 rV ?_⟩))
 let st:aT:={ s with heap:=s.heap.push (a4 "list" #[] 0)}
 let G:Result->aT->Prop:=λq t=>∃h' tk a c,q=.ok (.ret (.ref s.heap.objs.size))/\t={ s with heap:=h',toks:=tk}/\ET s.heap h'/\h'.get? s.heap.objs.size=ab (a4 "list" a c)/\tw u a n
 have key:=kdl_extend (A:=A) (s:=st) (R:=G) K C (K.keep _ _ k λb _ o e=>b_ _ e) s.heap.objs.size (B9 p.1) (B9 p.2) (.ref s.heap.objs.size) 0 (l_ _ rfl) (λh' tk a c D i g=>⟨h',tk,a,c,rfl,rfl,λb o e=>D b o (H_ (y_ e)) (b_ _ e),i,g⟩) z;have j:∀q t,G q t->∃h' tk a c,q=.ok (.ret (.ref s.heap.objs.size))/\h'.get? s.heap.objs.size=ab (a4 "list" a c)/\t={ s with heap:=h',toks:=tk}/\Q a.toList t:=by rintro q t ⟨h',tk,a,c,l,rfl,B,i,g⟩;exact⟨h',tk,a,c,l,i,rfl,h h' tk a B (y_ i) g⟩
 refine CA (A:=A.in1) key (λf t x=>?_) λe t x=>?_
 .cases f with
  |done f=>obtain⟨h',tk,a,c,l,i,rfl,hq⟩:=j _ _ x;cases l;exact a_ (m:=load s.heap.objs.size) (om i (i_ hq))
  |again F =>
  refine⟨x.1,gN x.2 λq t y=>?_⟩;obtain⟨h',tk,a,c,rfl,i,rfl,hq⟩:=j _ _ y;exact a_ (m:=load s.heap.objs.size) (om i (i_ hq))
 obtain⟨_,_,_,_,l,_⟩:=j _ _ x;cases l
end
end L3
namespace L2
open PySem.W
def E3 (h:cn) (d:ae) (ks:ξ av) (ep:Nat):Prop:=∃o a,h.get? d=ab o/\o.ExactDict/\o.data=.dict a ep/\a.toList.map (·.key)=ks
section
variable {s:aT}
theorem E3.at (x:E3 h d ks ep) (e:∀o,h.get? d=ab o->h'.get? d=ab o):E3 h' d ks ep:=let ⟨o,es,a,r⟩:=x;⟨o,es,e _ a,r⟩
theorem E3.lt (x:E3 h d ks ep):d<h.objs.size:=let ⟨_,_,a,_⟩:=x;y_ a
theorem E3.ty (x:E3 s.heap d ks ep):s.TypeIs (.ref d) "dict":=let ⟨o,_,a,c,_⟩:=x;⟨o,a,c.1⟩
theorem Ih (h:(d==cw)=ai) (x:E3 s.heap d ks ep) (g:Q (.ref s.heap.objs.size) { s with heap:=s.heap.push { cls:=.type "dict_keyiterator",data:=.fields #[.ref d,.int 0 0,.int ks.length 0,.int ep 0]}}):ax (aI P w) A (ya (.ref d)) Q E s:=by
 have b:=x.ty;obtain⟨o,f,c,i,a,e⟩:=x;refine o3 b si (EH si b F.entry_dict_iter ?_ (F.args_dict_iter_1 _));unfold dt.«dict.__iter__»;refine a_ ?_;unfold Builtin.Dict.dictSlotNone;refine a_ (ln b (i_ ?_));show ax _ _ (Builtin.Dict.showsAll d >>= _) _ _ s;unfold Builtin.Dict.showsAll;rw[zD (by rw[h];exact M_)];refine a_ (i_ (a_ (i4 c a (a_ (la c a ?_)))));have hsz:f.size=ks.length:=by rw[<- e,g_,E7]
 refine a_ (FB (i_ ⟨_,rfl,"dict_keyiterator",_,⟨_,l_ _ rfl,rfl⟩,PU.lookup,?_⟩));simpa [cy,hsz] using g
theorem Ii (a:s.heap.IsKeyIter it d i ks.length ep) (x:E3 s.heap d ks ep) (l:ks[i]?=ab v) (q:∀h',h'.IsKeyIter it d (i+1) ks.length ep->db it s.heap h'->Q (ab v) { s with heap:=h'}):ax (aI P w) A (fI (.ref it)) Q E s:=by
 obtain⟨o,k,p,j⟩:=id a;obtain⟨t,h,f,n,g,m⟩:=x;have hsz:h.size=ks.length:=by rw[<- m,g_,E7]
 obtain⟨r,_⟩:=IR.mp l;have c:i<h.size:=zo
 have e:h[i].key=v:=by rw[<- m,C_,MD,IE c] at l;exact O_ l
 unfold fI;refine a_ (NJ (II (name:=cr "__next__") a.typeIs PU (EH PU a.typeIs fE ?_ (fg _))));refine a_ (i_ (a_ (a_ ?_)));first | refine a_ (Sz a.typeIs (i_ ?_)) | refine a_ (SD a.typeIs (i_ ?_))
 refine a_ (tI k j ?_);simp only[show Builtin.Dict_items.ownsTuple "dict_keyiterator"=ai by decide,u_,W_];show ax _ _ (if (aS d==bp)=ag then _ else _) _ _ s;rw[zD (show ¬((aS d==bp)=ag) from M_)];refine a_ (i_ (a_ (i4 f g ?_)));rw[zD (by rw[hsz];simp)];refine a_ (i_ (a_ (la f g ?_)));rw[zD Ap];refine i_ ?_;simp only[show ¬((i:Int)<0) from zo,W_,GS,IE c];refine a_ ?_;first | refine a_ (Sz a.typeIs (i_ ?_)) | refine a_ (SD a.typeIs (i_ ?_))
 refine a_ (lv a.typeIs ?_);show ax _ _ (setField (.ref it) 1 (cy ((i:Int)+1)) >>= _) _ _ s;refine a_ (g6 k j Ap ?_);have b:(s.heap.update it (xz (·.setIfInBounds 1 (cy ((i:Int)+1))))).IsKeyIter it d (i+1) ks.length ep :=
  ⟨_,P6 _ k (ly (Si j _)),(qa ..).trans p,by rw[Si j];simp [cy]⟩
 refine a_ (DU (a_ (lv (s:={ s with heap:=s.heap.update it (xz (·.setIfInBounds 1 (cy ((i:Int)+1))))}) b.typeIs ?_)));show ax _ _ (ce h[i].key) _ _ _;rw[e];exact i_ (i_ ⟨_,rfl,i_ (q _ b (Lm ..))⟩)
theorem M5 (l:A.handled=af) (c:s.heap.IsKeyIter it d ks.length ks.length ep) (x:E3 s.heap d ks ep) (p:∀h',Heap.ExtBut it s.heap h'->Q af { s with heap:=h'}):ax (aI P w) A (fI (.ref it)) Q E s:=by
 obtain⟨o,h,r,j⟩:=id c;obtain⟨q,i,e,k,f,n⟩:=x;have hsz:i.size=ks.length:=by rw[<- n,g_,E7]
 unfold fI;refine a_ (NJ (II (name:=cr "__next__") c.typeIs PU (EH PU c.typeIs fE ?_ (fg _))));refine a_ (i_ (a_ (a_ ?_)));first | refine a_ (Sz c.typeIs (i_ ?_)) | refine a_ (SD c.typeIs (i_ ?_))
 refine a_ (tI h j ?_);simp only[show Builtin.Dict_items.ownsTuple "dict_keyiterator"=ai by decide,u_,W_];show ax _ _ (if (aS d==bp)=ag then _ else _) _ _ s;rw[zD (show ¬((aS d==bp)=ag) from M_)];refine a_ (i_ (a_ (i4 e f ?_)));rw[zD (by rw[hsz];simp)];refine a_ (i_ (a_ (la e f ?_)));rw[zD Ap];refine i_ ?_;have g:i.size<=ks.length:=zo
 simp only[show ¬((ks.length:Int)<0) from zo,W_,GS,k5 g];refine a_ ?_;first | refine a_ (Sz c.typeIs (i_ ?_)) | refine a_ (SD c.typeIs (i_ ?_))
 show ax _ _ (setField (.ref it) 0 .none >>= _) _ _ s;refine a_ (g6 h j Ap ?_);show ax _ _ (y7 (.type "StopIteration") [] >>= _) _ _ _;refine a_ ?_;simp only[y7,newTuple];refine a_ (FB ?_ (by size_fits));refine a_ (m:=hV _ _) (wpAny_of_eq (a:=bp) (by first | rfl | (simp only[hV];rfl)) ?_);refine FB ?_ (by size_fits);simp only[raiseNew];refine a_ (xi ?_);rw[show A.in1.handled=af from l];refine a_ (i_ (wpAny_throw ?_));refine a_ (Of (T:="StopIteration") (b:=ag) ⟨_,l_ _ rfl,rfl⟩ t9 ?_);exact i_ (p _ (((Lm ..).extBut.push _).push _))
theorem Dq (n:A.handled=af) (I d:ae) (k:d≠I) (ks:ξ av) (ep:Nat) :
  Walks P w A I [I,d] [I] ks.length (λi v=>ks[i]?=ab v) (λi h=>h.IsKeyIter I d i ks.length ep/\E3 h d ks ep) where
 sub:=λb a=>by simp at a;simp [a]
 frame:=λ_ _ _ st l=>⟨st.1.at λo e=>l I Ap o e,st.2.at λo e=>l d Ap o e⟩
 item:=λi s Q E p st c=>by
  have m:ks[i]?=ab ks[i]:=e_ p
  refine Ii st.1 st.2 m λh' g f=>?_
  exact c _ h' s.toks m ⟨g,st.2.at λo e=>f.extBut d o k e⟩ λb o a e=>f.extBut b o (λh=>a (by simp [h])) e
 done:=λs Q E st c=>M5 n st.1 st.2 λh' j=>c h' s.toks λb o a e=>j b o (λh=>a (by simp [h])) e
 self:=λ_ _ _ _ st c=>wpAny_pyIter_keyiter st.1 c
theorem Aw (b:(d==cw)=ai):KdlSrc P w "dict" d d ks.length (λi v=>ks[i]?=ab v) (λh=>E3 h d ks ep) where
 type:=λ_ a=>a.ty
 there:=λ_ a=>⟨a.lt,a.lt⟩
 keep:=λ_ _ a f=>a.at λo e=>f d (.inl rfl) o e
 notList:=by decide
 notTuple:=by decide
 hint:=λ_ _ _ _ a hq=>kdl_hint_dict a.ty hq
 iter:=λ_ _ c a=>⟨_,_,(λ_ _ hq=>Ih b a hq),Dq c _ d (H_ a.lt) ks ep,⟨⟨_,l_ _ rfl,rfl,rfl⟩,a.at λo e=>b_ _ e⟩⟩
end
def Zc (P:bb) (w:bg):TE:=λ_ H Q=>∀p,H p=af->Q (.ref p) (As H p (BQ P w p []))
theorem M6:PE X (.Dict [] [] u?) (Zc X.prog X.w):=λpins s σ H Q I h=>ri ⟨.ref s.heap.objs.size,_,Fv I,rfl,h _ (I.hok.fresh (o_ _))⟩
def WC (X:Cx) (H:Hp) (x y:V) (a b:ae) (k:TK) (ks:ξ (TK × ae × V)):Prop:=x=.ref a/\y=.ref b/\H a=ab (BQ X.prog X.w a ks)/\uK X.K H ks/\E9 X.K H k b
def Zd (X:Cx) (neg:Bool) (f d:TE):TE:=λσ H Q=>f σ H λy e=>d σ e λx c=>∃a b k ks,WC X c x y a b k ks/\Q (.bl (if neg then !(fW ks k).isSome else (fW ks k).isSome)) c
theorem Vh (m:X.A.units+30<br) (e:PE X i ty) (n:PE X o td):PC X .In i o (Zd X ai ty td):=by intro pins s σ H Q I h;refine AE (e pins s σ H _ I h) λf q ⟨y,w,z,g,C⟩=>AE (n pins q σ w _ z C) λu E ⟨x,l,v,r,a,b,k,ks,⟨j,t,D,c,B⟩,d⟩=>?_;subst j t;obtain rfl:u=aS a:=r;obtain rfl:f=aS b:=g;exact Xu m v D c B λF p=>⟨.bl (fW ks k).isSome,l,p,rfl,d⟩
theorem Dr (m:X.A.units+30<br) (e:PE X i ty) (n:PE X o td):PC X .NotIn i o (Zd X ag ty td):=by intro pins s σ H Q I h;refine AE (e pins s σ H _ I h) λf q ⟨y,w,z,g,C⟩=>AE (n pins q σ w _ z C) λu E ⟨x,l,v,r,a,b,k,ks,⟨j,t,D,c,B⟩,d⟩=>?_;subst j t;obtain rfl:u=aS a:=r;obtain rfl:f=aS b:=g;exact Ft m v D c B λF p=>⟨.bl (!(fW ks k).isSome),l,p,rfl,d⟩
def Ze (X:Cx) (c g e:TE):TS:=λD σ H=>e σ H λv d=>c σ d λx f=>g σ f λy H3=>∃a b k ks,WC X H3 x y a b k ks/\ks.length<am/\D.nx σ (As H3 a (BQ X.prog X.w a (mC ks k b v)))
theorem M7 (p:X.A.units+30<br) (q:PE X o td) (g:PE X i ty) (d:PE X value tv) (w:eh value (ab (.Subscript o i x?)) u?.line X.env=ce ai):PS X (.Assign [.Subscript o i x?] value u?) (Ze X td ty tv):=by intro pins s σ H D I h;refine kA (AE (d pins s σ H _ I h) λr z ⟨v,F,J,L,N⟩=>AE (q pins z σ F _ J N) λu G ⟨x,n,E,B,f⟩=>AE (g pins G σ n _ E f) λj R ⟨y,H3,t,l,a,b,k,ks,⟨m,C,P,e,K⟩,O,c⟩=>?_) w;subst m C;obtain rfl:u=aS a:=B;obtain rfl:j=aS b:=l;exact Tr p t P e K O L λQ M=>⟨σ,_,M,c⟩
end L2
namespace L3
open L2
noncomputable def LX:T->ζ TK
 |.tup ts=>lQ ts
 |_=>af
theorem vR:∀{ns:ξ aw},lQ (ns.map zi)=ab (ns.map bv)
 |[]=>rfl
 |n::ns=>by
  show (match Yx (.str n),lQ (ns.map zi) with | some k,ab ks=>ab (k::ks) | _,_=>af)=_
  rw[vR]
  rfl
theorem Ij (ns:ξ aw):LX (.tup (ns.map zi))=ab (ns.map bv):=vR
def Ax {K:a5} (e:LX t=ab k) (r:At K H t v):∃a,v=.ref a/\E9 K H k a:=by
 unfold LX at e;split at e
 .obtain⟨a,xs,rfl,b,c⟩:=r.tup;rw[qQ e c] at b;exact⟨a,rfl,b⟩
 cases e
noncomputable def dD (k:TK):ξ (TK × T)->ζ T
 |[]=>af
 | (k',v)::r=>if k'=k then ab v else dD k r
noncomputable def jY (k:TK) (v:T) (kvs:ξ (TK × T)):ξ (TK × T):=if (dD k kvs).isSome then kvs.map (λx=>if x.1=k then (x.1,v) else x) else kvs++[(k,v)]
section
variable {K:a5}
def Go.look (r:Go K H kvs ks) (k:TK):(dD k kvs=af/\fW ks k=af)\/∃t v,dD k kvs=ab t/\fW ks k=ab v/\At K H t v:=by
 induction r with
 |nil=>exact .inl ⟨rfl,rfl⟩
 |@cons p q l m h _ b =>
 obtain⟨p1,g⟩:=p;obtain⟨f,i,d⟩:=q;obtain⟨e,_,a⟩:=h;dsimp only at e a;subst e;unfold dD;unfold fW at b |-;rw[F5];by_cases c:f=k
 .rw[z3 c,p_ (by exact c)];exact .inr ⟨g,d,rfl,rfl,a⟩
 rw[zD c,q_ (by exact c)];exact b
def Go.put (r:Go K H kvs ks) (i:E9 K H k b) (j:At K H t v):Go K H (jY k t kvs) (mC ks k b v):=by
 have e:(dD k kvs).isSome=(fW ks k).isSome:=by rcases r.look k with ⟨a,b⟩ | ⟨t,v,a,b,_⟩ <;> rw[a,b] <;> rfl
 unfold jY mC;rw[e];split
 .rename_i c;clear e c;induction r with
  |nil=>exact .nil
  |@cons p q l m h _ g =>
  obtain⟨p1,s⟩:=p;obtain⟨o,u,n⟩:=q;obtain⟨e,d,f⟩:=h;dsimp only at e f d;subst e;refine .cons ?_ g;dsimp only;split <;> exact⟨rfl,d,by assumption⟩
 exact KF r ⟨rfl,i,j⟩
theorem Go.all (r:Go K H kvs ks):uK K H ks:=by
 induction r with
 |nil=>intro x a;exact nomatch a
 |cons h _ b =>
 intro x a;rcases v_.mp a with rfl | a
 .exact h.2.1
 exact b x a
end
def OC (u:ζ O3) (P:bb) (w:bg) (Q:ξ (TK × T)->Prop):Prop:=match u with
 |some (.dtk P' w' kvs)=>P'=P/\w'=w/\Q kvs
 |_=>False
def kq (P:bb) (w:bg) (x y:T) (H:lq) (Q:ae->TK->ξ (TK × T)->Prop):Prop:=match x with
 |.ref a=>oq (LX y) λk=>OC (H a) P w (Q a k)
 |_=>False
theorem aba (P:bb) (w:bg) (a:ae) (ns:ξ aw):kq P w (.ref a) (.tup (ns.map zi)) H Q=OC (H a) P w (Q a (ns.map bv)):=by unfold kq;rw[Ij];rfl
theorem Zf (P:bb) (w:bg) (kvs:ξ (TK × T)):OC (ab (.dtk P w kvs)) P w Q=Q kvs:=by show (P=P/\w=w/\Q kvs)=Q kvs;rw[eq_self,eq_self,true_and,true_and]
def Ik {K:a5} (l:zc K H3 H) (r:At K H f x) (p:At K H g y) (q:kq P w f g H3 Q):
  ∃a b k kvs ks,x=.ref a/\y=.ref b/\H a=ab (BQ P w a ks)/\H3 a=ab (.dtk P w kvs)/\Go K H kvs ks/\E9 K H k b/\Q a k kvs:=by
 cases f with
 |ref a =>
  cases e:LX g with
  |none=>unfold kq at q;rw[e] at q;exact q.elim
  |some k =>
  unfold kq at q;rw[e] at q;have c:OC (H3 a) P w (Q a k):=q;cases d:H3 a with
  |none=>rw[d] at c;exact c.elim
  |some n =>
  rw[d] at c;cases n with
  |dtk P' s kvs=>obtain⟨rfl,rfl,m⟩:=c;obtain⟨ks,o,j⟩:=l a _ d;obtain⟨b,h,i⟩:=Ax e p;exact⟨a,b,k,kvs,ks,r.ref,h,o,d,j,i,m⟩
  |_=>exact c.elim
 |_=>exact q.elim
def Ay (P:bb) (w:bg):AF:=λ_ H Q=>∀p,H p=af->Q (.ref p) (fY H p (.dtk P w []))
theorem zc.newK {K:a5} (s:zc K H3 H) (c:H p=af):zc K (fY H3 p (.dtk P w [])) (As H p (BQ P w p [])):=λa o e=>by
 by_cases b:a=p
 .subst b;rw[aq] at e;cases e;exact⟨[],aZ,.nil⟩
 rw[aF b] at e;exact s.new c a o e
theorem vU (a:X.prog=P) (d:X.w=w):AA X (.Dict [] [] u?) (Ay P w):=by subst a d;refine PE.imp M6 ?_;rintro σ H Q ⟨c,H3,Q3,e,b,h,k⟩ p a;exact k _ _ _ _ (aO a) (b.newK a) .ofRef (h p (b.fresh a))
def yN (P:bb) (w:bg) (neg:Bool) (b d:AF):AF:=λσ H Q=>b σ H λy c=>d σ c λx a=>kq P w x y a λ_ k kvs=>Q (.bl (if neg then !(dD k kvs).isSome else (dD k kvs).isSome)) a
def Az {neg:Bool}{K:a5}{f g:T}{Q3:AC} (j:zc K H3 H) (o:At K H f x) (n:At K H g y) (q:kq P w f g H3 λ_ k kvs=>Q3 (.bl (if neg then !(dD k kvs).isSome else (dD k kvs).isSome)) H3):
  ∃a b k ks c,(x=.ref a/\y=.ref b/\H a=ab (BQ P w a ks)/\uK K H ks/\E9 K H k b)/\(if neg then !(fW ks k).isSome else (fW ks k).isSome)=c/\Q3 (.bl c) H3:=by
 obtain⟨a,b,k,kvs,ks,m,i,h,_,d,p,l⟩:=Ik j o n q;refine⟨a,b,k,ks,_,⟨m,i,h,d.all,p⟩,rfl,?_⟩;have e:(dD k kvs).isSome=(fW ks k).isSome:=by rcases d.look k with ⟨a,b⟩ | ⟨t,v,a,b,_⟩ <;> rw[a,b] <;> rfl
 rwa [e] at l
theorem M8 (u:X.prog=P) (r:X.w=w) (z:X.A.units+30<br) (t:AA X i ti) (B:AA X o td) (G:bP .In o=ai:=by rfl):AA X (.Compare i [.In] [o] u?) (yN P w ai ti td):=by subst u r;refine PE.imp (Ej (Vh z t B) G) ?_;rintro σ H Q ⟨f,H3,Q3,p,F,h,k⟩;refine⟨f,H3,_,p,F,h,λy L M m j n v I=>⟨f,m,_,p.mono j,n,I,λx J K D d l C s=>?_⟩⟩;obtain⟨a,b,E,ks,c,g,e,q⟩:=Az l C (v.mono d) s;exact⟨a,b,E,ks,g,by rw[e];exact k _ _ _ _ (j.trans d) l .ofBl q⟩
def Ba (P:bb) (w:bg) (d b e:AF):Co:=λD σ H=>e σ H λv c=>d σ c λx f=>b σ f λy H3=>kq P w x y H3 λa k kvs=>kvs.length<am/\D.nx σ (fY H3 a (.dtk P w (jY k v kvs)))
theorem vV (R:X.prog=P) (M:X.w=w) (T:X.A.units+30<br) (U:AA X o td) (Q:AA X i ti) (L:AA X value E) (V:eh value (ab (.Subscript o i x?)) u?.line X.env=ce ai:=by rfl):EV X (.Assign [.Subscript o i x?] value u?) (Ba P w td ti E):=by
 subst R M;refine PS.imp (M7 T U Q L V) ?_;rintro D σ H ⟨f,H3,D3,m,sh,h,N,_⟩;refine⟨f,H3,_,m,sh,h,λv H1 E n g r rv q1=>⟨f,n,_,m.mono g,r,q1,λx H2 tx s d t Z O=>⟨f,s,_,m.mono (g.trans d),t,O,λy G ty H34 e k S J=>?_⟩⟩⟩;obtain⟨a,b,F,kvs,ks,W,h2,C,h0,p,I,hl,Y⟩:=Ik k (Z.mono e) S J;have j:t6 X.K G (As G a (BQ X.prog X.w a (mC ks F b v))):=bW (by rw[C];exact trivial);have l:=g.trans (d.trans (e.trans j));refine⟨a,b,F,ks,⟨W,h2,C,p.all,I⟩,by rw[<- EO p];exact hl,N _ _ _ _ l (m.mono l) (λc u z=>?_) Y⟩;by_cases B:c=a
 .subst B;rw[aq] at z;cases z;exact⟨_,aZ,(p.put I (rv.mono (d.trans e))).mono j⟩
 rw[aF B] at z;exact (k c u z).stay j λu' q=>by rw[aL B];exact q
open L2 PySem.W M
noncomputable def Sm:AG->T
 |.inl i=>.int i
 |.inr x=>.str x
noncomputable def LF (k:ξ AG):T:=.tup (k.map Sm)
section
variable {K:a5}
def M9:At K H (Sm k) (kV k):=by
 cases k with
 |inl i=>exact .ofInt
 |inr x=>exact .ofStr
noncomputable def vW:∀{ks:ξ AG},nP K H (ks.map Sm) (ks.map kV)
 |[]=>.nil
 |_::_=>.cons M9 vW
def sU (h:A3 K H a (k.map kV)):At K H (LF k) (.ref a):=.ofTup h vW
end
theorem lC {c d:Type}{f:c->d}:∀{l:ξ c}{ps:ξ d},ps.Perm (l.map f)->∃b:ξ c,b.Perm l/\ps=b.map f
 |[],ps,h=>⟨[],.nil,h.eq_nil⟩
 |a::l,ps,h=>by
  have m:f a∈ps:=h.mem_iff.mpr (.head _)
  obtain⟨p1,o,rfl⟩:=List.append_of_mem m
  have g:(f a::(p1++o)).Perm (f a::l.map f):=List.perm_middle.symm.trans h
  obtain⟨b,n,e⟩:=lC (List.Perm.cons_inv g)
  obtain⟨k,i,rfl,p,j⟩:=List.map_eq_append_iff.mp e.symm
  exact⟨k++a::i,List.perm_middle.trans (n.cons a),by rw[B_,I_,p,j]⟩
theorem vX {a b c:Type}{f:a->b}{g:a->c}:∀{l:ξ a},(l.map f).zip (l.map g)=l.map λx=>(f x,g x)
 |[]=>rfl
 |x::l=>by rw[I_,I_,I_,On,vX]
theorem lD {a:Type}{f:a->ae}:∀{l:ξ a},zS (l.map λx=>V.ref (f x)) (l.map λx=>aS (f x))
 |[]=>.nil
 |_::_=>.cons rfl lD
noncomputable def vY {K:a5}:∀{l:ξ (ξ AG × ae × av)},(∀x∈l,A3 K H x.2.1 (x.1.map kV))->nP K H ((l.map (·.1)).map LF) (l.map λx=>V.ref x.2.1)
 |[],_=>.nil
 |x::l,h=>.cons (sU (h x (.head _))) (vY λy a=>h y (.tail _ a))
def BI.cons {K:a5}{H:Hp}{a:AV}{σ:L2.St}{t:T}{v:V}(r:At K H t v) (s:BI K H a σ):BI K H (ab t::a) (ab v::σ):=by
 refine⟨by simp [s.len],λi u e=>?_⟩;cases i with
 |zero=>cases e;exact⟨v,rfl,r⟩
 |succ j=>exact s.at' j u e
structure T2 (X:Cx) (N':List aw) (cap:List Nat) (scope:Scope):Prop where
 free:∀y∈scope.names,y.2=.free->X.env.kindOf y.1=ab .cell\/X.env.kindOf y.1=ab .free
 len:N'.length=1+cap.length
 caps:∀(j:Nat) (x:aw),N'[1+j]?=ab x->∃i,cap[j]?=ab i/\X.N[i]?=ab x/\scope.names.lookup x=ab .free
noncomputable def Zg (cap:ξ Nat) (t:T) (σ:AV):AV:=ab t::cap.map λj=>(σ[j]?).getD af
def Ds (P:ae) (c:gE) (qual:aw) (e:AF) (cap:ξ Nat) (σ:AV) (Q:AC) (t:T) (b:lq):Prop:=∃a d w kvs,t=.ref a/\b a=ab (.dtk d w kvs)/\kvs.length<64/\b P=ab (.tab c qual)/\∃key:ξ AG->Int,
 (∀k∈kvs.map (·.1),e (Zg cap (LF k) σ) b λt' H'=>t'=.int (key k)/\eH b H') /\
 ∀us:ξ (ξ AG),us.Perm (kvs.map (·.1))->us.Pairwise (λx y=>key x<=key y)->∀p,b p=af->Q (.ref p) (fY b p (.lst (us.map LF)))
def Bb (P:ae) (a:gE) (qual:aw) (b c:AF) (cap:ξ Nat):AF:=λσ H Q=>b σ H (Ds P a qual c cap σ Q)
theorem Dt {K:a5} (c:H P=ab (CY P ps)):t6 K H (As H P o):=by
 refine⟨λa xs h=>?_,λb o u h=>by rw[aL (λz=>by rw[z,c] at h;cases h)];exact h⟩;rcases h with (h | ⟨d,h⟩) | h
 .exact .inl (.inl (by rw[aL (λz=>by rw[z,c] at h;cases h)];exact h))
 .exact .inl (.inr ⟨d,by rw[aL (λz=>by rw[z,c] at h;cases h)];exact h⟩)
 exact .inr h
section
variable {H H':Hp}{P:ae}
theorem Bc {K:a5}(h:Tq H H' P):t6 K H H':=by
 rcases h with rfl | ⟨ps,c,f,e,b,a,d,rfl⟩
 .exact .refl
 exact (Dt e).trans (aO (by rw[aL a];exact b))
theorem Il {K:a5} (h:Tq H H' P) (i:Fo H' P b qual) (e:H3 P=ab (.tab b qual)) (k:zc K H3 H):zc K H3 H':=λa o d=>by
 by_cases f:a=P
 .subst f;rw[e] at d;cases d;exact i
 refine (k a o d).stay (Bc h) λu q=>?_;rcases h with rfl | ⟨ps,c,n,m,g,l,j,rfl⟩
 .exact q
 rw[aL (λz=>by rw[z,g] at q;cases q),aL f];exact q
variable {params:xI}{lpos u? kp p:gE}
theorem Nb (hr:xr (n+3) X.A) (hg:Gl X "sorted") (hm:X.mg "sorted"=af) (hd:AA X d td) (S:Qb N' [y] scope) (Sc:T2 X N' cap scope) (hc:X.env.code=.ref c) (C:y9 X.base c P) (hB:X.base.BuiltinsAt X.mg P)
  (hgP:bo≠P) (hbody:∀f cd cl s H,xr n (lN X N' qual scope f cd cl X.A.in1.in1 s H).A->AA (lN X N' qual scope f cd cl X.A.in1.in1 s H) body tb) (hy:N'[0]?=ab y:=by rfl) (hq:X.env.qual++"<lambda>"=qual:=by rfl) (hdef:vF params X.env=([],[]):=by rfl)
  (hb:∀cl pm c' L u,c8 (y8 "<lambda>" qual params body scope cl pm c' L) ⟨[u],[]⟩=ce ([y].zip [u]):=by intros;rfl)
  (hs:aE [d] X.env=(ai,bt d X.env)::aE [] X.env:=by rfl)
  (he:cf u? (aE [d] X.env)=(ai,bt d X.env)::cf u? (aE [] X.env):=by rfl)
  (hpl:(cf u? (aE [d] X.env)).any (·.1)=ai:=by rfl) :
  AA X (.Call (.Name "sorted" p) [d] [⟨ab "key",.Lambda params body scope lpos,kp⟩] u?) (Bb P lpos qual td tb cap):=by
 rintro pins s σ H Q I ⟨g,H3,Q3,ss,sh,h,k⟩;refine Ll (gY I hg hm jk ?_ zC zC);refine callWith_kw ?_ he hpl;refine AE (aa hd ak hs u? pins s σ H (λvs O=>∃v t b,vs=[v]/\t6 X.K H O/\zc X.K b O/\At X.K O t v/\Ds P lpos qual tb cap g Q3 t b) I ?_) ?_
 .refine⟨g,H3,λts b=>∃t,ts=[t]/\Ds P lpos qual tb cap g Q3 t b,ss,sh,?_,?_⟩
  .show td g H3 λx O=>FQ g O λxs H2=>_;exact Eq.mp (U_ (td g H3) (funext λx=>funext λO=>by
    show Ds P lpos qual tb cap g Q3 x O=∃t,[x]=[t]/\Ds P lpos qual tb cap g Q3 t O
    exact propext ⟨λz=>⟨x,rfl,z⟩,λ⟨t,e,z⟩=>by cases e;exact z⟩)) h
  rintro vs O ts b le W rs ⟨t,rfl,q⟩;obtain⟨v,rfl,rv⟩:=rs.one';exact⟨v,t,b,rfl,le,W,rv,q⟩
 rintro us s1 ⟨vs,O,I1,rv,v,t,b,rfl,le1,W,rt,a,Pg,wg,kvs,rfl,ha,h64,hP,key,E,hQ⟩;obtain⟨u,rfl,ru⟩:=AU rv;rw[rt.ref] at ru;cases ru;have hfree:∀y∈scope.names,y.2=.free->∃c,X.env.cells.lookup y.1=ab c:=λy hy e=>I1.ok.has y.1 (Sc.free y hy e);obtain⟨cl,ecl,hcl1,hcl2⟩:=jC hfree;show ax _ _ (evalAll [do let v <- bt (.Lambda params body scope lpos) X.env;ng u?;ce v]) _ _ s1;refine wpAny_evalAll_cons (a_ (Fp I1 hc C hB (W P _ hP) hq ecl hdef hgP λf c' pm L H2 s2 I2 ho hf hge hrec hT2 hLH=>a_ (jI (i_ ?_))));refine wpAny_evalAll_nil ?_;have sh2:zc X.K b H2:=Il hLH hT2 hP W;have le2:t6 X.K H H2:=le1.trans (Bc hLH);have T:=EN.new I1 hge;have of:EN X pins H2 f:=⟨T.h0,hf,T.hL,T.hc,T.hp⟩;have I3:=I2.addpin of ho (λv z=>by cases z) (I1.nofs hge);obtain⟨ws,e2,rd⟩:=sh2 a _ ha;obtain⟨z,hnd,xs,rel,o,es,ep,h1,h2,h3,h4,h5⟩:=(show W2 X.prog X.w H2 s2.heap a (BQ Pg wg a ws) from I2.hok a _ e2).1;have Y:kvs.map (·.1)=xs.map (·.1):=by
  clear h1 h2 h3 h4 h5 hQ E h64 ha e2 z;induction rd generalizing xs with
  |nil=>cases rel;rfl
  |cons q _ ih =>
  cases rel with
  |cons q2 r2=>rw[I_,I_,ih _ r2,<- q.1,q2.1]
 have hal:=rd.all;have hxt:∀x∈xs,A3 X.K H2 x.2.1 (x.1.map kV):=by
  clear h1 h2 h3 h4 h5 hQ E h64 ha e2 z Y rd;induction rel with
  |nil=>intro x M;exact nomatch M
  |@cons p q l m h _ ih =>
  intro x M;rcases v_.mp M with e | M
  .have:=hal p (.head _);subst e;rw[<- h.1,<- h.2.1];exact this
  exact ih (λy hy=>hal y (.tail _ hy)) x M
 have hl:xs.length=kvs.length:=by have:=U_ a7 Y;simpa using this.symm
 have dk:E3 s2.heap a (xs.map λx=>aS x.2.1) ep:=⟨o,es,h1,h2,h3,by rw[h4,N_];rfl⟩;show ax _ _ (fT (.builtin "sorted") [.ref a] [(cr "key",.ref f)]) _ _ s2;refine Lf (pins:=(f,tr "<lambda>" qual params body scope cl pm c' L)::pins) (σ:=σ) (λH'=>t6 X.K H2 H'/\zc X.K b H') λE'=>?_;have hz:am=16777216:=rfl;refine iY (Aw hnd) hr.hd dk (by rw[g_];omega) λh' tk acc kp hge' hacc=>?_;have eacc:acc.toList=xs.map λx=>aS x.2.1:=by
  apply Na;intro i;by_cases hi:i<acc.size
  .have e:=IE hi;rw[MD,e];exact (hacc.2 i _ e).symm
  rw[Ee (by rw[E7];omega),Ee (by have:=hacc.1;omega)]
 rw[eacc];refine⟨H2,xs.map λx=>key x.1,I3.kept kp,⟨.refl,sh2⟩,Ap,by rw[g_];omega,?turn,?fin⟩
 case turn =>
  rintro p2 s' H' I' ⟨r,U⟩ i v kk e1 ek
  obtain⟨x,M,rfl⟩:∃x,xs[i]?=ab x/\aS x.2.1=v:=by
   rw[C_] at e1
   cases q:xs[i]? with
   |none=>rw[q] at e1;cases e1
   |some x=>rw[q] at e1;exact⟨x,rfl,O_ e1⟩
  have ekk:kk=key x.1:=by
   rw[C_,M] at ek
   exact (O_ ek).symm
  subst ekk
  have Z:=E5 M
  have hk:=E x.1 (by rw[Y];exact List.mem_map_of_mem Z)
  obtain⟨oc,hoc,vsr,tq,hdr,hvr⟩:=hrec
  have hoc':=(I'.hok c' _ (r.2 _ _ _ hoc)).1
  have hfo:=(I'.pin (f,tr "<lambda>" qual params body scope cl pm c' L) (J_ _ (J_ _ (.head _)))).1
  have sqx:A3 X.K H' x.2.1 (x.1.map kV):=r.1 _ _ (hxt x Z)
  have ssH:BI X.K H' g σ:=ss.mono (le2.trans r)
  refine AE (Le I' (A:=X.A.in1.in1) I'.ok.frames hr.hd (by have:=hr.dp;show X.A.depth<_;omega) hfo ⟨c',oc,vsr,tq,rfl,hoc',hdr,hvr⟩ (hb cl pm (.ref c') L _) rfl S (λy hy=>hcl2 (y,.free) (mem_of_lookup hy) rfl) hcl1
   (σ':=ab (.ref x.2.1)::cap.map λj=>(σ[j]?).getD af) (N':=N') (te:=F4 X.K tb) (Q:=λw' G=>∃B,w'=.int (key x.1)/\t6 X.K H' G/\zc X.K B G/\eH b B) (by rw[Sc.len];simp;omega) ?_ (hbody _ _ _ _ _ (hr.in1.in1.deeper _)) ?_) ?_
  ·
   intro i y' v e1 e2
   refine⟨λhi=>?_,λhi=>?_⟩
   ·
    have hi:i<1:=hi
    obtain rfl:i=0:=by omega
    cases e2
    exact⟨_,rfl,rfl⟩
   ·
    have hi:1<=i:=hi
    obtain⟨j,rfl⟩:∃j,i=1+j:=⟨i - 1,zo⟩
    obtain⟨q,ck,hN,hfr⟩:=Sc.caps j y' e1
    rw[qk,Mb,C_,ck] at e2
    have R:(σ[q]?).getD af=ab v:=O_ e2
    have e2'':σ[q]?=ab (ab v):=by
     cases z:σ[q]? with
     |none=>rw[z] at R;cases R
     |some w=>rw[z] at R;exact U_ ab R
    have hkd:=Sc.free (y',.free) (mem_of_lookup hfr) rfl
    obtain⟨m,hnm,hlk⟩:=I'.loc
    obtain⟨u,ru,lk⟩:=hlk q y' v hN e2'' (.inr hkd)
    rcases lk with ⟨kl,_⟩ | ⟨_,cc,hcc,hcell⟩
    ·
     rcases hkd with z | z <;> (rw[kl] at z;cases z)
    ·
     obtain⟨c2,hc2⟩:=hcl2 (y',.free) (mem_of_lookup hfr) rfl
     have e:=hcl1 y' c2 hc2
     rw[hcc] at e;cases e
     exact⟨hfr,cc,u,hc2,hcell,ru⟩
  ·
   refine⟨Zg cap (LF x.1) g,b,_,?_,U,hk,?_⟩
   ·
    exact BI.cons (sU sqx) (rO (nt:=0) (cap:=cap) ssH)
   ·
    rintro w' G t' B J F rt' ⟨rfl,sb⟩
    exact⟨B,rt'.int,J,F,sb⟩
  ·
   rintro u s'' ⟨w',G,I'',ru,B,rfl,J,F,sb⟩
   obtain⟨t,rfl⟩:=ru
   exact⟨G,t,I'',⟨r.trans J,F.sub sb⟩,rfl⟩
 case fin =>
  rintro s' H' D out c1 I' ⟨r,U⟩ od hD ⟨ps,N,eo,srt⟩
  rw[vX] at N
  obtain⟨l,hl1,rfl⟩:=lC N
  rw[N_] at eo
  have od':EN X pins H' D:=⟨od.h0,od.hn,od.hL,od.hc,λp N=>od.hp p (by
   rcases x_.mp N with N | N
   ·
    exact FU _ N
   ·
    exact J_ _ (.tail _ N))⟩
  have I4:Inv X pins σ H' s':=I'.pins_of λp N=>I'.pin p (J_ _ (.tail _ N))
  have rz:zS (l.map λx=>V.ref x.2.1) out.toList:=by
   rw[eo]
   exact lD
  have rs:nP X.K H' ((l.map (·.1)).map LF) (l.map λx=>V.ref x.2.1):=vY λx M=>r.1 _ _ (hxt x (hl1.mem_iff.mp M))
  have ll:=hl1.length_eq
  refine⟨.ref D,As H' D (.lst (l.map λx=>V.ref x.2.1)),I4.trackD od' ⟨by rw[g_];omega,out.toList,c1,rz,by simpa using hD⟩,rfl,?_⟩
  refine k _ _ _ _ (le2.trans (r.trans (aO od.hn))) (U.newLst od.hn rs) .ofRef (hQ _ ?_ ?_ _ (U.fresh od.hn))
  ·
   rw[Y];exact hl1.map _
  ·
   rw[NF] at srt |-
   exact srt.imp λz=>by simpa using z
end
end L3
namespace L2
open PySem.W
def Im (H:Hp) (Pt:ae):Prop:=H Pt=ab (CY Pt #[])/\∀b,b≠Pt->H b=af\/∃o xs,H b=ab (.frz o (.lst xs))
theorem Du {K:a5} (KX:K.In c.heap) (l:c.heap.get? Pt=ab (y4 #[])) (U:l9 c.heap Pt) (hPK:K.lookup Pt=af) (G:c.heap.Ns bo mg) (f:c.heap.Ns h9 X) (W:∀x:aw,x≠"__name__"->X x=bi x) (Q:c.heap.NoLimit) (hg:c.gens=#[]) (E:c.heap.get? a=ab { cls:=.type "list",data:=.seq vs.toArray}) (hi:cS vs ns) (hl:ns.length<=am) (hr:xr k nk) (F:∀base:cn,K.In base->base.Ns bo mg->HM P w K mg base CX k Z fd [x] sp) (B:∀(s:aT) (u:av),rc s fd ⟨[u],[]⟩ [(x,u)]) (Y:∀H:Hp,Im H Pt->BN K H a (ns.map V.int)->sp [.ref a] H (λv _=>v=.bl ag) λ_ _ _=>False) (hCX:∀H e s',CX [] H c (λ_ _ _=>False) e s'->False):
  eJ (aI P w) nk (.call (.ref Z) ⟨[.ref a],[]⟩) (λr s'=>r=.ok (.ret (.bool ag))/\OldK c.heap s'.heap/\s'.os=c.os/\jv s'.gens) c:=by
 have rv:=qI hi;have O:=hi.length;have D:Pt≠a:=λz=>by rw[z,E] at l;have:=O_ l;have:=U_ Obj.cls this;cases this
 have y:∀H:Hp,Im H Pt->BN K H a (ns.map V.int)->A8 P w H c.heap->(∀b,H b≠af->b=a\/b=Pt)->(H a≠af->K.lookup a=af) ->
   eJ (aI P w) nk (.call (.ref Z) ⟨[.ref a],[]⟩) (λr s'=>r=.ok (.ret (.bool ag))/\OldK c.heap s'.heap/\s'.os=c.os/\jv s'.gens) c:=by
  intro H hO hS I hA hK
  have j:∀{b:ae} {o:dP},c.heap.get? b=ab o->H b=af->(rC c.heap H).get? b=ab o:=λe n=>Ei e n
  have noA:∀{b:ae} {o:dP} {C:Array nv} {ep:Nat},c.heap.get? b=ab o->o.data=.dict C ep->H b=af:=λ{b o C ep} e d=>by
   cases q:H b with
   |none=>rfl
   |some u =>
    rcases hA b (by rw[q];simp) with e' | e'
    ·
     subst e'
     rw[E] at e;cases e
     have d':Data.seq vs.toArray _=Data.dict C ep:=d
     cases d'
    ·
     subst e'
     rw[l] at e;cases e
     have d':Data.fields _=Data.dict C ep:=d
     cases d'
  have p:∀{b:ae} {m:aw->ζ av},c.heap.Ns b m->(rC c.heap H).Ns b m:=λ{b m} ⟨o,C,ep,e,d,r⟩=>⟨o,C,ep,j e (noA e d),d,r⟩
  have J:K.In (rC c.heap H):=λb o e=>j (KX b o e) (by
   cases q:H b with
   |none=>rfl
   |some u =>
    rcases hA b (by rw[q];simp) with e' | e'
    ·
     subst e'
     rw[hK (by rw[q];simp)] at e;cases e
    ·
     subst e'
     rw[hPK] at e;cases e)
  have hM:Mod K mg (rC c.heap H):=⟨J,p G,⟨X,p f,W⟩,let ⟨mc,M,R⟩:=Q;⟨mc,p M,R⟩⟩
  have e0:MS P w K mg (rC c.heap H) nk [] c H:=⟨rfl,hM,λb o e=>J8 e,gS (Cj _ _),AD,λb f=>AL (show b∈([]:ξ ae) from f) Ap,I,.of_eq hg⟩
  refine gN ((F _ J (p G)).run nk [] c H ⟨[.ref a],[]⟩ [.ref a] [.ref a] _ _ hr e0 (B c (.ref a)) (.cons rfl .nil) (Y H hO hS)) λr s' h=>?_
  cases r with
  |error e=>exact (hCX H e s' h).elim
  |ok fl =>
   cases fl with
   |next=>exact df h
   |brk=>exact df h
   |cont=>exact df h
   |ret u =>
    obtain⟨v,H',os,S,T,A,r',q⟩:=h
    have q':v=.bl ag:=q
    subst q'
    obtain rfl:u=dA ag:=r'
    refine⟨rfl,⟨λb o e=>?_,λb o e=>T.there b o e Ap⟩,os,S⟩
    by_cases L:b=Pt
    ·
     subst L
     rw[l] at e;cases e
     obtain⟨t,z⟩:=T.tbls b _ hO.1
     have z2:s'.heap.get? b=ab { cls:=.none,data:=.fields (#[]++t)}:=A b _ z
     exact .inr (.inl ⟨U,rfl,#[],t,rfl,z2⟩)
    ·
     refine .inl ?_
     cases q:H b with
     |none=>exact T.keep b o e q (by intro z;exact AL (show b∈([]:ξ ae) from z) Ap) Ap
     |some u =>
      rcases hO.2 b L with z | ⟨ob,xs,z⟩
      ·
       rw[q] at z;cases z
      ·
       have z2:=T.frzs b ob _ z
       obtain⟨e1,_⟩:=I b _ z
       obtain⟨e2,_⟩:=A b _ z2
       rw[e] at e1;cases e1
       exact e2
 have N:∀H:Hp,H Pt=ab (CY Pt #[])->∀u,H Pt=ab u->W2 P w H c.heap Pt u:=λH h u e=>by rw[h] at e;cases e;exact CY.ok l
 cases hk:K.lookup a with
 |some o =>
  have e:=KX a o hk
  rw[E] at e
  cases e
  have i:∀b,b≠Pt->As (λ_=>af) Pt (CY Pt #[]) b=af:=λb f=>by rw[aL f]
  refine y (As (λ_=>af) Pt (CY Pt #[])) ⟨aZ,λb f=>.inl (i b f)⟩ (.inr ⟨_,vs.toArray,_,hk,rfl,rfl,rfl,by rw[m_,O];exact hl,by simpa using rv⟩) (λb u z=>?_) (λb z=>?_) λz=>AL (i a (a6 D)) z
  ·
   by_cases f:b=Pt
   ·
    subst f;exact N _ aZ u z
   ·
    rw[i b f] at z;cases z
  ·
   by_cases f:b=Pt
   ·
    exact .inr f
   ·
    exact AL (i b f) z
 |none =>
  have M:∀b,b≠Pt->b≠a->As (As (λ_=>af) a (.frz { cls:=.type "list",data:=.seq vs.toArray} (.lst (ns.map V.int)))) Pt (CY Pt #[]) b=af:=λb f g=>by rw[aL f,aL g]
  have R:As (As (λ_=>af) a (.frz { cls:=.type "list",data:=.seq vs.toArray} (.lst (ns.map V.int)))) Pt (CY Pt #[]) a=ab (.frz { cls:=.type "list",data:=.seq vs.toArray} (.lst (ns.map V.int))):=by rw[aL (a6 D),aZ]
  refine y (As (As (λ_=>af) a (.frz { cls:=.type "list",data:=.seq vs.toArray} (.lst (ns.map V.int)))) Pt (CY Pt #[])) ⟨aZ,λb f=>?_⟩ (.inl (.inr ⟨{ cls:=.type "list",data:=.seq vs.toArray},R⟩)) (λb u z=>?_) (λb z=>?_) λ_=>hk
  ·
   by_cases g:b=a
   ·
    subst g;exact .inr ⟨_,_,R⟩
   ·
    exact .inl (M b f g)
  ·
   by_cases f:b=Pt
   ·
    subst f;exact N _ aZ u z
   ·
    by_cases g:b=a
    ·
     subst g
     rw[R] at z;cases z
     exact⟨E,by rw[g_];exact hl,vs,_,rv,E⟩
    ·
     rw[M b f g] at z;cases z
  ·
   by_cases f:b=Pt
   ·
    exact .inr f
   ·
    by_cases g:b=a
    ·
     exact .inl g
    ·
     exact AL (M b f g) z
theorem ahC {l:PySem.W.OpenLaw}{K:mi->a5}{CX:bg->MG}{sp:bg->Sp} (N:l.most=ab n) (r:n<=am) (B:d.params.defaults=[]) (M:xr k nk) (R:∀(w:bg) (h:cn),YP w h->(K w.params).In h/\h.get? Pt=ab (y4 #[])/\l9 h Pt) (D:∀w:bg,(K w.params).lookup Pt=af) (F:∀(w:bg) (mg:aw->ζ av) (p:ae) (h:cn),(K w.params).In h->h.Ns bo mg->mg d.name=ab (.ref p) ->
   ∃A:d4,(∀(s:aT) (u:av),rc s A ⟨[u],[]⟩ [(x,u)]) /\
    ∀base:cn,(K w.params).In base->base.Ns bo mg->HM l.prog w (K w.params) mg base (CX w) k p A [x] (sp w)) (z:∀(w:bg) (H:Hp) (a:ae) (ns:ξ Int),ns.length<=n->Im H Pt->BN (K w.params) H a (ns.map V.int)->sp w [.ref a] H (λv _=>v=.bl ag) λ_ _ _=>False) (C:∀(w:bg) (H:Hp) (s:aT) (e:av) (s':aT),CX w [] H s (λ_ _ _=>False) e s'->False):
  xy q loose XP YP l.row.toRowW d [] (λf vs=>wP f vs):=by
 refine Att.agj N B λw I j mg mb p o Z cd Q a vs ns G Y ho hd O y m i c L=>?_;obtain⟨J,E,t⟩:=R w _ Y;obtain⟨A,P,S⟩:=F w mg p _ J G.T.g y;exact Du J E t (D w) G.T.g G.T.b G.T.builtins G.T.nolimit L m i (S_ c r) M S P (λH U X=>z w H a ns c U X) λH e s'=>C w H j e s'
end L2
namespace L3
open L2 PySem.W M
theorem z! {K:a5}{st:ez} (F:G1 K x qual st f fd) (g:fd.code=.ref c) (S:gV N ps (aB st)) (i:∀ts H Q,sp ts H Q->ts.length=ps.length) (d:∀(A:dn) (a:ξ yA) (s:aT) (H:Hp) (E:XK) (ts:ξ T) (H3:lq) (Q:AC),xr k (A.deeper (hZ qual (aB st) s.heap.objs.size f (.ref c)))->sp ts H3 Q ->
   ∃t,pZ (ux KM P w K mg base N qual (aB st) f (.ref c) A a s H E).nox (cP st) t/\t { nx:=λ_ H'=>My Q .non H',rt:=My Q} (aP N ts) H3):iU P w K mg base (k+1) f fd ps sp:=by
 obtain⟨M,R,kV,C,L,O,j,U,J,rfl,y,h⟩:=F.ex;have e:j=.ref c:=g;subst e;refine Pu y h S (λvs H Q E ⟨ts,H3,Q3,r,o,q,k⟩=>by rw[<- r.length];exact i _ _ _ q) λA a s H vs Q E B ⟨ts,H3,Q3,r,o,q,k⟩=>?_;obtain⟨t,u,hq⟩:=d A a s H E ts H3 Q3 B q;exact⟨_,Da.nox u,aP N ts,H3,_,qM r,o,hq,λσ' H' p m l G b ⟨I,n,q⟩=>k _ _ _ _ l (b.sub n) .ofNon q,λv H' t m l b D ⟨I,n,q⟩=>k _ _ _ _ l (b.sub n) D q,λ_ _ _ _ _ _ _ z=>z,λ_ _ _ _ _ _ _ z=>z⟩
theorem Nf (h:H P=ab (CY P #[])):Fo H P a qual:=⟨#[],h,AD,.inl rfl⟩
noncomputable def Bd (n0:ξ (aw × er)) (N:ξ aw) (a:ξ (aw × er)) (N':ξ aw) (y:aw) (cap:ξ Nat):Bool :=
 a.all (λx=>x.2 != .cell)&&N'.take 1==[y]&&a.lookup y==ab .local&&a.all (λz=>z.2 != .free||n0.lookup z.1==ab .cell||n0.lookup z.1==ab .free)&&N'.length==1+cap.length &&
  (ay cap.length).all λj=>match N'[1+j]?,cap[j]? with
   |some x,ab i=>N[i]?==ab x&&a.lookup x==ab .free
   |_,_=>ai
theorem Zh {X:Cx}{scope:Scope} (d:X.env.scope.names=n0) (p:X.N=N) (h:Bd n0 N scope.names N' y cap=ag) (o:scope.kind=.function:=by rfl) (b:scope.isCoroutine=ai:=by rfl) (a:scope.isGenerator=ai:=by rfl):Qb N' [y] scope/\T2 X N' cap scope:=by
 unfold Bd at h;simp only[F_,V_,E1,bne_iff_ne,PH,Y_] at h;obtain⟨⟨⟨⟨⟨s,n⟩,f⟩,l⟩,t⟩,k⟩:=h;refine⟨⟨o,b,a,s,n,Ap,λx r=>by rw[j_.mp r];exact f⟩,λz g e=>?_,t,λj x e=>?_⟩
 .show X.env.scope.names.lookup z.1=_\/X.env.scope.names.lookup z.1=_;rw[d];rcases l z g with (q | q) | q
  .exact AL e q
  .exact .inl q
  exact .inr q
 have m:j<cap.length:=by have:=(IR.mp e).1;omega
 have q:=k j m;rw[e] at q;cases c:cap[j]? with
 |none=>rw[c] at q;cases q
 |some i =>
 rw[c] at q;simp only[F_,E1] at q;exact⟨i,rfl,by rw[p];exact q.1,q.2⟩
section
variable {params:xI}{lpos u? kp p:gE}
theorem Ng (l:xr (n+3) X.A) (i:Gl X "sorted") (m:X.mg "sorted"=af) (r:AA X d td) (S:Qb N' [y] scope/\T2 X N' cap scope) (t:X.env.code=.ref c) (C:y9 X.base c P) (o:X.base.BuiltinsAt X.mg P)
  (g:bo≠P) (a:∀f cd cl s H,xr n (lN X N' qual scope f cd cl X.A.in1.in1 s H).A->AA (lN X N' qual scope f cd cl X.A.in1.in1 s H) body tb) (j:N'[0]?=ab y:=by rfl) (hq:X.env.qual++"<lambda>"=qual:=by rfl) (b:vF params X.env=([],[]):=by rfl)
  (q:∀cl pm c' ctv u,c8 (y8 "<lambda>" qual params body scope cl pm c' ctv) ⟨[u],[]⟩=ce ([y].zip [u]):=by intros;rfl)
  (k:aE [d] X.env=(ai,bt d X.env)::aE [] X.env:=by rfl)
  (h:cf u? (aE [d] X.env)=(ai,bt d X.env)::cf u? (aE [] X.env):=by rfl)
  (e:(cf u? (aE [d] X.env)).any (·.1)=ai:=by rfl) :
  AA X (.Call (.Name "sorted" p) [d] [⟨ab "key",.Lambda params body scope lpos,kp⟩] u?) (Bb P lpos qual td tb cap) :=
 Nb l i m r S.1 S.2 t C o g a j hq b q k h e
end
end L3
namespace L2
section
variable {X:Cx}{pins:ξ (ae × dP)}{σ:St}
theorem Vi (y:A.units+30<br) (I:Inv X pins σ H s) (e:H a=ab (BQ X.prog X.w a ks)) (n:uK X.K H ks) (m:E9 X.K H k b) (C:ks.length<am) (o:z4 v r) (h:∀s',Inv X pins σ (As H a (BQ X.prog X.w a (mC ks k b v))) s'->Q () s'):ax (aI X.prog X.w) A (dictSet a (.ref b) r) Q E s:=by
 obtain⟨z,u,xs,d,i⟩:=rK I e n;have g:xs.length<=am:=by rw[<- EO d];exact z
 refine ot (knd:=ej (bc X.prog X.w)) (hsz:=g) (show A.units<br by omega) (m.is I) i λh' c t=>h _ ?_;obtain⟨q,p,ep,hq,l,f,j,_,x⟩:=c;have B:=uJ (ks:=ks) (k:=k) (b:=b) (v:=v);exact jf I (by rw[e];exact cx) t ⟨q,hq⟩ (BQ.ok ⟨zo,u,_,d.put k b o,q,p,ep,hq,l,f,j,x⟩)
def Zi (X:Cx) (e c:TE):TE:=λσ H Q=>∀p,H p=af->e σ (As H p (BQ X.prog X.w p [])) λy d=>c σ d λv a=>∃b k,y=.ref b/\a p=ab (BQ X.prog X.w p [])/\E9 X.K a k b/\Q (.ref p) (As a p (BQ X.prog X.w p (mC [] k b v)))
theorem Nh (g:X.A.units+30<br) (d:PE X i ty) (a:PE X value tv):PE X (.Dict [ab i] [value] u?) (Zi X ty tv):=by intro pins s σ H Q I h;refine wpAny_Dict_any rfl rfl Ap (by show 1<=15;decide) ?_;refine ny (AE (d pins _ σ _ _ (Fv I) (h _ (I.hok.fresh (o_ _)))) λe l ⟨y,o,p,f,t⟩=>AE (a pins l σ o _ p t) λu B ⟨v,x,n,q,b,k,m,w,r,c⟩=>oy ?_);subst m;obtain rfl:e=aS b:=f;unfold storeAll;rw[HC];refine a_ (a_ (Vi g n w (λ_ z=>nomatch z) r zC q λC j=>i_ ?_));show ax _ _ (forIn [] PUnit.unit _) _ _ _;rw[MM];exact i_ ⟨.ref s.heap.objs.size,_,j,rfl,c⟩
end
end L2
namespace L3
open L2
def LU (P:bb) (w:bg) (y:T) (p:ae) (v:T) (H:lq) (Q:AC):Prop:=oq (LX y) λk=>H p=ab (.dtk P w [])/\Q (.ref p) (fY H p (.dtk P w [(k,v)]))
def sV (P:bb) (w:bg) (a b:AF):AF:=λσ H Q=>∀p,H p=af->a σ (fY H p (.dtk P w [])) λy c=>b σ c λv d=>LU P w y p v d Q
theorem QV (P:bb) (w:bg) (ns:ξ aw) (p:ae) (v:T):LU P w (.tup (ns.map zi)) p v H Q=(H p=ab (.dtk P w [])/\Q (.ref p) (fY H p (.dtk P w [(ns.map bv,v)]))):=by unfold LU;rw[Ij];rfl
theorem Dv (j:X.prog=P) (L:X.w=w) (O:X.A.units+30<br) (M:AA X i ti) (I:AA X value tv):AA X (.Dict [ab i] [value] u?) (sV P w ti tv):=by
 subst j L;refine PE.imp (Nh O M I) ?_;rintro σ H Q ⟨l,H3,Q3,B,F,h,k⟩ p j;have d:t6 X.K H (As H p (BQ X.prog X.w p [])):=aO j;refine⟨l,fY H3 p (.dtk X.prog X.w []),_,B.mono d,F.newK j,h p (F.fresh j),λy W R r m s N U=>⟨l,r,_,B.mono (d.trans m),s,U,λz C J n g o T f=>?_⟩⟩;cases e:LX R with
 |none=>unfold LU at f;rw[e] at f;exact f.elim
 |some t =>
 unfold LU at f;rw[e] at f;have x:n p=ab (.dtk X.prog X.w [])/\Q3 (.ref p) (fY n p (.dtk X.prog X.w [(t,J)])):=f;obtain⟨ks,E,S⟩:=o p _ x.1;cases S;obtain⟨b,G,D⟩:=Ax e (N.mono g);have a:t6 X.K C (As C p (BQ X.prog X.w p (mC [] t b z))):=bW (by rw[E];exact trivial);refine⟨b,t,G,E,D,k _ _ _ _ (d.trans (m.trans (g.trans a))) (λc u q=>?_) .ofRef x.2⟩;by_cases v:c=p
 .subst v;rw[aq] at q;cases q;exact⟨_,aZ,.cons ⟨rfl,a.1 _ _ D,T.mono a⟩ .nil⟩
 rw[aF v] at q;exact (o c u q).stay a λV q=>by rw[aL v];exact q
theorem oO (v:X.prog=P) (s:X.w=w) (B:X.A.units+30<br) (u:AA X i ti) (C:AA X o r) (I:bP .NotIn o=ai:=by rfl):DT X (.Compare i [.NotIn] [o] u?) (iD (yN P w ag ti r)):=by subst v s;refine PT.imp (m6 (Dr B u C) I) ?_;rintro σ H Q ⟨f,H3,Q3,p,G,h,k⟩;refine⟨f,H3,_,p,G,h,λy M N m j n z J=>⟨f,m,_,p.mono j,n,J,λx K L E d l D t=>?_⟩⟩;obtain⟨a,b,F,ks,c,g,e,q⟩:=Az (neg:=ag) (Q3:=λx H'=>match x with | .bl k=>Q3 k H' | _=>False) l D (z.mono d) t;exact⟨a,b,F,ks,g,c,by rw[e],k _ _ _ (j.trans d) l q⟩
open L2 PySem.W M
def TC (P:bb) (w:bg) (A:dn) (a:SortKind) (vs:ξ av) (s:aT):Prop:=∀i (C:Bool->aT->Prop),i+1<vs.length->C ai s->i6 P w A a vs (i+1) i C s
theorem Ni (h:TC P w A i vs s) (N:2<=vs.length) (q:∀st,ev st=ef vs->fq st=af->Q () st):wpS (aI P w) A E s sortRuns' Q (ic i (ef vs) #[] 7 af):=by
 have G:=pairsOf_size vs;have H:∀{Q:ζ Nat->wE->Prop} {st:wE},st=ic i (ef vs) #[] 7 af->Q (ab vs.length) st->wpS (aI P w) A E s (countRun' 0 vs.length) Q st:=λ{Q st} g hq=>by
  rw[countRun'_eq];refine FD (yB (o2 (I:=λx c d=>d=st/\c=(af,x)) (Q:=λc d=>d=st/\c=(af,vs.length)) ?_ ?_ ⟨rfl,rfl⟩) ?_)
  .rintro x c d M t ⟨rfl,rfl⟩;have u:(ev d)[0+x]?=ab ((ef vs)[x]' zo):=by subst g;show (ef vs)[0+x]?=_;rw[kN,IE zo]
   have B:(ev d)[0+x - 1]?=ab ((ef vs)[x - 1]' zo):=by subst g;show (ef vs)[0+x - 1]?=_;rw[kN,IE zo]
   refine FD ?_;dsimp only;rw[ltAt'_eq];refine FD (tf ?_);show wpS _ _ _ _ (do let a <- elem' (ev d) (0+x);let b <- elem' (ev d) (0+x - 1);lt' a b) _ d;rw[elem'_eq,elem'_eq,u,B];refine FD (Ic (FD (Ic ?_)));rw[lt'_eq];refine FD (tf ?_);have m:=h (x - 1) (λb s'=>b=ai/\s'=s) zo ⟨rfl,rfl⟩;unfold i6 at m;rw[show x - 1+1=x by omega] at m;have r:∀y (p:y<(ef vs).size),((ef vs)[y]'p).1=vs.getD y bp:=λy p=>by
    have j:y<vs.length:=zo
    rw[k_,e_ j];unfold ef;simp
   rw[show PyProof.Rows.kindOf d=i by subst g;rfl,r,r];refine FD (wpS_lift (NJ (CA m (λb s' z=>?_) λ_ _ z=>z.elim)));obtain⟨rfl,rfl⟩:=z;exact⟨rfl,Ic (Ic ⟨rfl,rfl⟩)⟩
  .rintro c d ⟨rfl,rfl⟩;exact⟨rfl,by rw[show max 1 vs.length=vs.length by omega]⟩
  rintro c d ⟨rfl,rfl⟩;dsimp only;rw[z3 Ap];exact Ic hq
 have K:∀a b c:Nat,c<=1->yi a b c<=b+1:=λa=>by
  induction a with
  |zero=>intro b c D;show b+c<=_;omega
  |succ a F =>
  intro b c D;rw[minRun'_succ];split
  .omega
  have:=F (b / 2) (max c (b%2)) zo;omega
 have J:yi vs.length vs.length 0<=vs.length:=by
  obtain⟨f,v⟩:∃f,vs.length=f+1:=⟨vs.length - 1,zo⟩;generalize L:vs.length=n at *;rw[show yi n n 0=yi (f+1) n 0 by rw[<- v],minRun'_succ];split
  .omega
  have:=K f (n / 2) (max 0 (n%2)) zo;omega
 have C:∀{st:wE} {Q:Unit->wE->Prop},Q () st->wpS (aI P w) A E s (ce ()) Q st:=λq=>Ic q;rw[sortRuns'_eq];refine FD (tf ?_);dsimp only;rw[show (ev (ic i (ef vs) #[] 7 af)).size=vs.length from G];refine FD (yB (o2 (I:=λx c d=>(x=0/\c=(af,0)/\d=ic i (ef vs) #[] 7 af)\/(1<=x/\c=(af,vs.length)/\ev d=ef vs/\fq d=af/\pendingOf d=#[(0,vs.length,0)]))
  (Q:=λc d=>c=(af,vs.length)/\ev d=ef vs/\fq d=af/\pendingOf d=#[(0,vs.length,0)]) ?_ ?_ (.inl ⟨rfl,rfl,rfl⟩)) ?_)
 .rintro x c d _ t (⟨rfl,rfl,rfl⟩ | ⟨_,rfl,o,l,k⟩)
  .dsimp only;rw[zD zo];refine FD (H rfl ?_);dsimp only;rw[zD zo];refine FD (tf ?_);exact FD (wpS_modify (Ic (.inr ⟨zo,by rw[kN],rfl,rfl,rfl⟩)))
  dsimp only;rw[z3 (o_ _)];exact Ic ⟨rfl,o,l,k⟩
 .rintro c d (⟨h,_⟩ | ⟨_,a⟩)
  .omega
  exact a
 rintro c d ⟨rfl,o,l,k⟩;dsimp only;refine FD (yB (o2 (I:=λx c e=>c=(af,())/\e=d) (Q:=λc e=>c=(af,())/\e=d) ?_ (λ_ _ z=>z) ⟨rfl,rfl⟩) ?_)
 .rintro x c e _ _ ⟨rfl,rfl⟩;refine FD (tf ?_);rw[k,z3 (show (#[(0,vs.length,0)]:Array (Nat × Nat × Nat)).size<=1 from o_ 1)];exact Ic ⟨rfl,rfl⟩
 rintro c e ⟨rfl,rfl⟩;exact Ic (q _ o l)
theorem Y2 (vs:ξ av):(ef vs).map (·.2)=vs.toArray:=by apply Array.toList_inj.mp;rw[Array.toList_map,pairsOf_toList];show (vs.zip vs).map Prod.snd=vs;exact List.map_snd_zip (o_ _)
theorem yO (m:s.heap.get? a=ab (a4 "list" vs.toArray c)) (z:vs.length<=am) (B:2<=vs.length->∀h',(∀b o,b≠a->s.heap.get? b=ab o->h'.get? b=ab o)->ax (aI P w) A (pE vs.toArray) (λp s'=>s'={ s with heap:=h'}/\TC P w A p vs { s with heap:=h'}) (λ_ _=>False) { s with heap:=h'}) (h:R (.done (.ret .none)) { s with heap:=eK s.heap a vs vs.toArray}):ax (aI P w) A (dt.«list.sort» ⟨[.ref a],[]⟩) R E s:=by
 have C:a<s.heap.objs.size:=y_ m;rw[sB];refine a_ (NC m rfl ?_);refine a_ (ID m rfl ?_ (by rw[m_];omega) (B8 _));obtain⟨n,j⟩:∃n,(s.heap.update a (a9 λ_=>(#[]:Array av))).get? a=ab (a4 "list" #[] n):=⟨_,GN m λ_=>#[]⟩;refine a_ (MA j rfl ?_);refine a_ (hG ?_ z);refine a_ (IZ ?_ (B8 _));refine DU ?_;have l:(((s.heap.update a (a9 λ_=>(#[]:Array av))).push (a4 "tuple" vs.toArray 0)).push (a4 "list" #[] 0)).get? a=ab (a4 "list" #[] n):=b_ _ (b_ _ j);show ax (aI P w) A _ R E { s with heap:=((s.heap.update a (a9 λ_=>(#[]:Array av))).push (a4 "tuple" vs.toArray 0)).push (a4 "list" #[] 0)};dsimp only;have k:∀st:wE,ev st=ef vs->fq st=af->ax (aI P w) A (do
   let f:=(ev st).map (·.2)
   let d:=(<- seqEpoch a) != n
   eT (.ref a) λ_=>f
   if let ab e:=fq st then rule "list.sort.comparison-raised";throw e
   if d then rule "list.sort.modified";raiseError "ValueError" "list modified during sort"
   ce (PySem.Fin.done (.ret .none))) R E { s with heap:=((s.heap.update a (a9 λ_=>(#[]:Array av))).push (a4 "tuple" vs.toArray 0)).push (a4 "list" #[] 0)}:=λst v i=>by
  rw[v,i,Y2]
  refine a_ (MA l rfl ?_)
  refine a_ (ID l rfl ?_ (B8 _) (by rw[m_];omega))
  simp only[Sj,u_,W_]
  exact i_ h
 by_cases i:vs.toArray.size<2
 .rw[z3 i,z3 i];refine a_ (i_ ?_);rw[lf];exact a_ (i_ (k _ rfl rfl))
 rw[zD i,zD i];rw[m_] at i;refine a_ (CA (B zo _ λb o u e=>b_ _ (b_ _ ((IM _ _ _ _ u).trans e))) (λp s' t=>?_) λ_ _ x=>x.elim);obtain⟨rfl,y⟩:=t;refine a_ (CA (Ni (Q:=λ_ g=>ev g=ef vs/\fq g=af) y zo λst a b=>⟨a,b⟩) ?_ λ_ _ e=>e);rintro⟨⟨⟩,g⟩ s' ⟨rfl,q,r⟩;exact k _ q r
theorem Nj (k:∀A' E',A'.handled=A.handled->ax (aI P w) A' (kH x) (λvs s1=>vs.length<=am /\
   (2<=vs.length->∀h',ET s1.heap h'->ax (aI P w) A.in1.in1 (pE vs.toArray) (λκ s'=>s'={ s1 with heap:=h'}/\TC P w A.in1.in1 κ vs { s1 with heap:=h'}) (λ_ _=>False) { s1 with heap:=h'}) /\
   ∀h' c,ET s1.heap h'->h'.get? s1.heap.objs.size=ab (a4 "list" vs.toArray c)->Q (.ref s1.heap.objs.size) { s1 with heap:=h'}) E' s):ax (aI P w) A (fT (.builtin "sorted") [x]) Q E s:=by
 refine SO l8 kC kF (p9 _) ?_;unfold dt.«sorted»;refine a_ (m:=oC "sorted" 1 1 _) (i_ ?_);refine a_ (CA (k _ _ rfl) (λvs s1 g=>?_) λ_ _ e=>e);obtain⟨f,i,h⟩:=g;refine a_ (IZ ?_ f);have a:(s1.heap.push (a4 "list" vs.toArray 0)).get? s1.heap.objs.size=ab (a4 "list" vs.toArray 0):=l_ _ rfl;refine a_ (DU (EH hH ⟨_,a,rfl⟩ fS (yO a f (λj h' d=>i j h' λb o e=>d b o ?_ ?_) ⟨_,rfl,?_⟩) (mf _)))
 .exact H_ (y_ e)
 .exact b_ _ e
 obtain⟨d,c,l⟩:=Ar (h:=s1.heap) (vs:=vs) (out:=vs.toArray);exact i_ ⟨_,rfl,h _ c d l⟩
noncomputable def prT (p:Int × Int):T:=.tup [.int p.1,.int p.2]
noncomputable def prK (p:Int × Int):ξ AG:=[.inl p.1,.inl p.2]
def Dw (a b:Int × Int):Prop:=a.1<b.1\/(a.1=b.1/\a.2<b.2)
section
variable {X:Cx}{pins:ξ (ae × dP)}{σ:L2.St}
def vZ (h:cn) (p:Int × Int) (v:av):Prop:=∃a o n t u,v=.ref a/\h.get? a=ab o/\o.cls=.type "tuple"/\o.data=.seq #[.int p.1 t,.int p.2 u] n
theorem Zj (I:Inv X pins σ H s) (i:ET s.heap h') (h:A3 X.K H a ((prK p).map kV)):vZ h' p (.ref a):=by
 obtain⟨c,j,⟨o,f,k,n,e⟩,_⟩:=I.tuple h;have b:zS [V.int p.1,V.int p.2] c:=j;cases b with
 |cons g b =>
 cases b with
 |cons d b =>
 cases b;obtain⟨t,rfl⟩:=g;obtain⟨t',rfl⟩:=d;exact⟨a,o,n,t,t',rfl,i a o f,k,e⟩
theorem Io (I:Inv X pins σ H s) (a:ET s.heap h'):∀{ps:ξ (Int × Int)}{xs:ξ (TK × ae × av)},dQ (λp x=>A3 X.K H x.2.1 ((prK p).map kV)) ps xs->dQ (λp v=>vZ h' p v) ps (xs.map λx=>aS x.2.1)
 |_,_,.nil=>.nil
 |_,_,.cons q r=>.cons (Zj I a q) (Io I a r)
noncomputable def wj:∀{ps:ξ (Int × Int)}{xs:ξ (TK × ae × av)},dQ (λp x=>A3 X.K H x.2.1 ((prK p).map kV)) ps xs->nP X.K H (ps.map prT) (xs.map λx=>V.ref x.2.1)
 |_,_,.nil=>.nil
 |_,_,.cons q r=>.cons (sU q) (wj r)
theorem sW:∀{ps:ξ (Int × Int)}{vs:ξ av},dQ (λp v=>vZ h' p v) ps vs->∀{i:Nat}{p:Int × Int},ps[i]?=ab p->∃v,vs[i]?=ab v/\vZ h' p v
 |_,_,.nil,i,p,e=>by simp at e
 |_,_,.cons q r,0,p,e=>by cases e;exact⟨_,rfl,q⟩
 |_,_,.cons q r,i+1,p,e=>sW r e
theorem Be:∀{ps:ξ (Int × Int)}{b:ξ av},dQ (λp v=>vZ h' p v) ps b->∃c,KatTups h' b c/\c.length=b.length/\∀v∈c,∃x t,v=c9 x t
 |_,_,.nil=>⟨[],.nil,rfl,λ_ z=>nomatch z⟩
 |p::ps,_,.cons q r=>by
  obtain⟨c,i,d,h⟩:=Be r
  obtain⟨a,o,n,t,u,rfl,g,k,j⟩:=q
  exact⟨.int p.1 t::c,.cons g k j rfl i,by simp [d],λz f=>by
   rcases v_.mp f with e | e
   ·
    exact⟨_,_,e⟩
   ·
    exact h z e⟩
theorem Zk (e:s'.heap=h') (m:vZ h' x u) (k:vZ h' y v) (j:Dw y x) (h:C ai s'):
  ax (aI P w) A (keyLt' (tuples' ag) u v) C E s':=by
 obtain⟨a,o,n,q,p,rfl,i,B,g⟩:=m;obtain⟨b,z,s,r,t,rfl,d,l,c⟩:=k;subst e;unfold Dw at j;refine kat_lt i g d c ?_;refine pS (L5 _ _ _ _ P w _ _ ?_);by_cases f:x.1=y.1
 .rw[show (x.1==y.1)=ag from E1.mpr f];refine yn (pS (L5 _ _ _ _ P w _ _ ?_));rw[show (x.2==y.2)=ai from EB.mpr zo];refine yv (kat_one _ _ (pa ?_));rw[q_ zo];exact h
 rw[show (x.1==y.1)=ai from EB.mpr f];refine yv (oneLt_int ?_);rw[q_ zo];exact h
end
def OW (o:ζ O3) (H:lq) (Q:AC):Prop:=match o with
 |some (.dtk _ _ kvs)=>∃ps:ξ (Int × Int),kvs.map (·.1)=ps.map prK/\ps.Pairwise Dw/\∀p,H p=af->Q (.ref p) (fY H p (.lst (ps.map prT)))
 |_=>False
def Ip:ξ T->lq->AC->Prop:=λts H Q=>match ts with
 |[.ref a]=>OW (H a) H Q
 |_=>False
theorem Vj (a:ae) (H:lq) (Q:AC):Ip [.ref a] H Q=OW (H a) H Q:=rfl
theorem Zm (P:bb) (w:bg) (kvs:ξ (TK × T)) (H:lq) (Q:AC):OW (ab (.dtk P w kvs)) H Q=(∃ps:ξ (Int × Int),kvs.map (·.1)=ps.map prK/\ps.Pairwise Dw/\∀p,H p=af->Q (.ref p) (fY H p (.lst (ps.map prT)))):=rfl
theorem Nk (hr:xr n X.A):dB X (.builtin "sorted") Ip:=by
 intro pins s σ H xs us Q I rv h;obtain⟨ts,H3,Q3,r,R,h,k⟩:=h
 match ts,h,r with
 |[.ref a],h,r =>
 obtain⟨v,rfl,O⟩:=r.one';obtain⟨u,rfl,ru⟩:=AU rv;rw[O.ref] at ru;cases ru;have h':OW (H3 a) H3 Q3:=h;unfold OW at h';split at h'
 .rename_i Pg wg kvs Z;obtain⟨ps,d,j,Y⟩:=h';obtain⟨ws,G,rd⟩:=R a _ Z;obtain⟨z,J,xs,y,o,es,ep,h1,h2,U,h4,h5⟩:=(show W2 X.prog X.w H s.heap a (BQ Pg wg a ws) from I.hok a _ G).1;have m:dQ (λ(p:Int × Int) (x:TK × ae × av)=>A3 X.K H x.2.1 ((prK p).map kV)) ps xs:=by
   clear h1 h2 U h4 h5 Y Z G z j;induction rd generalizing ps xs with
   |nil =>
    cases y;cases ps with
    |nil=>exact .nil
    |cons p r=>cases d
   |cons q _ ih =>
   cases y with
   |cons q2 r2 =>
   cases ps with
   |nil=>cases d
   |cons p r =>
   rw[I_,I_] at d;obtain⟨S,e3⟩:=oe d;refine .cons ?_ (ih _ e3 _ r2);rw[<- S,<- q2.2.1];show A3 X.K H _ _;rw[<- q.1];exact q.2.1
  have hl:=EO m;have N:xs.length<=am:=by rw[<- EO y];exact z
  have dk:E3 s.heap a (xs.map λx=>aS x.2.1) ep:=⟨o,es,h1,h2,U,by rw[h4,N_];rfl⟩;refine Nj λA' E' hA=>iY (Aw J) (hA.trans hr.hd) dk (by rw[g_];exact N) λg tk D kp E l=>?_;have F:D.toList=xs.map λx=>aS x.2.1:=by
   apply Na;intro i;by_cases W:i<D.size
   .have e:=IE W;rw[MD,e];exact (l.2 i _ e).symm
   rw[Ee (by rw[E7];omega),Ee (by have:=l.1;omega)]
  rw[F];have L:∀g',ET s.heap g'->dQ (λp v=>vZ g' p v) ps (xs.map λx=>aS x.2.1):=λg' kq=>Io I kq m;refine⟨by rw[g_];exact N,λg2 g' kq=>?_,λg' c kq hc=>?_⟩
  .have f:=L g' λb o e=>kq b o (kp b o e);obtain⟨fs,kt,hfl,M⟩:=Be f
   refine kat_kind (T:=.type "int") (s:={ s with heap:=g',toks:=tk}) kt zo (λv hv=>?_) rfl ⟨rfl,λi C W hC=>?_⟩
   .obtain⟨x,t,rfl⟩:=M v hv;exact ke rfl
   have l2:=EO f
   obtain⟨vi,S,p1⟩:=sW f (i:=i) (p:=ps[i]) (e_ zo);obtain⟨vj,G,p2⟩:=sW f (i:=i+1) (p:=ps[i+1]) (e_ zo);unfold i6;rw[k_,k_,S,G];exact Zk rfl p2 p1 (OM.mp j i (i+1) zo zo zo) hC
  have rz:zS (xs.map λx=>V.ref x.2.1) (xs.map λx=>aS x.2.1):=lD;have ry:nP X.K H (ps.map prT) (xs.map λx=>V.ref x.2.1):=wj m;have B:s.heap.objs.size<=g.objs.size:=D0 E;have P:H g.objs.size=af:=I.hok.fresh B;refine⟨.ref g.objs.size,As H g.objs.size (.lst (xs.map λx=>V.ref x.2.1)),I.laid (t':=tk) (λb o e=>kq b o (kp b o e)) B ⟨by rw[g_];exact N,_,c,rz,hc⟩,rfl,?_⟩;exact k _ _ _ _ (aO P) (R.newLst P ry) .ofRef (Y _ (R.fresh P))
 exact h'.elim
@[reducible] noncomputable def OG:kR:=⟨Int,λa b=>decide (a<b),λa=>by simp,λa b c d e=>by simp only[h_] at *;omega,λa b c h=>by simp only[h_] at *;omega,λa b d e=>by simp only[Mc] at *;omega⟩
section
variable {X:Cx}{pins:ξ (ae × dP)}{σ:L2.St}
def Dy {K:a5} (r:ES K H kvs vs):nP K H (kvs.map λq=>zh q.1) (vs.map λq=>kV q.1):=by
 induction r with
 |nil=>exact .nil
 |cons h _ a =>
 refine .cons ?_ a;dsimp only;rw[h.1];exact .ofInt
noncomputable def sX:∀{ns:ξ Int}{d:ξ V}{c:ξ av},nP X.K H (ns.map zh) d->zS d c->cS c ns
 |[],_,_,r,a=>by rw[r.inv0] at a;cases a;exact .nil
 |x::ss,_,_,r,a=>by
  obtain⟨v,f,rfl,q,b⟩:=r.inv
  cases a with
  |cons e a =>
   cases q.int
   obtain⟨t,rfl⟩:=e
   exact .cons x t (sX b a)
theorem B3 (h:cS a ns):∀i,i<a.length->∃t,a.getD i bp=c9 (ns.getD i 0) t:=by
 induction h with
 |nil=>intro i b;exact AL b (sK _)
 |cons x t _ c =>
 intro i b;cases i with
 |zero=>exact⟨t,rfl⟩
 |succ i=>exact c i (by simpa using b)
theorem wu (h:cS a ns):a.length=ns.length:=by
 induction h with
 |nil=>rfl
 |cons x t _ b=>rw[n_,n_,b]
theorem ww (h:cS b ns):∀v∈b,∃x t,v=c9 x t:=by
 induction h with
 |nil=>intro v a;cases a
 |cons x t _ c =>
 intro v a;rcases v_.mp a with rfl | a
 .exact⟨x,t,rfl⟩
 exact c v a
theorem Dz (I:Inv X pins σ H s) (sh:zc X.K H3 H) (k:HA X.K H Q3 Q) (hh:X.A.handled=af) (r:Rd H a (.dK vs)) (rd:ES X.K H kvs vs) (h64:kvs.length<64) (h:∀us:ξ Int,us.Perm (kvs.map (·.1))->us.Pairwise (λx y=>OG.kle x y)->∀p,H3 p=af->Q3 (.ref p) (fY H3 p (.lst (us.map zh)))):ax (aI X.prog X.w) X.A (fT (.builtin "sorted") [.ref a]) (EP X pins σ Q) X.xe s:=by
 obtain⟨z,hd,U,J,dd⟩:=nG I.hok r;obtain⟨o,es,ep,h1,h2,h3,h4,h5,h6⟩:=dd;have hl:=J.length;have hl2:=EO rd;refine Av (O:=OG) (key:=λi=>((kvs.map (·.1)).getD i 0:Int)) λA' E' hA=>?_;refine iY (kdl_dict (knd:=bc X.prog X.w) (kvs:=U) (ep:=ep) hd) (hA.trans hh) ⟨o,es,h1,h2,h3,h4,h5,h6⟩ zo λh' tk E kp L n=>?_;have l:=Dp (P:=X.prog) (w:=X.w) J E.toList (by rw[E7];exact n.1) λj v e=>n.2 j v (by rw[<- MD];exact e);have rs:=Dy rd;have f:nP X.K H ((kvs.map (·.1)).map zh) (vs.map λq=>kV q.1):=by rw[N_];exact rs
 have S:=sX f l;have l3:=wu S;rw[g_] at l3;generalize hys:(vs.map λq=>kV q.1)=R at l f;generalize E.toList=M at *;have l1:=f.length;rw[g_,g_] at l1;have l2:=l.length;have hz:am=16777216:=rfl;refine⟨zo,λg2 g' kq=>?_,λq g' c hs kq Z=>?_⟩
 .refine kas_kind (T:=.type "int") (s:={ s with heap:=g',toks:=tk}) g2 (λv hv=>?_) rfl rfl ⟨rfl,λi j C d m hC=>?_⟩
  .obtain⟨x,t,rfl⟩:=ww S v hv;exact ke rfl
  obtain⟨t,N⟩:=B3 S i d;obtain⟨u,r⟩:=B3 S j m;unfold i6;rw[N,r];exact kat_lt_int hC
 obtain⟨D,W⟩:=hs;have g:∀i∈q,i<kvs.length:=λi d=>by have:=Y_.mp (D.mem_iff.mp d);omega
 have F:q.length=kvs.length:=by rw[D.length_eq,D_];omega
 have ry:nP X.K H ((q.map λi=>(kvs.map (·.1)).getD i 0).map zh) (q.map λi=>R.getD i .non):=by
  clear W D F Z;induction q with
  |nil=>exact .nil
  |cons i q ih =>
  refine .cons ?_ (ih λj m=>g j (.tail _ m));have d:=g i (.head _);have G:i<(kvs.map (·.1)).length:=by rw[g_];exact d
  obtain⟨y,N,r1⟩:=f.get (i:=i) (t:=zh ((kvs.map (·.1))[i])) (by rw[C_,e_ G];rfl);dsimp only;rw[k_,e_ G,k_,N];exact r1
 have rz:zS (q.map λi=>R.getD i .non) (q.map λi=>M.getD i bp):=by
  clear W D F ry Z;induction q with
  |nil=>exact .nil
  |cons i q ih =>
  refine .cons ?_ (ih λj m=>g j (.tail _ m));have d:i<R.length:=by have:=g i (.head _);omega
  obtain⟨z,N,r1⟩:=l.get (i:=i) (e_ d);dsimp only;rw[k_,e_ d,k_,N];exact r1
 have B:s.heap.objs.size<=h'.objs.size:=D0 L;have Y:H h'.objs.size=af:=I.hok.fresh B;refine⟨.ref h'.objs.size,As H h'.objs.size (.lst (q.map λi=>R.getD i .non)),I.laid (t':=tk) (λb o e=>kq b o (kp b o e)) B ⟨by rw[g_];omega,_,c,rz,Z⟩,rfl,?_⟩;refine k _ _ _ _ (aO Y) (sh.newLst Y ry) .ofRef (h _ ?_ ?_ _ (sh.fresh Y))
 .have hm:=D.map λi=>(kvs.map (·.1)).getD i 0;rw[show M.length=(kvs.map (·.1)).length by rw[g_];omega] at hm;have r:(ay (kvs.map (·.1)).length).map (λi=>(kvs.map (·.1)).getD i 0)=kvs.map (·.1):=by
   apply Na;intro i;rw[C_];by_cases d:i<(kvs.map (·.1)).length
   .rw[FR d,e_ d,OV,k_,e_ d];rfl
   rw[Ee (by simpa using d),Ee zo];rfl
  rw[r] at hm;exact hm
 rw[OM];intro i j d m hij;rw[g_] at d m;have:=W i j zo zo;rw[k_,e_ d,k_,e_ m] at this;rw[IN,IN];exact this
theorem DG (I:Inv X pins σ H s) (S:zc X.K H3 H) (k:HA X.K H Q3 Q) (e:H3 a=ab (.lst (ns.map zh))) (h64:ns.length<64) (h:∀us:ξ Int,us.Perm ns->us.Pairwise (λx y=>OG.kle x y)->∀p,H3 p=af->Q3 (.ref p) (fY H3 p (.lst (us.map zh)))):ax (aI X.prog X.w) X.A (fT (.builtin "sorted") [.ref a]) (EP X pins σ Q) X.xe s:=by
 obtain⟨L,sq,l⟩:=S.sqL (.inl e);obtain⟨n,r,hl,_⟩:=I.list sq;have M:=sX l r;have l3:=wu M;have hzz:am=16777216:=rfl;refine Av (O:=OG) (key:=λi=>(ns.getD i 0:Int)) λA' E' hA=>lW (.inl hl.isList) zo ?_;generalize hh:(s.heap.push (a4 "list" #[] 0)).update s.heap.objs.size (a9 (·++n.toArray))=m at *;have sz:m.objs.size=s.heap.objs.size+1:=by rw[<- hh,ky,t3]
 have kp:ET s.heap m:=λb o e=>by rw[<- hh,IM _ _ _ _ (H_ (y_ e))];exact b_ _ e
 have G:s.heap.objs.size<m.objs.size:=zo
 have l1:=l.length;rw[g_] at l1;have l2:=r.length;have hz:am=16777216:=rfl;refine⟨zo,λg2 g' kq=>?_,λq g' c hs kq U=>?_⟩
 .refine kas_kind (T:=.type "int") (s:={ s with heap:=g',toks:=s.toks}) g2 (λv hv=>?_) rfl rfl ⟨rfl,λi j C d g hC=>?_⟩
  .obtain⟨x,t,rfl⟩:=ww M v hv;exact ke rfl
  obtain⟨t,J⟩:=B3 M i d;obtain⟨u,N⟩:=B3 M j g;unfold i6;rw[J,N];exact kat_lt_int hC
 obtain⟨D,P⟩:=hs;have f:∀i∈q,i<ns.length:=λi d=>by have:=Y_.mp (D.mem_iff.mp d);omega
 have E:q.length=ns.length:=by rw[D.length_eq,D_];omega
 have Z:nP X.K H ((q.map λi=>ns.getD i 0).map zh) (q.map λi=>L.getD i .non):=by
  clear P D E U;induction q with
  |nil=>exact .nil
  |cons i q W =>
  refine .cons ?_ (W λj g=>f j (.tail _ g));have d:=f i (.head _);have F:i<ns.length:=d;obtain⟨y,J,V⟩:=l.get (i:=i) (t:=zh (ns[i])) (by rw[C_,e_ F];rfl);dsimp only;rw[k_,e_ F,k_,J];exact V
 have rz:zS (q.map λi=>L.getD i .non) (q.map λi=>n.getD i bp):=by
  clear P D E Z U;induction q with
  |nil=>exact .nil
  |cons i q W =>
  refine .cons ?_ (W λj g=>f j (.tail _ g));have d:i<L.length:=by have:=f i (.head _);omega
  obtain⟨z,J,V⟩:=r.get (i:=i) (e_ d);dsimp only;rw[k_,e_ d,k_,J];exact V
 have B:s.heap.objs.size<=m.objs.size:=D0 G;have R:H m.objs.size=af:=I.hok.fresh B;refine⟨.ref m.objs.size,As H m.objs.size (.lst (q.map λi=>L.getD i .non)),I.laid (t':=s.toks) (λb o e=>kq b o (kp b o e)) B ⟨by rw[g_];omega,_,c,rz,U⟩,rfl,?_⟩;refine k _ _ _ _ (aO R) (S.newLst R Z) .ofRef (h _ ?_ ?_ _ (S.fresh R))
 .have Y:=D.map λi=>ns.getD i 0;rw[show n.length=ns.length by omega] at Y;have N:(ay ns.length).map (λi=>ns.getD i 0)=ns:=by
   apply Na;intro i;rw[C_];by_cases d:i<ns.length
   .rw[FR d,e_ d,OV,k_,e_ d];rfl
   rw[Ee (by simpa using d),Ee zo];rfl
  rw[N] at Y;exact Y
 rw[OM];intro i j d g hij;rw[g_] at d g;have:=P i j zo zo;rw[k_,e_ d,k_,e_ g] at this;rw[IN,IN];exact this
def PD (o:ζ O3) (H:lq) (Q:AC):Prop:=match o with
 |some (.lst xs)=>∃ns:ξ Int,xs=ns.map zh/\ns.length<64/\∀us:ξ Int,us.Perm ns->us.Pairwise (·<=·)->∀p,H p=af->Q (.ref p) (fY H p (.lst (us.map zh)))
 |some (.dci kvs)=>kvs.length<64/\∀us:ξ Int,us.Perm (kvs.map (·.1))->us.Pairwise (·<=·)->∀p,H p=af->Q (.ref p) (fY H p (.lst (us.map zh)))
 |_=>False
def Ir:ξ T->lq->AC->Prop:=λts H Q=>match ts with
 |[.ref a]=>PD (H a) H Q
 |_=>False
theorem Vk (a:ae) (H:lq) (Q:AC):Ir [.ref a] H Q=PD (H a) H Q:=rfl
theorem Zn (kvs:ξ (Int × T)) (H:lq) (Q:AC):PD (ab (.dci kvs)) H Q=(kvs.length<64/\∀us:ξ Int,us.Perm (kvs.map (·.1))->us.Pairwise (·<=·)->∀p,H p=af->Q (.ref p) (fY H p (.lst (us.map zh)))):=rfl
theorem Iu {us:ξ Int}(h:us.Pairwise (λx y=>OG.kle x y)):us.Pairwise (·<=·):=h.imp λ{a b} z=>by
 have:=z;unfold KeyOrd.kle at this;simp at this;omega
theorem Nm (m:xr n X.A):dB X (.builtin "sorted") Ir:=by
 intro pins s σ H xs us Q I p h;obtain⟨ts,H3,Q3,r,d,h,k⟩:=h
 match ts,h,r with
 |[.ref a],h,r =>
 obtain⟨v,rfl,c⟩:=r.one';obtain⟨u,rfl,g⟩:=AU p;rw[c.ref] at g;cases g;have h':PD (H3 a) H3 Q3:=h;unfold PD at h';split at h'
 .rename_i xs e;obtain⟨ns,rfl,o,j⟩:=h';exact DG I d k e o λus b f=>j us b (Iu f)
 .rename_i kvs e;obtain⟨vs,l,i⟩:=d a _ e;exact Dz I d k m.hd (.inl l) i h'.1 λus b f=>h'.2 us b (Iu f)
 exact h'.elim
end
@[reducible] noncomputable def OQ:kR where
 α:=Int × Int × Int
 blt x y:=decide (x.1<y.1\/(x.1=y.1/\(x.2.1<y.2.1\/(x.2.1=y.2.1/\x.2.2<y.2.2))))
 irrefl a:=by rw[Mc];omega
 trans a b c h1 h2:=by rw[So] at *;omega
 negTrans a b c h:=by rw[So] at h;rw[So,So];omega
 total a b h1 h2:=by
  rw[Mc] at h1 h2;obtain⟨l,g,k⟩:=a;obtain⟨j,f,d⟩:=b;dsimp only at h1 h2;have m:l=j:=zo
  have e:g=f:=zo
  have i:k=d:=zo
  rw[m,e,i]
def Zo (x y:Int × Int × Int):Prop:=OQ.kle x y
noncomputable def D1 (p:Int × Int × Int):T:=.tup [.int p.1,.int p.2.1,.int p.2.2]
section
variable {X:Cx}{pins:ξ (ae × dP)}{σ:L2.St}
def Vl (h:cn) (p:Int × Int × Int) (v:av):Prop:=∃a o n t u z,v=.ref a/\h.get? a=ab o/\o.cls=.type "tuple"/\o.data=.seq #[.int p.1 t,.int p.2.1 u,.int p.2.2 z] n
noncomputable def yP (I:Inv X pins σ H s) (y:ET s.heap h'):∀{ps:ξ (Int × Int × Int)}{w:ξ V}{d:ξ av},nP X.K H (ps.map D1) w->zS w d ->
  d.length=ps.length/\(∃h,KatTups h' d h/\h.length=d.length/\∀v∈h,∃x t,v=c9 x t)/\∀(i:Nat) (p:Int × Int × Int),ps[i]?=ab p->∃v,d[i]?=ab v/\Vl h' p v
 |[],_,_,r,f=>by
  rw[r.inv0] at f
  cases f
  exact⟨rfl,⟨[],.nil,rfl,(λ_ z=>nomatch z)⟩,(λ_ _ z=>nomatch z)⟩
 |p::ps,_,_,r,f=>by
  obtain⟨v,Y,rfl,q,b⟩:=r.inv
  cases f with
  |cons T f =>
   rename_i u us
   obtain⟨O,⟨h,U,B,M⟩,W⟩:=yP I y b f
   obtain⟨a,xs,rfl,R,F⟩:=At.tup q
   cases T
   obtain⟨l,c,⟨o,L,A,n,m⟩,_⟩:=I.tuple R
   obtain⟨v1,r1,rfl,J,N⟩:=F.inv
   obtain⟨Z,r2,rfl,G,E⟩:=N.inv
   obtain⟨v3,r3,rfl,C,S⟩:=E.inv
   rw[S.inv0] at c
   cases J.int
   cases G.int
   cases C.int
   cases c with
   |cons D c =>
   cases c with
   |cons P c =>
   cases c with
   |cons Q c =>
   cases c
   obtain⟨t,rfl⟩:=D
   obtain⟨t',rfl⟩:=P
   obtain⟨k,rfl⟩:=Q
   have g:=y a o L
   refine⟨by simp [O],⟨.int p.1 t::h,.cons g A m rfl U,by simp [B],λz j=>?_⟩,λi z j=>?_⟩
   ·
    rcases v_.mp j with e | e
    ·
     exact⟨_,_,e⟩
    ·
     exact M z e
   ·
    cases i with
    |zero=>cases j;exact⟨_,rfl,a,o,n,t,t',k,rfl,g,A,m⟩
    |succ i=>exact W i z j
theorem Zq (e:s'.heap=h') (k:Vl h' x u) (j:Vl h' y v) (h:C (OQ.blt x y) s'):
  ax (aI P w) A (keyLt' (tuples' ag) u v) C E s':=by
 obtain⟨a,o,n,F,q,s,rfl,l,B,p⟩:=k;obtain⟨b,r,z,G,t,D,rfl,d,m,c⟩:=j;subst e;refine kat_lt l p d c ?_;dsimp only[OQ] at h;refine pS (L5 _ _ _ _ P w _ _ ?_);by_cases i:x.1=y.1
 .rw[show (x.1==y.1)=ag from E1.mpr i];refine yn (pS (L5 _ _ _ _ P w _ _ ?_));by_cases g:x.2.1=y.2.1
  .rw[show (x.2.1==y.2.1)=ag from E1.mpr g];refine yn (pS (L5 _ _ _ _ P w _ _ ?_));by_cases f:x.2.2=y.2.2
   .rw[show (x.2.2==y.2.2)=ag from E1.mpr f];refine yn (kat_nil ?_);rw[q_ zo] at h;exact h
   rw[show (x.2.2==y.2.2)=ai from EB.mpr f];refine yv (kat_one _ _ (pa ?_));rw[show decide (x.1<y.1\/(x.1=y.1/\(x.2.1<y.2.1\/(x.2.1=y.2.1/\x.2.2<y.2.2))))=decide (x.2.2<y.2.2) from Lc.mpr zo] at h;exact h
  rw[show (x.2.1==y.2.1)=ai from EB.mpr g];refine yv (kat_one _ _ (pa ?_));rw[show decide (x.1<y.1\/(x.1=y.1/\(x.2.1<y.2.1\/(x.2.1=y.2.1/\x.2.2<y.2.2))))=decide (x.2.1<y.2.1) from Lc.mpr zo] at h;exact h
 rw[show (x.1==y.1)=ai from EB.mpr i];refine yv (oneLt_int ?_);rw[show decide (x.1<y.1\/(x.1=y.1/\(x.2.1<y.2.1\/(x.2.1=y.2.1/\x.2.2<y.2.2))))=decide (x.1<y.1) from Lc.mpr zo] at h;exact h
end
def UH (o:ζ O3) (H:lq) (Q:AC):Prop:=match o with
 |some (.lst ts)=>∃ps:ξ (Int × Int × Int),ts=ps.map D1/\ps.length<64/\∀us:ξ (Int × Int × Int),us.Perm ps->us.Pairwise Zo->∀p,H p=af->Q (.ref p) (fY H p (.lst (us.map D1)))
 |_=>False
def Iv:ξ T->lq->AC->Prop:=λts H Q=>match ts with
 |[.ref a]=>UH (H a) H Q
 |_=>False
theorem Iw (a:ae) (H:lq) (Q:AC):Iv [.ref a] H Q=UH (H a) H Q:=rfl
theorem Zr (ts:ξ T) (H:lq) (Q:AC):UH (ab (.lst ts)) H Q=(∃ps:ξ (Int × Int × Int),ts=ps.map D1/\ps.length<64/\∀us:ξ (Int × Int × Int),us.Perm ps->us.Pairwise Zo->∀p,H p=af->Q (.ref p) (fY H p (.lst (us.map D1)))):=rfl
theorem Np:dB X (.builtin "sorted") Iv:=by
 intro pins s σ H xs us Q I rv h;obtain⟨ts,H3,Q3,r,L,h,k⟩:=h;cases ts with
 |nil=>exact h.elim
 |cons t ts =>
 cases ts with
 |cons _ _=>cases t <;> exact h.elim
 |nil =>
 cases t with
 |ref a =>
  rw[Iw] at h;obtain⟨v,rfl,F⟩:=r.one';obtain⟨u,rfl,W⟩:=AU rv;rw[F.ref] at W;cases W;cases e:H3 a with
  |none=>rw[e] at h;exact h.elim
  |some o =>
  rw[e] at h;cases o with
  |lst ls =>
   obtain⟨ps,rfl,Z,h⟩:=h;obtain⟨n,sq,A⟩:=L.sqL (.inl e);obtain⟨S,g,hl,_⟩:=I.list sq;have M:=(yP I (λ_ _ q=>q) A g).1
   let key:Nat->OQ.α:=λi=>ps.getD i default
   refine JY (O:=OQ) (key:=key) (.inl hl.isList) zo (λh2 h' J=>?_) λq h' c hs J N=>?_
   .obtain⟨_,⟨fs,kt,hfl,E⟩,p⟩:=yP I J A g;refine kat_kind (T:=.type "int") (s:={ s with heap:=h'}) kt zo (λv Y=>?_) rfl ⟨rfl,λi j C b f hC=>?_⟩
    .obtain⟨x,t,rfl⟩:=E v Y;exact ke rfl
    have gi:ps[i]?=ab (ps.getD i default):=by rw[k_,e_ zo];rfl
    have gj:ps[j]?=ab (ps.getD j default):=by rw[k_,e_ zo];rfl
    obtain⟨vi,w,p1⟩:=p i _ gi;obtain⟨vj,B,p2⟩:=p j _ gj;unfold i6;rw[k_,k_,w,B];exact Zq rfl p1 p2 hC
   obtain⟨l,D⟩:=hs;have d:∀i∈q,i<ps.length:=λi b=>by rw[<- M];exact Y_.mp (l.mem_iff.mp b)
   have l1:=A.length;rw[g_] at l1;have m:q.length=ps.length:=by rw[l.length_eq,D_,M]
   have hz:am=16777216:=rfl;have V:nP X.K H ((q.map λi=>ps.getD i default).map D1) (q.map λi=>n.getD i .non):=by
    clear D l m N;induction q with
    |nil=>exact .nil
    |cons i q R =>
    refine .cons ?_ (R λj f=>d j (.tail _ f));have b:=d i (.head _);obtain⟨y,w,P⟩:=A.get (i:=i) (t:=D1 ps[i]) (by rw[C_,e_ b];rfl);dsimp only;rw[k_,e_ b,k_,w];exact P
   have rz:zS (q.map λi=>n.getD i .non) (q.map λi=>S.getD i bp):=by
    clear D l m V N;induction q with
    |nil=>exact .nil
    |cons i q R =>
    refine .cons ?_ (R λj f=>d j (.tail _ f));have b:=d i (.head _);obtain⟨z,w,P⟩:=g.get (i:=i) (e_ (show i<n.length by omega));dsimp only;rw[k_,e_ (show i<n.length by omega),k_,w];exact P
   have G:H (s.heap.objs.size+1)=af:=I.hok.fresh (mm _);refine⟨.ref (s.heap.objs.size+1),As H (s.heap.objs.size+1) (.lst (q.map λi=>n.getD i .non)),I.laid (t':=s.toks) J (mm _) ⟨by rw[g_];omega,_,c,rz,N⟩,rfl,?_⟩;refine k _ _ _ _ (aO G) (L.newLst G V) .ofRef (h _ ?_ ?_ _ (L.fresh G))
   .have U:=l.map λi=>ps.getD i default;rw[M] at U;have B:(ay ps.length).map (λi=>ps.getD i default)=ps:=by
     apply Na;intro i;rw[C_];by_cases b:i<ps.length
     .rw[FR b,e_ b];simp [k_,b]
     rw[Ee (by simpa using b),Ee zo];rfl
    rw[B] at U;exact U
   rw[OM];intro i j b f hij;rw[g_] at b f;have:=D i j zo zo;rw[k_,e_ b,k_,e_ f] at this;rw[IN,IN];exact this
  |_=>exact h.elim
 |_=>cases h
theorem yQ (a b:ae) (xs n:Array av) :
  Meets (dt.«zip.__new__» ⟨[.type "zip",.ref a,.ref b],[]⟩) (λ_ R s=>s.heap.IsList a xs/\s.heap.IsTuple b n/\∀m i c f,m=s.heap.push (sO a)->i=m.push (Ae b)->c=i.push { cls:=.type "tuple",data:=.seq #[.ref s.heap.objs.size,.ref m.objs.size]}->f=c.push { cls:=.type "tuple",data:=.seq #[.none,.none]} ->
   R (.ok (.ret (.ref f.objs.size))) { s with heap:=f.push { cls:=.type "zip",data:=.fields #[.none,.bool ai,.bool ai,.ref i.objs.size,.ref c.objs.size]}}) :=
 .of_wp λprog w A R s h=>by
  obtain⟨p,g,d,tk,os⟩:=s;obtain⟨l,e,h⟩:=h;have o:=sub_zip;have j:Heap.IsList (Shared.heap ⟨p,g,d,tk,os⟩) a xs:=l;have k:Heap.IsTuple (Shared.heap ⟨p.push { cls:=.type "list_iterator",data:=.fields #[.ref a,.int 0 0]},g,d,tk,os⟩) b n:=Heap.IsTuple.push e _
  wp_walk using NG j,g9 k
  exact⟨_,rfl,h _ _ _ _ rfl rfl rfl rfl⟩
section
variable {s:aT}
theorem DK (t:s.heap.IsList f xs) (m:s.heap.IsTuple e x) (h:∀h' i1 i2 ti to z,fA h' z ti to .none->de h' ti (.ref i1) (.ref i2)->de h' to .none .none->h'.IsListIter i1 f 0->h'.IsTupleIter i2 e 0 ->
   s.heap.objs.size<=i1->i1<i2->i2<ti->ti<to->to<z->(∀c o,s.heap.get? c=ab o->h'.get? c=ab o)->Q (.ref z) { s with heap:=h'}):
  ax (aI prog w) A (fT (.type "zip") [.ref f,.ref e]) Q E s:=by
 refine callType_new F.called_zip zC (sg _ _) (s9 _ _) (λr=>mB r _ _) s_
  (yQ f e xs x) ⟨t,m,λb d a i u k n j=>?_⟩
 have p:∀(h:cn) (o:dP),h.objs.size<(h.push o).objs.size:=λh o=>by rw[JI];exact HP _
 have v:=l_ i (o:={ cls:=.type "zip",data:=.fields #[.none,.bool ai,.bool ai,.ref d.objs.size,.ref a.objs.size]}) rfl;have D:i.get? a.objs.size=ab { cls:=.type "tuple",data:=.seq #[.none,.none]}:=by rw[j];exact l_ _ rfl
 have G:a.get? d.objs.size=ab { cls:=.type "tuple",data:=.seq #[.ref s.heap.objs.size,.ref b.objs.size]}:=by rw[n];exact l_ _ rfl
 have B:d.get? b.objs.size=ab (Ae e):=by rw[k];exact l_ _ rfl
 have H:b.get? s.heap.objs.size=ab (sO f):=by rw[u];exact l_ _ rfl
 have C:∀c o,s.heap.get? c=ab o->b.get? c=ab o:=λc o q=>by rw[u];exact b_ _ q
 have y:∀c o,b.get? c=ab o->d.get? c=ab o:=λc o q=>by rw[k];exact b_ _ q
 have l:∀c o,d.get? c=ab o->a.get? c=ab o:=λc o q=>by rw[n];exact b_ _ q
 have g:∀c o,a.get? c=ab o->i.get? c=ab o:=λc o q=>by rw[j];exact b_ _ q
 refine⟨⟨_,v,rfl⟩,h _ s.heap.objs.size b.objs.size d.objs.size a.objs.size i.objs.size v (b_ _ (g _ _ G)) (b_ _ D) ⟨_,b_ _ (g _ _ (l _ _ (y _ _ H))),rfl,rfl⟩ ⟨_,b_ _ (g _ _ (l _ _ B)),rfl,rfl⟩
  (o_ _) ?_ ?_ ?_ ?_ λc o q=>b_ _ (g _ _ (l _ _ (y _ _ (C _ _ q))))⟩
 .rw[u];exact p _ _
 .rw[k];exact p _ _
 .rw[n];exact p _ _
 rw[j];exact p _ _
end
theorem ZT:An kL kT prog w:=λ_ _ _ _ _ _ _ _ p1 a h=>DK p1 a h
section
variable {B?:ξ Expr}{x1:Nat}{C? u? p:gE}
def Uf (u:ζ O3) (a:ξ T) (b:ae) (H:lq) (R:ξ T->(lq->Prop)->lq->Prop):Prop:=match u with
 |some (.lst xs)=>R (fB xs a) (bK b xs) H
 |_=>False
def Iz (c:CF):Fn:=λσ H R=>c σ H λvs a=>match vs with
 |[.ref b,.tup ys]=>Uf (a b) ys b a R
 |_=>False
theorem Nq (m:Gl X "zip") (F:X.mg "zip"=af) (u:DL X [ea,eb] i) (x:aE [ea,eb] X.env=[(ai,bt ea X.env),(ai,bt eb X.env)]:=by rfl) (g:aE [eb] X.env=[(ai,bt eb X.env)]:=by rfl):
  FH X (.Tuple B? x1 C?) (.Call (.Name "zip" p) [ea,eb] [] u?) (Iz i):=by
 refine PI.imp (sS ZT m F yd u x g) ?_;rintro σ H R ⟨e,H3,R3,o,B,h,k⟩;refine⟨e,H3,_,o,B,h,λvs H' ts c D d r q=>?_⟩
 match ts,q,r with
 |[.ref b,.tup ys],q,r =>
  have f:(match c b with
   |some (.lst xs)=>R3 (fB xs ys) (bK b xs) c
   |_=>False):=q
  obtain⟨v,w,rfl,C,A⟩:=r.two'
  obtain⟨a,us,rfl,j,t⟩:=A.tup
  split at f
  ·
   rename_i xs n
   obtain⟨y,E,G⟩:=d.sqL (.inl n)
   exact⟨b,a,by rw[C.ref],⟨_,E⟩,⟨_,j⟩,k _ _ _ H' c D d (lB λ_ _ l s z=>⟨s.sqL z,_,l _ _ j,t.mono l⟩) f⟩
  ·
   exact f.elim
def Nr (a:CF) {σ:AV}{H:lq}{R:ξ T->(lq->Prop)->lq->Prop}:Iz a σ H R=a σ H λvs c=>match vs with
 |[.ref b,.tup ys]=>Uf (c b) ys b c R
 |_=>False:=rfl
theorem Zt (xs a:ξ T) (b:ae) (H:lq) (R:ξ T->(lq->Prop)->lq->Prop):Uf (ab (.lst xs)) a b H R=R (fB xs a) (bK b xs) H:=rfl
end
theorem O!:An kT kL prog w:=λ_ _ _ _ _ _ _ _ p1 a h=>Do p1 a h
section
variable {B?:ξ Expr}{x1:Nat}{C? u? p:gE}
def SU (xs:ξ T) (u:ζ O3) (b:ae) (H:lq) (R:ξ T->(lq->Prop)->lq->Prop):Prop:=match u with
 |some (.lst ys)=>R (fB xs ys) (bK b ys) H
 |_=>False
def IK (c:CF):Fn:=λσ H R=>c σ H λvs a=>match vs with
 |[.tup xs,.ref b]=>SU xs (a b) b a R
 |_=>False
theorem Nt (n:Gl X "zip") (G:X.mg "zip"=af) (x:DL X [ea,eb] j) (y:aE [ea,eb] X.env=[(ai,bt ea X.env),(ai,bt eb X.env)]:=by rfl) (i:aE [eb] X.env=[(ai,bt eb X.env)]:=by rfl):
  FH X (.Tuple B? x1 C?) (.Call (.Name "zip" p) [ea,eb] [] u?) (IK j):=by
 refine PI.imp (sS O! n G yd x y i) ?_;rintro σ H R ⟨e,H3,R3,t,C,h,k⟩;refine⟨e,H3,_,t,C,h,λvs H' ts c E d r q=>?_⟩
 match ts,q,r with
 |[.tup xs,.ref b],q,r =>
  have g:(match c b with
   |some (.lst f)=>R3 (fB xs f) (bK b f) c
   |_=>False):=q
  obtain⟨v,w,rfl,D,B⟩:=r.two'
  obtain⟨a,us,rfl,m,u⟩:=D.tup
  split at g
  ·
   rename_i f o
   obtain⟨A,F,I⟩:=d.sqL (.inl o)
   exact⟨a,b,by rw[B.ref],⟨_,m⟩,⟨_,F⟩,k _ _ _ H' c E d (lB λ_ _ l s z=>⟨⟨_,l _ _ m,u.mono l⟩,s.sqL z⟩) g⟩
  ·
   exact g.elim
def Nu (a:CF) {σ:AV}{H:lq}{R:ξ T->(lq->Prop)->lq->Prop}:IK a σ H R=a σ H λvs c=>match vs with
 |[.tup xs,.ref b]=>SU xs (c b) b c R
 |_=>False:=rfl
theorem Zu (xs a:ξ T) (b:ae) (H:lq) (R:ξ T->(lq->Prop)->lq->Prop):SU xs (ab (.lst a)) b H R=R (fB xs a) (bK b a) H:=rfl
def QW:R3:=λx y H Q=>match x,y with
 |.bl a,.bl b=>Q (.bl (!(a==b))) H
 |_,_=>False
theorem Zv (a b:Bool) (H:lq) (Q:AC):QW (.bl a) (.bl b) H Q=Q (.bl (!(a==b))) H:=rfl
theorem Vm:AX X (ba .IsNot) (λx y H Q=>∃a b,x=.bl a/\y=.bl b/\Q (.bl (!(a==b))) H):=by intro pins s σ H x y v u Q I d c h;obtain⟨a,b,rfl,rfl,q⟩:=h;cases d;cases c;refine wpAny_isNot_plain rfl (nj I q ?_);cases a <;> cases b <;> rfl
theorem IV:dU X (ba .IsNot) QW:=by
 refine AX.imp Vm ?_;rintro x y H Q ⟨c,g,H3,Q3,f,e,d,h,k⟩;cases c with
 |bl a=>cases g with
  |bl b=>exact⟨a,b,f.bl,e.bl,k _ _ _ _ .refl d .ofBl h⟩
  |_=>exact h.elim
 |_=>exact h.elim
end
end L3
namespace M
open L2 L3
def N! : String := "ne_eq not_false_eq_true aF zT uP OS iG Qd FT FQ PQ Tw uN PX PB Xz PJ TV XJ FZ FW Qa nY PL PP aaW XF uZ zV aa0 Gy dz TY Lw T3 XM T4 eY q_I aa1 T5 T6 T7 Gz lw XQ XR XS z8 XX oE Ql X3 Qm Qn GD z9 X4 X5 T8 X6 aa2 T9 X7 Qo Ua X8 Yb q_D Yc Ub Yd Ye Uc Yg Ud Ue Lx Yh Ly Ug Yi Uh Ui Uj Uk Yj Yk Yl Ym Yn GF Yo Yp Lz Yq Yr Ys Yt Ul Yu LC Ab oF Um LK Uo aq TQ Gh qL Yv Yw Uu ye yf yg Df yh Uv yj ym yo Dg yp Ml vh vm vo yq vp G6 sr su sy vz sE vA vB vC yr vD decide_true decide_false Bool.not_true Bool.not_false at0 at1 at2 List.eraseIdx_cons_zero Int.toNat_natCast mJ List.length_map List.length_cons List.length_nil Nat.zero_add Bool.false_eq_true if_false if_true List.getElem?_cons_zero List.getElem?_cons_succ List.set_cons_zero List.set_cons_succ YC YD List.map_cons List.map_nil YF YG Ux Uy Qv Qw Hm Qy Ji QZ Hk Vn Vo Vp Vq V6 JB V7 V8 Iw Zr Hk ZX ZZ M3 QT Nu Zu aa6 Mw Mx Mz MF U4 YQ U3 QB U0 Ho Yz YB GX VG QJ HN Vc QK QL Y5 HQ QM QQ HR Ah sG YW aa7 QC Hy MK HB U8 YZ HF yE Va QD QF HH QG QH Y6 yH aa8 Y8 Am QS Za Vk Zn LR Ma GP Mf GQ Yy Mg Ay yN Ba sV aba Zf QV Vj Zm Z9 Nr Zt Zv UV YH Mr YJ"
structure A1 (x:aw):Prop where
 lo:1<=x.length
 hi:x.length<=8
 az:∀c∈x.cps.toList,97<=c/\c<=122
structure DV (ws:List aw):Prop where
 nm:∀x∈ws,A1 x
 nd:ws.Nodup
theorem DV.nil:DV []:=⟨λ_ h=>(nomatch h),LJ⟩
theorem DV.snoc (n:DV ws) (h:A1 x) (b:x∉ws):DV (ws++[x]) :=
 ⟨λy a=>(x_.mp a).elim (n.nm y) λz=>by rw[j_.mp z];exact h,jR n.nd b⟩
structure Wk where
 tasks:List (aw × Int × List aw)
 orders:List (aw × aw)
 pairs:List (aw × aw × aw)
 row:List aw
noncomputable def sT (xs:ξ aw):T:=.tup (xs.map zi)
noncomputable def AY (t:aw × Int × ξ aw):T:=.tup [.str t.1,.int t.2.1,sT t.2.2]
noncomputable def A9 (o:aw × aw):T:=.tup [.str o.1,.str o.2]
noncomputable def prT (p:aw × aw × aw):T:=.tup [.str p.1,.str p.2.1,.str p.2.2]
noncomputable def Wk.enc (W:Wk):T:=.tup [.tup (W.tasks.map AY),.tup (W.orders.map A9),.tup (W.pairs.map prT),sT W.row]
structure S0 (t:aw × Int × List aw):Prop where
 nm:A1 t.1
 lo:1<=t.2.1
 hi:t.2.1<10^60
 ks:DV t.2.2
 kl:t.2.2.length<=4
structure n7 (W:Wk):Prop where
 t1:1<=W.tasks.length
 t8:W.tasks.length<=8
 tk:∀t∈W.tasks,S0 t
 nd:(W.tasks.map (·.1)).Nodup
 os:W.orders.length<=72
 oo:∀o∈W.orders,o.1≠o.2/\o.1∈W.tasks.map (·.1)/\o.2∈W.tasks.map (·.1)
 ps:W.pairs.length<=12
 pp:∀p∈W.pairs,(p.1="with"\/p.1="apart")/\p.2.1≠p.2.2/\p.2.1∈W.tasks.map (·.1)/\p.2.2∈W.tasks.map (·.1)
 r1:1<=W.row.length
 r8:W.row.length<=8
 rn:∀x∈W.row,A1 x
theorem gR {c:Type}{f:c->T}(g:∀{a b},f a=f b->a=b) {x:c}{xs:ξ c}:f x∈xs.map f↔x∈xs:=by rw[t_];exact⟨λ⟨y,d,e⟩=>g e▸d,λh=>⟨x,h,rfl⟩⟩
theorem mU (h:zi a=zi b):a=b:=by injection h
theorem ZO {c:Type}{f:c->T}(d:∀{a b},f a=f b->a=b) {x:c}{xs:ξ c}:eQ ag (f x) (xs.map f)=ag↔x∉xs:=by unfold eQ;simp [gR d]
theorem cT (xs:ξ aw):(xs.map zi).all (pl 20)=ag:=by rw[V_];intro t a;obtain⟨x,_,rfl⟩:=t_.mp a;rfl
theorem Vn (W:Wk) (H:lq) (Q:AC):uY W.enc (.int 0) H Q=Q (.tup (W.tasks.map AY)) H:=rfl
theorem Vo (W:Wk) (H:lq) (Q:AC):uY W.enc (.int 1) H Q=Q (.tup (W.orders.map A9)) H:=rfl
theorem Vp (W:Wk) (H:lq) (Q:AC):uY W.enc (.int 2) H Q=Q (.tup (W.pairs.map prT)) H:=rfl
theorem Vq (W:Wk) (H:lq) (Q:AC):uY W.enc (.int 3) H Q=Q (.tup (W.row.map zi)) H:=rfl
theorem Vr {a:ξ aw}:zi x∈a.map zi↔x∈a:=gR mU
noncomputable def AN:ξ aw->Int->ξ aw
 |[],_=>[]
 |x::r,b=>if b%2=1 then x::AN r (b / 2) else AN r (b / 2)
noncomputable def MB:ξ aw->Int->Int
 |[],_=>0
 |_::r,b=>(if b%2=1 then 1 else 0)+2*MB r (b / 2)
noncomputable def zt:ξ aw->ξ aw->Int
 |[],_=>0
 |x::r,ss=>(if x∈ss then 1 else 0)+2*zt r ss
theorem iZ:∀(ws:ξ aw) (b:Int),∀x∈AN ws b,x∈ws
 |[],_,x,h=>by cases h
 |y::r,b,x,h=>by
  unfold AN at h
  split at h
  ·
   rcases v_.mp h with rfl | h
   ·
    exact A_
   ·
    exact E_ _ (iZ r _ x h)
  ·
   exact E_ _ (iZ r _ x h)
theorem lX:∀(ws b a:ξ aw),(∀x∈ws,x∈b↔x∈a)->zt ws b=zt ws a
 |[],_,_,_=>rfl
 |y::r,b,a,h=>by
  have e:=h y A_
  have c:=lX r b a λx d=>h x (E_ _ d)
  simp only[zt,c,e]
theorem oR:∀(ws:ξ aw) (b:Int),ws.Nodup->zt ws (AN ws b)=MB ws b
 |[],_,_=>rfl
 |y::r,b,nd=>by
  rw[EZ] at nd
  have c:=oR r (b / 2) nd.2
  have d:y∉AN r (b / 2):=λh=>nd.1 (iZ r _ y h)
  by_cases a:b%2=1
  ·
   have e:zt r (y::AN r (b / 2))=zt r (AN r (b / 2)):=lX r _ _ λx f=>by
    have:x≠y:=λe=>nd.1 (e▸f)
    simp [this]
   simp only[zt,MB,AN,a,if_true,e,c,v_,true_or]
  ·
   simp only[zt,MB,AN,a,W_,d,c]
theorem IW:∀(ws:ξ aw) (b:Int),0<=b->b<2^ws.length->MB ws b=b
 |[],b,h0,h1=>by simp at h1;simp only[MB];omega
 |y::r,b,h0,h1=>by
  have a:b / 2<2^r.length:=by
   rw[n_,Lv] at h1
   omega
  have c:=IW r (b / 2) zo a
  simp only[MB,c]
  split <;> omega
theorem jK:∀(A:ξ aw) (y:aw) (a:ξ aw),zt (A++[y]) a=zt A a+2^A.length*(if y∈a then 1 else 0)
 |[],y,a=>by simp [zt]
 |x::A,y,a=>by
  have b:=jK A y a
  simp only[Q1,zt,n_,b,Lv]
  generalize (2:Int)^A.length=w
  generalize (if y∈a then (1:Int) else 0)=z
  rw[Int.mul_add,<- Int.mul_assoc,qE 2 w]
  omega
theorem wy:∀(A B:ξ aw) (b:Int),AN (A++B) b=AN A b++AN B (b / 2^A.length)
 |[],B,b=>by simp [AN]
 |y::A,B,b=>by
  have a:=wy A B (b / 2)
  have e:b / 2 / 2^A.length=b / 2^(A.length+1):=by
   rw[Lv,qE,eS zC]
  simp only[Q1,AN,n_,a,e]
  split <;> simp
theorem iK (m n:Nat):a8 (m:Int) (n:Int)=((m &&& n:Nat):Int):=by unfold a8;rfl
theorem Vs (m n:Nat):cE (m:Int) (n:Int)=((m ||| n:Nat):Int):=by
 have h:∀z:Nat,decide ((0:Int)<=e9 (z:Int))=ai:=λz=>q_ (by unfold e9;omega);have g:∀z:Int,e9 (e9 z)=z:=λz=>by unfold e9;omega
 unfold cE a8;rw[h,h];simp only[g,GS]
noncomputable def cN:ξ aw->ξ aw->Nat
 |[],_=>0
 |x::r,ss=>(if x∈ss then 1 else 0)+2*cN r ss
theorem bO:∀(ns a:ξ aw),zt ns a=((cN ns a:Nat):Int)
 |[],_=>rfl
 |x::r,a=>by
  have:=bO r a
  simp only[zt,cN,this]
  by_cases h:x∈a <;> simp [h]
theorem Nv (b c a d:Nat) (j:b<2) (k:c<2):(b+2*a) &&& (c+2*d)=(if b=1/\c=1 then 1 else 0)+2*(a &&& d):=by
 have g:((b+2*a) &&& (c+2*d)) / 2=(b+2*a) / 2 &&& (c+2*d) / 2:=Nat.and_div_two;have i:(b+2*a) / 2=a:=zo
 have f:(c+2*d) / 2=d:=zo
 rw[i,f] at g;have e:((b+2*a) &&& (c+2*d))%2=1↔(b+2*a)%2=1/\(c+2*d)%2=1:=Nat.and_mod_two_eq_one;by_cases h:b=1/\c=1
 .rw[z3 h];have:=e.mpr ⟨zo,zo⟩;omega
 rw[zD h];have:¬((b+2*a) &&& (c+2*d))%2=1:=λz=>h (by have:=e.mp z;omega);omega
theorem Vt (b c a d:Nat) (j:b<2) (k:c<2):(b+2*a) ||| (c+2*d)=(if b=1\/c=1 then 1 else 0)+2*(a ||| d):=by
 have g:((b+2*a) ||| (c+2*d)) / 2=(b+2*a) / 2 ||| (c+2*d) / 2:=Nat.or_div_two;have i:(b+2*a) / 2=a:=zo
 have f:(c+2*d) / 2=d:=zo
 rw[i,f] at g;have e:((b+2*a) ||| (c+2*d))%2=1↔(b+2*a)%2=1\/(c+2*d)%2=1:=Nat.or_mod_two_eq_one;by_cases h:b=1\/c=1
 .rw[z3 h];have:=e.mpr zo;omega
 rw[zD h];have:¬((b+2*a) ||| (c+2*d))%2=1:=λz=>h (by have:=e.mp z;omega);omega
theorem mV (p:Prop) [Decidable p]:(if p then 1 else 0)<2:=by split <;> decide
theorem oU:∀(ns A B:ξ aw),cN ns A &&& cN ns B=cN ns (A.filter λx=>decide (x∈B))
 |[],_,_=>by simp [cN]
 |x::r,A,B=>by
  simp only[cN]
  rw[Nv _ _ _ _ (mV _) (mV _),oU r A B]
  by_cases a:x∈A <;> by_cases b:x∈B <;> simp [a,b]
theorem Bf:∀(ns A B:ξ aw),cN ns A ||| cN ns B=cN ns (A++B)
 |[],_,_=>by simp [cN]
 |x::r,A,B=>by
  simp only[cN]
  rw[Vt _ _ _ _ (mV _) (mV _),Bf r A B]
  by_cases a:x∈A <;> by_cases b:x∈B <;> simp [a,b]
theorem jZ:∀(ns A B:ξ aw),cN ns A=cN ns B↔∀x∈ns,x∈A↔x∈B
 |[],_,_=>by simp [cN]
 |y::r,A,B=>by
  have c:=jZ r A B
  simp only[cN,v_,forall_eq_or_imp]
  rw[<- c]
  by_cases a:y∈A <;> by_cases b:y∈B <;> simp only[a,b,if_true,W_,iff_true,iff_false,true_iff,false_iff,true_and,not_true,not_false_eq_true,false_and] <;> omega
theorem il:∀ns:ξ aw,cN ns []=0
 |[]=>rfl
 |x::r=>by simp only[cN,DI,W_,il r]
theorem qY (ns A:ξ aw):cN ns A=0↔∀x∈ns,x∉A:=by have:=jZ ns A [];rw[il] at this;rw[this];simp
theorem dH (ns A B:ξ aw):(a8 (zt ns A) (zt ns B)=zt ns B)↔∀x∈ns,x∈B->x∈A:=by
 rw[bO,bO,iK,oU];constructor
 .intro h x a b;have:=(jZ ns _ _).mp (Int.ofNat.inj h) x a;exact (L_.mp (this.mpr b)).1
 intro h;refine U_ sf ((jZ ns _ _).mpr λx a=>?_);rw[L_,h_];exact⟨λz=>z.2,λz=>⟨h x a z,z⟩⟩
theorem iM (ns A B:ξ aw):(a8 (zt ns A) (zt ns B)=0)↔∀x∈ns,¬(x∈A/\x∈B):=by
 rw[bO,bO,iK,oU];have e:((cN ns (A.filter λx=>decide (x∈B)):Nat):Int)=0↔cN ns (A.filter λx=>decide (x∈B))=0:=zo
 rw[e,qY];constructor
 .intro h x a z;exact h x a (L_.mpr ⟨z.1,p_ z.2⟩)
 intro h x a z;have:=L_.mp z;exact h x a ⟨this.1,MU this.2⟩
theorem oV (ns A B:ξ aw):cE (zt ns A) (zt ns B)=zt ns (A++B):=by rw[bO,bO,bO,Vs,Bf]
theorem Ja (ns A:ξ aw):0<=zt ns A:=by rw[bO];exact KU _
theorem wz:∀(ns A:ξ aw),zt ns A<2^ns.length
 |[],_=>by simp [zt]
 |x::r,A=>by
  have:=wz r A
  simp only[zt,n_,Lv]
  split <;> omega
theorem wA:∀(ns:ξ aw) (A:ξ aw),ns.Nodup->AN ns (zt ns A)=ns.filter λx=>decide (x∈A)
 |[],_,_=>rfl
 |x::r,A,nd=>by
  rw[EZ] at nd
  have c:=wA r A nd.2
  have n0:=Ja r A
  by_cases h:x∈A
  ·
   have a:(1+2*zt r A)%2=1:=zo
   have b:(1+2*zt r A) / 2=zt r A:=zo
   simp only[zt,h,if_true,AN,a,b,c,KS,Fu]
  ·
   have a:¬(0+2*zt r A)%2=1:=zo
   have b:(0+2*zt r A) / 2=zt r A:=zo
   simp only[zt,h,W_,AN,a,b,c,KS,ED,u_]
theorem Jb (c:ns.Nodup) (a:0<=n) (b:n<2^ns.length):zt ns (AN ns n)=n:=by rw[oR ns n c,IW ns n a b]
universe u
variable {α:Type u}
inductive RT (R:α->α->Prop):α->α->Prop
 |refl {a:α}:RT R a a
 |step {a b c:α}:RT R a b->R b c->RT R a c
theorem RT.trans {a b c:α} (h:RT R a b) (g:RT R b c):RT R a c:=by
 induction g with
 |refl=>exact h
 |step _ r d=>exact .step d r
theorem RT.flip {a b:α} (h:RT R a b):RT (λx y=>R y x) b a:=by
 induction h with
 |refl=>exact .refl
 |step _ r c=>exact (RT.step (R:=λx y=>R y x) .refl r).trans c
theorem Nx {a b:α}:RT (λx y=>R y x) a b↔RT R b a:=⟨λh=>h.flip,λh=>h.flip⟩
theorem Zw {L:ξ (α × α)}{F:ξ α} (c:s∈F) (e:∀a b,(a,b)∈L->a∈F->b∈F) (h:RT (λa b=>(a,b)∈L) s x):x∈F:=by
 induction h with
 |refl=>exact c
 |step _ r d=>exact e _ _ r d
theorem jL [DecidableEq α]:∀{l m:ξ α},l.Nodup->(∀x∈l,x∈m)->l.length<=m.length:=by
 intro l;induction l with
 |nil=>intro m _ _;exact B8 _
 |cons a l j =>
 intro m d f;rw[EZ] at d;have i:=f a A_;have h:=j (m:=m.erase a) d.2 λx g=>by have b:=f x (E_ _ g);have c:x≠a:=λe=>d.1 (e▸g);exact (List.mem_erase_of_ne c).mpr b
 have e:=List.length_erase_of_mem i;have p:0<m.length:=List.length_pos_of_mem i;simp only[n_];omega
noncomputable def BA (l:ξ Nat):aw:=⟨l.toArray⟩
theorem jl (l:ξ Nat):(BA l).cps.toList=l:=rfl
theorem dZ (l:ξ Nat):(BA l).length=l.length:=by show (l.toArray).size=_;simp
theorem Vu (x:aw):∃l,x=BA l:=⟨x.cps.toList,by cases x;rfl⟩
theorem Ny (h:BA a=BA b):a=b:=by have:=U_ (λx=>x.cps.toList) h;exact this
theorem Bg (a b:ξ Nat):BA a++BA b=BA (a++b):=by show (⟨a.toArray++b.toArray⟩:aw)=⟨(a++b).toArray⟩;simp
theorem Zx (l:ξ Nat) (k:Nat) (h:k<=l.length):gX (BA l) af (ab (k:Int))=BA (l.take k):=by have e:=StrLaws.sliceText_to (x:=BA l) (j:=(k:Int)) ⟨KU k,by rw[jl];omega⟩;rw[jl,mx,Int.sub_zero,GS] at e;exact e
noncomputable def oW:ξ Nat:=[97,98,99,100,101,102,103,104,105,106,107,108,109,110,111,112,113,114,115,116,117,118,119,120,121,122]
theorem Jc:("abcdefghijklmnopqrstuvwxyz":aw)=BA oW:=by decide +kernel
theorem Nz:∀i:_root_.Fin 26,oW[i.val]?=ab (97+i.val):=by decide
theorem Jd (i:Int) (a:0<=i) (c:i<26):AR oW i=ab (97+i.toNat):=by
 obtain⟨j,rfl⟩:=Int.eq_ofNat_of_zero_le a;have b:j<26:=zo
 have:=Nz ⟨j,b⟩;exact cA (by simpa using this)
theorem NB:∀i:_root_.Fin 26,bE (BA oW) (BA [97+i.val]) 0 26 1=[i.val]:=by decide +kernel
theorem Vv (c:Nat) (a:97<=c) (b:c<=122):bE (BA oW) (BA [c]) 0 (BA oW).length 1=[c - 97]:=by have:=NB ⟨c - 97,zo⟩;rw[show 97+(c - 97)=c by omega] at this;exact this
theorem QX (b:1<=l.length) (a:l.length<=8) (h:∀c∈l,97<=c/\c<=122):A1 (BA l):=⟨by rw[dZ];exact b,by rw[dZ];exact a,by rw[jl];exact h⟩
noncomputable def WJ (t:aw × Int × ξ aw):ξ aw:=([("task":aw),t.1,(toString t.2.1:String)]:ξ aw)++t.2.2
end M
namespace L3
open L2
structure Op (p:Prop):Prop where
 out:p
theorem aA (h:∀R,Op (R=u)->(zT t R) D σ H):(zT t u) D σ H:=h u ⟨rfl⟩
theorem DN (W:Nat->AV->lq->Prop) (d:∃m,W m σ H) (e:∀m σ H,W m σ H->∀(WI:Nat->AV->lq->Prop) (TB:Co) (NX:AV->lq->Prop),Op (WI=W)->Op (TB=a)->Op (NX=D.nx) ->
  c σ H λb H1=>if b=ag then TB { D with nx:=λσ' H'=>∃m',m'<m/\WI m' σ' H',ct:=λσ' H'=>∃m',m'<m/\WI m' σ' H',bk:=D.nx} σ H1 else NX σ H1):zU c a D σ H :=
 ⟨W,d,λm σ H w=>e m σ H w W a D.nx ⟨rfl⟩ ⟨rfl⟩ ⟨rfl⟩⟩
theorem cg {m:Type} (c f:m->T) (p:m->Bool) (h:ξ m) (AB:AV) (i:still H) (u:h.length<=am) (w:∀a∈h,∀Q:Bool->lq->Prop,Q (p a) H->tt (ab (c a)::AB) H Q) (s:∀a∈h,p a=ag->∀Q:AC,Q (f a) H->te (ab (c a)::AB) H Q) (k:j ((h.filter p).map f) H):EG (iG 0) tt te still j (h.map c) [] (v::AB) H:=by
 refine oG (λr n σ H'=>∃(d g:ξ m) (v:ζ T),σ=v::AB/\r=d.map c/\n=(g.filter p).map f/\g++d=h/\H'=H) ⟨h,[],v,rfl,rfl,rfl,rfl,rfl⟩ ?_ ?_
 .rintro n σ H' ⟨d,g,v,rfl,e,rfl,b,rfl⟩;have l:d=[]:=Pl.mp e.symm;subst l;rw[C9] at b;subst b;exact⟨i,by rw[g_];exact S_ (E6 _ _) u,k⟩
 rintro x r n σ H' N ⟨d,g,v,rfl,e,rfl,b,rfl⟩ q;cases d with
 |nil=>cases e
 |cons t d =>
 injection e with e1 e2;subst e1 e2;refine⟨i,?_⟩;show tt (ab (c t)::AB) H' _;refine w t (by rw[<- b];simp) _ ?_;cases o:p t with
 |true=>rw[z3 rfl];refine s t (by rw[<- b];simp) o _ ⟨?_,q _ _ _ ⟨d,g++[t],_,rfl,rfl,by simp [o],by rw[<- b];simp,rfl⟩⟩;have:=U_ a7 b;simp only[d_,n_] at this;rw[g_];have:=E6 p g;omega
 |false =>
 rw[zD M_];exact q _ _ _ ⟨d,g++[t],_,rfl,rfl,by simp [o],by rw[<- b];simp,rfl⟩
end L3
namespace M
open L2 L3
inductive Rw where
 |tk (t:aw × Int × List aw) | od (o:aw × aw) | pr (p:aw × aw × aw)
noncomputable def Rw.words:Rw->ξ aw
 |.tk t=>WJ t
 |.od o=>["order",o.1,o.2]
 |.pr p=>[p.1,p.2.1,p.2.2]
noncomputable def A4:ξ Rw->ξ (aw × aw × aw)
 |[]=>[]
 |.pr p::r=>p::A4 r
 |_::r=>A4 r
inductive RowW:List aw->Prop
 |tk {t:aw × Int × List aw} (h:S0 t):RowW (WJ t)
 |od {a b:aw} (h1:A1 a) (h2:A1 b):RowW ["order",a,b]
 |pr {z a b:aw} (h0:z="with"\/z="apart") (h1:A1 a) (h2:A1 b):RowW [z,a,b]
 |row {xs:List aw} (h1:1<=xs.length) (h8:xs.length<=8) (h:∀x∈xs,A1 x):RowW (([("row":aw)]:List aw)++xs)
noncomputable def DO (ws:ξ aw) (p:aw × aw × aw):ξ (aw × aw):=if p.1∈ws then [(p.2.1,p.2.2),(p.2.2,p.2.1)] else []
noncomputable def JJ (ws:ξ aw) (W:Wk):ξ (aw × aw):=W.orders++W.pairs.flatMap (DO ws)
def Dx (ws:ξ aw) (W:Wk) (a b:aw):Prop:=(a,b)∈JJ ws W
theorem NP (ws:ξ aw) (p:aw × aw × aw):(DO ws p).length<=2:=by unfold DO;split <;> simp
theorem sY (ws:ξ aw):∀ps:ξ (aw × aw × aw),(ps.flatMap (DO ws)).length<=2*ps.length
 |[]=>o_ _
 |p::r=>by
  have a:=NP ws p
  have b:=sY ws r
  simp only[List.flatMap_cons,d_,n_]
  omega
theorem Bh (h:n7 W):(JJ ws W).length<=96:=by have b:=sY ws W.pairs;have c:=h.os;have a:=h.ps;unfold JJ;rw[d_];omega
noncomputable def dF (F:ξ aw):ξ (aw × T):=F.map λz=>(z,T.bl ag)
theorem mW (z:aw):∀F:ξ aw,(aU z (dF F)).isSome=decide (z∈F)
 |[]=>rfl
 |y::r=>by
  have a:=mW z r
  unfold dF at a |-
  simp only[I_,aU]
  by_cases h:y=z
  ·
   simp [h]
  ·
   rw[zD h,a]
   have h':¬z=y:=λe=>h e.symm
   simp [h']
theorem Vw (z:aw) (F:ξ aw):((dF F).any λb=>decide (b.1=z))=decide (z∈F):=by
 unfold dF;rw[qq];induction F with
 |nil=>rfl
 |cons y r a =>
 simp only[M0,Function.comp_apply,a];by_cases h:y=z
 .simp [h]
 have h':¬z=y:=λe=>h e.symm;simp [h,h']
theorem Vx (h:z∉F):BD z (T.bl ag) (dF F)=dF (F++[z]):=by unfold BD;rw[Vw,q_ h,zD M_];unfold dF;rw[B_];rfl
theorem Vy (F:ξ aw):(dF F).length=F.length:=g_ _
theorem Vz (z:aw):[(z,T.bl ag)]=dF [z]:=rfl
theorem Je (b:(∃a,x=.ref a/\H a=ab (.lst ts))\/x=.tup ts) (h:∀still:lq->Prop,(still=dR\/∃a,still=bK a ts/\H a=ab (.lst ts))->R ts still H):De x H R:=by
 rcases b with ⟨a,rfl,e⟩ | rfl
 .rw[Ur,e,oF];exact h _ (.inr ⟨a,rfl,e⟩)
 rw[Uq];exact h _ (.inl rfl)
def bu (W:Wk) (t:aw):ξ aw:=(W.tasks.map (·.1)).filter λx=>@decide (RT (Dx ["with"] W) t x/\RT (Dx ["with"] W) x t) (ap _)
def wB (W:Wk):ξ (ξ aw):=((W.tasks.map (·.1)).filter λt=>decide ((bu W t).head?=ab t)).map (bu W)
def dM (W:Wk) (t:aw):ξ aw:=(W.tasks.map (·.1)).filter λx=>@decide (RT (Dx ["with"] W) x t/\¬RT (Dx ["with"] W) t x) (ap _)
theorem qZ (h:t∈W.tasks.map (·.1)):t∈bu W t:=by unfold bu;rw[L_];exact⟨h,@p_ _ (ap _) ⟨.refl,.refl⟩⟩
theorem Jf (W:Wk) (t:aw):(bu W t).length<=W.tasks.length:=by have:=E6 (λx=>@decide (RT (Dx ["with"] W) t x/\RT (Dx ["with"] W) x t) (ap _)) (W.tasks.map (·.1));rw[g_] at this;exact this
noncomputable def OU (o:aw × aw):aw × aw:=(o.2,o.1)
theorem VB {L:ξ (aw × aw)}:RT (λx y=>(x,y)∈L.map OU) a b↔RT (λx y=>(x,y)∈L) b a:=by
 have e:(λx y=>(x,y)∈L.map OU)=λx y:aw=>(y,x)∈L:=by funext x y;refine propext ⟨λh=>?_,λh=>t_.mpr ⟨(y,x),h,rfl⟩⟩;obtain⟨o,c,d⟩:=t_.mp h;obtain⟨g,f⟩:=o;cases d;exact c
 rw[e];exact Nx
structure Hs (H:lq) (fs:List (ae × O3)):Prop where
 at':∀q∈fs,H q.1=ab q.2
 nd:(fs.map (·.1)).Nodup
theorem Jg (b:ξ (ξ aw)):(b.map sT).all (pl 20)=ag:=by rw[V_];intro t a;obtain⟨x,_,rfl⟩:=t_.mp a;show (x.map zi).all (pl 19)=ag;rw[V_];intro t a;obtain⟨y,_,rfl⟩:=t_.mp a;rfl
def VD (H:lq) (x:T) (b:ξ aw):Prop:=x=sT b\/∃a,x=.ref a/\H a=ab (.lst (b.map zi))
theorem Bj (h:VD H x b) (q:Q (.bl (if neg then !decide (y∈b) else decide (y∈b))) H):uX neg (.str y) x H Q:=by
 have e:eQ neg (zi y) (b.map zi)=(if neg then !decide (y∈b) else decide (y∈b)):=by unfold eQ;have:(zi y∈b.map zi)↔y∈b:=gR mU;simp only[this]
 rcases h with rfl | ⟨a,rfl,c⟩
 .show uX neg (.str y) (.tup (b.map zi)) H Q;rw[Ql,e];exact⟨rfl,cT b,q⟩
 rw[Qm,c,Qn,e];exact⟨rfl,cT b,q⟩
noncomputable def sZ (ks:ξ aw) (k:aw):Bool:=decide (ks=[])||decide (k∈ks)
noncomputable def ju (W:Wk) (t:aw):ξ aw:=(W.pairs.filter λp=>decide (p.1=("apart":aw))&&decide (p.2.1=t)).map (·.2.2)
def MR (W:Wk) (kind:aw) (D S:ξ aw) (t:aw × Int × ξ aw):Bool :=
 !decide (t.1∈D)&&sZ t.2.2 kind&&@decide (∀x∈bu W t.1,x∈S) (ap _)&&@decide (∀x∈dM W t.1,x∈S++D) (ap _)&&@decide (∀x∈ju W t.1,x∉S) (ap _)
noncomputable def cX (ts:List (aw × Int × List aw)) (S:List aw):Int:=((ts.filter λt=>decide (t.1∈S)).map (·.2.1)).sum
def qb (W:Wk) (eG:Int) (kind:aw) (D S:ξ aw):Bool:=(W.tasks.all λt=>!decide (t.1∈S)||MR W kind D S t)&&decide (cX W.tasks S<=eG)
def Ct (W:Wk) (ns:ξ aw) (t:aw × Int × ξ aw):T:=.tup [.int (zt ns [t.1]),.int t.2.1,sT t.2.2,.int (zt ns (bu W t.1)),.int (zt ns (dM W t.1)),.int (zt ns (ju W t.1))]
theorem oX (A:List (aw × Int × List aw)) (t:aw × Int × List aw) (S:List aw):cX (A++[t]) S=cX A S+if t.1∈S then t.2.1 else 0:=by unfold cX;rw[LH,B_,List.sum_append];by_cases h:t.1∈S <;> simp [h]
theorem mX (b:x∈ns):(a8 (zt ns A) (zt ns [x])=zt ns [x])↔x∈A:=by
 rw[dH];constructor
 .intro h;exact h x b Ap
 intro h y _ a;rw[j_.mp a];exact h
end M
namespace L3
open L2
def UD (o:ζ O3) (a:ae) (H:lq) (Q:AC):Prop:=match o with
 |some (.lst xs)=>oq (xs[xs.length - 1]?) λt=>Q t (fY H a (.lst xs.dropLast))
 |_=>False
def Jh:T->ξ T->lq->AC->Prop:=λx ts H Q=>match x,ts with
 |.ref a,[]=>UD (H a) a H Q
 |_,_=>False
theorem Ji (a:ae) (H:lq) (Q:AC):Jh (.ref a) [] H Q=UD (H a) a H Q:=rfl
theorem QZ (xs:ξ T) (a:ae) (H:lq) (Q:AC):UD (ab (.lst xs)) a H Q=oq (xs[xs.length - 1]?) λt=>Q t (fY H a (.lst xs.dropLast)):=rfl
def nP.dropLast {K:a5} (r:nP K H ts vs):nP K H ts.dropLast vs.dropLast:=by rw[lP,lP,r.length];exact r.take _
theorem VF:xW X "list.pop" Jh:=by
 refine HL.imp Ti ?_;rintro x xs H Q ⟨j,ts,H3,Q3,n,l,f,h,k⟩;cases j with
 |ref a =>
  cases ts with
  |cons _ _=>exact h.elim
  |nil =>
  rw[Ji] at h;cases e:H3 a with
  |none=>rw[e] at h;exact h.elim
  |some o =>
  rw[e] at h;cases o with
  |lst d =>
   rw[QZ] at h;obtain⟨g,b,r⟩:=f a _ e;cases c:d[d.length - 1]? with
   |none=>rw[c] at h;exact h.elim
   |some t =>
   rw[c,eY] at h;obtain⟨v,i,m⟩:=r.get c;refine⟨a,g,v,n.ref,l.inv0,b,by rw[<- r.length];exact i,k _ _ _ _ (bW (by rw[b];exact trivial)) (f.wrL b r.dropLast) (m.mono (bW (by rw[b];exact trivial))) h⟩
  |_=>exact h.elim
 |_=>exact h.elim
end L3
namespace M
open L2 L3
set_option genInjectivity true
inductive Jx4 (P:ζ T->ζ T->ζ T->ζ T->Prop):Prop
 |mk a b c d:P a b c d->Jx4 P
inductive Jx5 (P:ζ T->ζ T->ζ T->ζ T->ζ T->Prop):Prop
 |mk a b c d e:P a b c d e->Jx5 P
inductive Jx6 (P:ζ T->ζ T->ζ T->ζ T->ζ T->ζ T->Prop):Prop
 |mk a b c d e f:P a b c d e f->Jx6 P
inductive Jx7 (P:ζ T->ζ T->ζ T->ζ T->ζ T->ζ T->ζ T->Prop):Prop
 |mk a b c d e f g:P a b c d e f g->Jx7 P
inductive Jx8 (P:ζ T->ζ T->ζ T->ζ T->ζ T->ζ T->ζ T->ζ T->Prop):Prop
 |mk a b c d e f g h:P a b c d e f g h->Jx8 P
local macro_rules | `(tactic| walk_at "c") => `(tactic| try dsimp only [nU,a3,I_,IA,Q1,SV,OZ,Mb,Option.getD_some])
local macro_rules | `(tactic| left) => `(tactic| (obtain ⟨e⟩:=‹Op (_ = _)›; subst e; try dsimp only))
local macro_rules | `(tactic| lia) => do
 let ls <- ((N!.splitOn " ").toArray.map String.toName).filterM λn => do return !(<- Lean.Macro.resolveGlobalName n).isEmpty
 let ls <- ls.mapM λn => let i:=Lean.mkIdent n; `(Lean.Parser.Tactic.simpLemma| $i:ident)
 `(tactic| ((try dsimp only [$[$ls:simpLemma],*]); try simp only [*,$[$ls:simpLemma],*]))
local macro_rules | `(tactic| walk_at "h") => `(tactic| have hsz:am=16777216:=rfl)
local macro_rules | `(tactic| ac_rfl) => `(tactic| refine ⟨AD,?_⟩)
local macro_rules | `(tactic| right) => `(tactic| (refine aA λR h=>?_; lia))
theorem q0 (n:aw) (N:ξ aw) (t:T) (s:ξ T):aP (n::N) (t::s)=ab t::aP N s:=by simp [aP]
theorem q4 (n:aw) (N:ξ aw):aP (n::N) []=af::aP N []:=by simp [aP,List.replicate_succ]
theorem q5:aP [] []=[]:=rfl
theorem i! (a b c d):Wk.enc ⟨a,b,c,d⟩=zk [zk (a.map AY),zk (b.map A9),zk (c.map prT),zk (d.map zi)]:=rfl
local macro_rules | `(tactic| walk_at "q") => `(tactic| simp only [q0,q4,q5,i!])
local macro_rules | `(tactic| ac_nf) => `(tactic| (walk_at "q";walk_at "h"))
local macro_rules | `(tactic| walk_at "l") => `(tactic| (intro _ _ _ h; repeat (obtain ⟨e,h⟩:=h; try (subst e; rfl))))
local macro_rules | `(s!$s)=>do
 let T:="$aj _ _;%au _;&aa _ ak;'aD _ _ _;(aC _ _;)aG _ _ _;*aM _ _ rfl _;+aa _ _;,aY _ _ aN;-aa zI _;.aH _ _;/aJ _;:z5;<aK Au zI ao;=n5 _;>ao;?bf G_ rfl _ _ _;@AO;AAH;BzI;CaC 0 _;DAI;EbF _;FaJ bQ;GbR _;Hb6 _ _ _ _ _;Iaa z5 _;Jbx rfl _ _ _;KaK Au _ _;LBB.pt _;MaH _ bN;NcC _;OaR _ _ _;PbM _;Qaa z5 ak;Raa ao ak;SaQ cJ rfl B.len_ cL _;TA6;UbT;VbY _;Waa AH ak;Xaa AI ak;Yv3 10;ZbC ak;[cZ _ _ _;]eZ _ _;^BF;_bC _;`aa zI ak;ab;bd;caK Au z5 ao;dd7 _;ev3 11;fB5;gCS;haa AO _;iaa AH _;jEQ.nd;kbj;ldh;mbD _;ncj _;oc7 _;paR _ _ ao;qdC _ _ _ _ _ _;rFC.nd;sFc.nd;tFA.nd;ubh;vfC;wl;xbG cR rfl B.tuple_ bZ _;ycB rfl B.range_ _;zaR _ _ _ rfl;|K_;~aa ao _;¡gG _ _;¢eV _;£aK Au _ ao;¤aG bh _ ao;¥E2.nd;¦bI;§hr;¨P_;©Q_;ªbH;«j;¬c;®cD n:2 rfl _;¯aa AI _;°cD n:3 rfl _;±fJ _;²v3 12;³k;´S;µiT _;¶aQ _ rfl _ _ _;·aR _ _ cY;¸aQ iH rfl B.isinstance_ cu _;¹EK;ºt;»gO i:_ rfl _ _ _ _;¼aa B5 ak;½gQ _ _ _;¾JA.nd;¿Kb.nd;ÀJE.nd;ÁPr.nd;Â10;ÃfK;ÄaK Au CS ao;ÅbD z5;ÆaG bj _ _;ÇaG bI zI ao;ÈaG jE ao ao;ÉLL.nd;ÊKO.nd;ËcY;Ì11;Íe;Îu;ÏL;Ðaa AO ak;ÑaJ AH;ÒaC 1 _;Ólr _;Ôlu _ _;ÕbD zI;Öaa BF ak;×aK Au A6 ao;ØaG bh _ _;ÙeX _;ÚaG bj ao _;ÛMd.nd;ÜL6.nd;ÝMZ.nd;ÞgH;ß12;àak;áM;ânT _ _;ãaG bj _ ao;äaa A6 ak;ådC K_ P_ Q_ bH z5 _;æcj a;çv3 13;èjV rfl B.tuple_ bZ;édi j zI;êiV _ _ _;ëaG bI AI ao;ìaG dh ao _;íaG bI zI _;îaM l hr rfl _;ïaQ _ rfl B.max_ oJ _;ðNl.nd;ñN0.nd;òNc.nd;óNH.nd;ôKk.nd;õoH;öO;÷m;øa;ùr;úaJ z5;ûjT G_ _ _;ürZ _ _ _;ýaK Au AO ao;þcj b;ÿcj c;ĀaM r hr rfl _;āaa BF _;Ăaa EK _;ăb6 64 jq _ 1 _;ĄaG gH _ ao;ąfJ a;ĆcD n:6 rfl _;ćaR ou _ ao;ĈjV rfl _ _;ĉjX _ _ zI _;ĊaG bj A6 _;ċjU _;Čaa B5 _;čdi _ _;ĎdC K_ P_ Q_ bH _ _;ďaG bh zI ao;ĐaK Au z5 _;đcj I;ĒmQ rfl;ēsH d zI _;ĔaM c r rfl _;ĕaM b J rfl _;ĖOE.nd;ėOR.nd;ĘOX.nd;ęPY.nd;ĚOB.nd;ěOy.nd;Ĝhu31;ĝAf;Ğo;ğX;Ġq;ġaM b o rfl _;ĢbG rT rfl B.list_ mL _;ģaD 3 MO.nd bQ;ĤrR _ _ _ _;ĥaM d m rfl _;ĦaM c m rfl _;ħaR _ _ z5 rfl;ĨaC 2 _;ĩbY AI;ĪbY z5;īaK Au AH ao;Ĭaa cY _;ĭcj r;Įb6 57 pG _ 1 _;įiT y;İaM a V rfl _;ıbG _ rfl _ _ _;ĲfJ k;ĳaG bj AH _;Ĵaa A6 _;ĵeX ao;Ķyu K_ _ _ _ _;ķcj l;ĸaD 2 Pf.nd _;Ĺlz _ _ _;ĺyt ao;ĻaD 4 Kk.nd _;ļaG bh AI ao;ĽaK Au AI _;ľaD 6 E2.nd _;Ŀaa EK ak;ŀaG bh BF ao;ŁaD 5 N1.nd _;łB.sorted_;ŃB.int_;ńMO.nd;ŅRO.nd;ņRs.nd;ŇSe.nd;ňhu30;ŉbQ;Ŋjk;ŋou;Ō13;ōyc;Ŏoh;ŏ49;ŐkJ;őv;ŒD;œp;Ŕi;ŕqT _ _ AH;ŖvU P:P w:w rfl rfl;ŗvV P:P w:w rfl rfl _ _ _ bQ;ŘoO P:P w:w rfl rfl _ _ _;řuO oh oh ao _ AH;ŚxY rfl;śGK rfl;ŜAo rfl B.zip_ _;ŝB.str_;ŞB.sum_;şB.all_;ŠUS.nd;šN1.nd;ŢTL.nd;ţnR;Ť65;ťkh;Ŧ66;ŧdJ;ŨGx;ũz6;ŪxZ;ū36;Ŭf9;ŭGw;ŮAc;ů56;ŰkI;űBv;ŲG9;ųiN;ŴiL;ŵJC;Ŷ14;ŷcD n:_ rfl _;ŸM8 P:P w:w rfl rfl a _ A6;ŹHY w:w rfl _ rfl;źyJ w:w rfl X _ A6;ŻMP w:w rfl e _ z5".splitOn ";"
 let mut k:Array Lean.Term:=#[]
 let mut p:=false
 for x in s.raw.getArgs do match x.isInterpolatedStrLit? with
  |none=>k:=k.push ⟨x⟩
  |some y=>for c in y.toList do
   if c=='!' then
    let n:=k.size
    k:=(k.extract 0 (n - 3)).push (←`(fun _ _ _ _ _ _=>⟨$(k[n - 3]!),$(k[n - 2]!),$(k[n - 1]!)⟩))
   else if c.isDigit then
    k:=k.push (Lean.quote (c.toNat - 48))
    if p then
     let n:=k.size - 2 - (c.toNat - 48)
     k:=(k.extract 0 n).push (Lean.Syntax.mkApp k[n]! (k.extract (n+1) (k.size - 1)))
    p:=false
   else if c=='#' then p:=true
   else
    let r:=((((T.find? (·.front==c)).getD "").drop 1).toString).splitOn " "
    let mut j:=k.size - (r.filter λy=>y=="_"||y.endsWith ":_").length
    let b:=j
    let mut l:Array Lean.Term:=#[]
    for y in r.drop 1 do
     let z:=y.splitOn ":"
     let w:=z.getLast!
     let mut e:Lean.Term:=if w.front.isDigit then Lean.quote w.toNat! else Lean.mkIdent w.toName
     if w=="_" then
      e:=k[j]!
      j:=j+1
     if z.length==2 then e:=⟨.node .none ``Lean.Parser.Term.namedArgument #[Lean.mkAtom "(",Lean.mkIdent z.head!.toName,Lean.mkAtom ":=",e,Lean.mkAtom ")"]⟩
     l:=l.push e
    let h:=r.head!
    k:=(k.extract 0 b).push (Lean.Syntax.mkApp (if h.front.isDigit then Lean.quote h.toNat! else Lean.mkIdent h.toName) l)
 return k.back!
theorem n5 (l:ξ aw) (h:l.Nodup:=by decide +kernel):l.Nodup:=h
theorem b6 (i:Nat) (N N':ξ aw) (nt:Nat) (cap:ξ Nat) {X}{scope} (c:X.env.scope.names=(aB (zw i)).names:=by rfl) (o:X.N=N:=by rfl) (h:CL (aB (zw i)).names N (scope.kind==.function) scope.names N' nt cap=ag:=by decide +kernel):Lo X N' nt cap scope:=bz c o h
theorem c6 {P:bb}{w:bg}{K:a5}{mg:aw->ζ av}{base:cn}{k:Nat}{sp:AM}{N ps:ξ aw}{f:ae}{fd:d4}{x:aw}{st:ez} (F:G3 K mg x st ps f fd) (S:gV N ps (aB st)) (cb:∀(b:av) (A:dn) (a:ξ yA) (s:aT) (H:Hp) (E:XK) (ts:ξ T) (H3:lq) (Q:AC),xr k (A.deeper (hZ x (aB st) s.heap.objs.size f b))->sp ts H3 Q ->
   ∃t,pZ (ux KM P w K mg base N x (aB st) f b A a s H E).nox (cP st) t/\t { nx:=λ_ H'=>My Q .non H',rt:=My Q} (aP N ts) H3) (gl:∀ts H Q,sp ts H Q->ts.length=ps.length:=by walk_at "l"):R7 P w K mg base (k+1) x st ps sp:=⟨f,fd,F,L9 F.fn S gl cb⟩
structure nW (p:Prop):Prop where
 out:p
structure Cl (H:lq) (a:ae):Prop where
 ex:∃ns:List Int,H a=ab (.lst (ns.map zh))/\ns.length<=504
def YU (a:ae) (H H':lq):Prop:=∀b o,H b=ab o->b≠a->H' b=ab o
structure Wt (c:ae) (H0 H:lq) (fs:List (ae × O3)):Prop where
 cl:Cl H c
 kp:YU c H0 H
 at':∀p∈fs,H p.1=ab p.2/\p.1≠c
theorem j0 (n:Nat):fH 0 n=(ay n).map λ(i:Nat)=>zh (i:Int):=by unfold fH;exact Mo λi _=>by rw[Int.zero_add]
theorem cM (s:eH H H') (a:H' p=af):H p=af:=by
 cases e:H p with
 |none=>rfl
 |some o=>rw[s _ _ e] at a;cases a
theorem UQ:∀(ws:ξ aw) (f:Nat->aw),(∀i j,i<=ws.length->j<=ws.length->f i=f j->i=j)->(∀i,i<=ws.length->f i∈ws)->False
 |[],f,_,h=>by have:=h 0 (o_ _);simp at this
 |w::ws,f,inj,h=>by
  rw[n_] at inj h
  by_cases q:∃j,j<=ws.length+1/\f j=w
  ·
   obtain⟨j,g,e⟩:=q
   refine UQ ws (λi=>if i<j then f i else f (i+1)) (λa b m k c=>?_) (λi l=>?_)
   ·
    try dsimp only at c
    split at c <;> split at c
    ·
     exact inj a b zo zo c
    ·
     have:=inj a (b+1) zo zo c;omega
    ·
     have:=inj (a+1) b zo zo c;omega
    ·
     have:=inj (a+1) (b+1) zo zo c;omega
   ·
    show (if i<j then f i else f (i+1))∈ws
    split
    ·
     exact (v_.mp (h i zo)).resolve_left λd=>by have:=inj i j zo g (d.trans e.symm);omega
    ·
     exact (v_.mp (h (i+1) zo)).resolve_left λd=>by have:=inj (i+1) j zo g (d.trans e.symm);omega
  ·
   exact UQ ws f (λa b m k=>inj a b zo zo) λi l=>(v_.mp (h i zo)).resolve_left λe=>q ⟨i,zo,e⟩
noncomputable def dg:Nat->Int->ξ Nat
 |0,_=>[]
 |n+1,l=>(97+(l%26).toNat)::dg n (l / 26)
noncomputable def bw (b:Bool):aw:=if b then "with" else "apart"
noncomputable def g? (x:Bool × Nat × Nat):T:=.tup [.str (bw x.1),.int (x.2.1:Int),.int (x.2.2:Int)]
structure PI (d:ae) (H0 H:lq) (pp pe a:ae) (ws:List aw) (ps:List (Bool × Nat × Nat)) (es:List T):Prop where
 w:Wt d H0 H [(pp,.lst (ps.map g?)),(pe,.lst es),(a,.lst (ws.map zi))]
 ne:pe≠pp
 na:a≠pp
 l12:ps.length<=12
 ea:es.all (pl 20)=ag
 el:es.length<=28+2*ps.length
 ok:∀x∈ps,x.2.1≠x.2.2/\x.2.1<ws.length/\x.2.2<ws.length
noncomputable def oD (ws:ξ aw) (a:ξ Nat) (x:Nat × Nat):aw × aw:=(ws.getD (a.getD x.1 0) "",ws.getD (a.getD x.2 0) "")
theorem getD_mem {a:Type}{l:ξ a}{d:a} (h:i<l.length):l.getD i d∈l:=by rw[k_,e_ h];exact FI h
noncomputable def fu (f:aw->Nat) (n:aw) (v:Nat):aw->Nat:=λx=>if x=n then v else f x
noncomputable def mu (m:Nat) (ns:List aw) (f:aw->Nat):Nat:=(ns.map λn=>m - f n).sum
theorem vg {K:a5} (h:∀ts H Q,¬sp ts H Q):iU P w K mg base k f c ps sp :=
 ⟨λvs H Q E ⟨ts,H3,Q3,_,_,q,_⟩=>AL q (h _ _ _),λA a s H b us vs Q E _ _ _ _ ⟨ts,H3,Q3,_,_,q,_⟩=>AL q (h _ _ _)⟩
def ld (tk:List (aw × Int × List aw)) (ns:List aw):Int:=((tk.filter (λt=>eQ ai (.str t.1) (ns.map zi))).map (·.2.1)).sum
theorem NQ:bi "dict"=ab (.type "dict"):=by decide +kernel
noncomputable def Z' (k:Nat) (f:aw->Nat) (xs:ξ aw):aw->Nat:=xs.foldl (λf n=>fu f n k) f
noncomputable def fD (D:ξ (ξ aw)):aw->Nat:=D.zipIdx.foldl (λf p=>Z' p.2 f p.1) (λ_=>0)
noncomputable def SY (ts:ξ (aw × Int × ξ aw)) (n:aw):ξ aw:=match ts.find? (λt=>decide (t.1=n)) with
 |some t=>t.2.2
 |none=>[]
noncomputable def F' (row:ξ aw) (D:ξ (ξ aw)):ζ T:=if D.length>row.length then ab (.tup [.str "stands",.int (D.length:Int)]) else af
noncomputable def F! (ns xs:ξ aw):ζ T:=(xs.find? λx=>!decide (x∈ns)).map λx=>.tup [.str "strange",.str x]
noncomputable def YR:ξ aw->ξ aw->ζ aw
 |_,[]=>af
 |sn,x::r=>if x∈sn then ab x else YR (sn++[x]) r
noncomputable def o! (xs:ξ aw):ζ T:=(YR [] xs).map λx=>.tup [.str "twice",.str x]
noncomputable def f' (ns xs:ξ aw):ζ T:=(ns.find? λn=>!decide (n∈xs)).map λn=>.tup [.str "lost",.str n]
noncomputable def L! (f:aw->Nat) (os:ξ (aw × aw)):ζ T:=(os.find? λo=>decide (f o.2<f o.1)).map λo=>.tup [.str "order",.str o.1,.str o.2]
noncomputable def M' (f:aw->Nat) (ps:ξ (aw × aw × aw)):ζ T:=(ps.find? λp=>decide (f p.2.1=f p.2.2) != decide (p.1=("with":aw))).map λp=>.tup [.str p.1,.str p.2.1,.str p.2.2]
noncomputable def K' (ks:ξ aw) (k:aw):Bool:=decide (ks=[])||decide (k∈ks)
noncomputable def Zy (a:aw->ξ aw) (row:ξ aw):Nat->ξ (ξ aw)->ζ T
 |_,[]=>af
 |k,s::r=>match s.find? λn=>!K' (a n) (row.getD k "") with
  |some n=>ab (.tup [.str "kind",.str n,.int (k:Int)])
  |none=>Zy a row (k+1) r
noncomputable def Zz (g:ξ aw->Int) (eG:Int):Nat->ξ (ξ aw)->ζ T
 |_,[]=>af
 |k,s::r=>if g s>eG then ab (.tup [.str "beat",.int (k:Int)]) else Zz g eG (k+1) r
noncomputable def x' (W:Wk) (D:ξ (ξ aw)):ζ T:=(F' W.row D).or ((F! (W.tasks.map (·.1)) D.flatten).or ((o! D.flatten).or (f' (W.tasks.map (·.1)) D.flatten)))
def S' (W:Wk) (eG:Int) (D:ξ (ξ aw)):ζ T:=(L! (fD D) W.orders).or ((M' (fD D) W.pairs).or ((Zy (SY W.tasks) W.row 0 D).or (Zz (ld W.tasks) eG 0 D)))
def flt (W:Wk) (eG:Int) (D:ξ (ξ aw)):ζ T:=(x' W D).or (S' W eG D)
theorem VG (ts:ξ T) (i:Int) (H:lq) (Q:AC):RF (ab (.rol ts)) i H Q=oq (AR ts i) λt=>Q t H:=rfl
def ZC:AM:=λts H Q=>∃tk:ξ (aw × Int × ξ aw),ts=[.tup (tk.map AY)]/\tk.length<=8/\∀p,H p=af->Q (.ref p) (fY H p (.lst ((tk.map (·.1)).map zi)))
structure FS (W:Wk) (eG:Int) (kind:aw) (D S:List aw):Prop where
 one:∀t∈W.tasks,t.1∈S->t.1∉D/\sZ t.2.2 kind=ag/\(∀x∈bu W t.1,x∈S)/\(∀x∈dM W t.1,x∈S\/x∈D)/\∀x∈ju W t.1,x∉S
 ld:cX W.tasks S<=eG
theorem QN:qb W eG kind D S=ag↔FS W eG kind D S:=by
 unfold qb;rw[F_,h_,V_];have key:∀t:aw × Int × ξ aw,(!decide (t.1∈S)||MR W kind D S t)=ag↔(t.1∈S->t.1∉D/\sZ t.2.2 kind=ag/\(∀x∈bu W t.1,x∈S)/\(∀x∈dM W t.1,x∈S\/x∈D)/\∀x∈ju W t.1,x∉S):=λt=>by
  unfold MR;rw[PH,NO,Mc,F_,F_,F_,F_,NO,Mc,@h_ _ (ap _),@h_ _ (ap _),@h_ _ (ap _)];constructor
  .intro h c;obtain⟨⟨⟨⟨j,g⟩,d⟩,f⟩,k⟩:=h.resolve_left (λz=>z c);exact⟨j,g,d,λx i=>x_.mp (f x i),k⟩
  intro h;by_cases c:t.1∈S
  .obtain⟨j,g,d,f,k⟩:=h c;exact .inr ⟨⟨⟨⟨j,g⟩,d⟩,λx i=>x_.mpr (f x i)⟩,k⟩
  exact .inl c
 exact⟨λ⟨a,b⟩=>⟨λt e=>(key t).mp (a t e),b⟩,λh=>⟨λt e=>(key t).mpr (h.one t e),h.ld⟩⟩
theorem wC (h:∀x,x∈S↔x∈a):cX ts S=cX ts a:=by
 have e:(ts.filter λt=>decide (t.1∈S))=ts.filter λt=>decide (t.1∈a):=KW λt _=>by rw[Lc];exact h t.1
 unfold cX;rw[e]
theorem FS.congr (f:FS W eG kind D S) (d:∀x,x∈D↔x∈e) (b:∀x,x∈S↔x∈c):FS W eG kind e c :=
 ⟨λt h k=>by
  obtain⟨l,j,g,i,m⟩:=f.one t h ((b _).mpr k)
  exact⟨λz=>l ((d _).mpr z),j,λx a=>(b x).mp (g x a),λx a=>(i x a).imp (b x).mp (d x).mp,λx a z=>m x a ((b x).mpr z)⟩,by rw[<- wC b];exact f.ld⟩
def L1 (W:Wk) (eG:Int) (D:ξ (ξ aw)):Prop:=∀k s,D[k]?=ab s->FS W eG (W.row.getD k "") (D.take k).flatten s
theorem L1.snoc (h:L1 W eG D) (f:FS W eG (W.row.getD D.length "") D.flatten s):L1 W eG (D++[s]):=λk s' e=>by
 by_cases d:k<D.length
 .rw[NR d] at e;rw[List.take_append_of_le_length zo];exact h k s' e
 rw[Z_ zo] at e;have b:k - D.length=0:=by
  cases c:k - D.length with
  |zero=>rfl
  |succ n=>rw[c] at e;simp at e
 have a:k=D.length:=zo
 subst a;rw[b] at e;simp only[OZ,SA] at e;subst e;rw[sM]
 .exact f
 rfl
theorem L1.nil:L1 W eG []:=λk s e=>by simp at e
theorem Jj (h:Dx ["with"] W a b):(a,b)∈W.orders\/∃p∈W.pairs,p.1="with"/\(p.2=(a,b)\/p.2=(b,a)):=by
 unfold Dx JJ at h;rcases x_.mp h with h | h
 .exact .inl h
 obtain⟨p,e,c⟩:=F8.mp h;unfold DO at c;split at c
 .rename_i d;refine .inr ⟨p,e,by simpa using d,?_⟩;simp only[v_,kc,DI,DJ] at c;rcases c with ⟨rfl,rfl⟩ | ⟨rfl,rfl⟩
  .exact .inl rfl
  exact .inr rfl
 cases c
theorem Jk {row:ξ aw} (h:k<row.length):AR (row.map zi) (k:Int)=ab (.str (row.getD k "")):=cA (by rw[C_,e_ h,k_,e_ h];rfl)
theorem q8:∀ns:ξ aw,AN ns 0=[]
 |[]=>rfl
 |n::r=>by
  have:=q8 r
  unfold AN
  simpa using this
noncomputable def CI {b:Type}(a:b->b->Bool):ξ b->ξ b
 |[]=>[]
 |n::B=>if (CI a B).any (λg=>a g n) then CI a B else CI a B++[n]
theorem tu:∀(xs:ξ a),∀g∈CI b xs,g∈xs
 |[],g,h=>h
 |n::B,g,h=>by
  unfold CI at h
  split at h
  ·
   exact E_ _ (tu B g h)
  ·
   rcases x_.mp h with h | h
   ·
    exact E_ _ (tu B g h)
   ·
    rw[j_.mp h];exact A_
theorem Bk {c:f->f->Bool} (i:∀a,c a a=ag):∀(xs:ξ f),∀b∈xs,∃g∈CI c xs,c g b=ag
 |n::B,b,h=>by
  unfold CI
  rcases v_.mp h with rfl | h
  ·
   split
   ·
    rename_i j
    obtain⟨g,d,e⟩:=LM.mp j
    exact⟨g,d,e⟩
   ·
    exact⟨b,Ap,i b⟩
  ·
   obtain⟨g,d,e⟩:=Bk i B b h
   split
   ·
    exact⟨g,d,e⟩
   ·
    exact⟨g,FU _ d,e⟩
theorem DP (m:Nat):ay (m+m)=ay m++(ay m).map (·+m):=by rw[w9];congr 1;exact Mo λa _=>qk _ _
theorem mY:∀(ws:ξ aw) (b:Int),(AN ws b).length<=ws.length
 |[],_=>o_ _
 |x::r,b=>by
  unfold AN
  have:=mY r (b / 2)
  split
  ·
   rw[n_,n_];omega
  ·
   rw[n_];omega
noncomputable def bJ (b a:Nat):Bool:=decide (a8 (b:Int) (a:Int)=(a:Int))
theorem ir (b a:Nat):bJ b a=ag↔b &&& a=a:=by unfold bJ;rw[h_,iK];exact OI
theorem DQ (a:Nat):bJ a a=ag:=(ir a a).mpr (Nat.and_self a)
noncomputable def nm (W:Wk):ξ aw:=W.tasks.map (·.1)
noncomputable def pk (W:Wk) (i:Nat):ξ aw:=AN (nm W) (i:Int)
noncomputable def zv (W:Wk):Nat:=2^W.tasks.length
theorem d8 (W:Wk):(nm W).length=W.tasks.length:=g_ _
theorem cW (b:n7 W) (h:i<zv W):cN (nm W) (pk W i)=i:=by
 have a:((i:Int))<2^(nm W).length:=by
  have e:((2^W.tasks.length:Nat):Int)=(2:Int)^W.tasks.length:=by push_cast;rfl
  rw[d8,<- e];exact Int.ofNat_lt.mpr h
 have:=Jb (ns:=nm W) b.nd (KU i) a;rw[bO] at this;exact Int.ofNat.inj this
theorem tD (A:ξ aw):cN (nm W) A<zv W:=by
 have:=wz (nm W) A;rw[bO,d8] at this;have e:((2^W.tasks.length:Nat):Int)=(2:Int)^W.tasks.length:=by push_cast;rfl
 rw[<- e] at this;exact Int.ofNat_lt.mp this
theorem Jl (a:n7 W) (A:ξ aw):pk W (cN (nm W) A)=(nm W).filter λx=>decide (x∈A):=by unfold pk;rw[<- bO];exact wA _ _ a.nd
theorem oY (a:n7 W):x∈pk W (cN (nm W) A)↔x∈nm W/\x∈A:=by rw[Jl a,L_,h_]
theorem fU (h:x∈pk W i):x∈nm W:=iZ _ _ x h
theorem gJ:∀(ns A B:ξ aw),(∀x∈ns,x∈B↔x∉A)->cN ns A+cN ns B+1=2^ns.length
 |[],_,_,_=>rfl
 |x::r,A,B,h=>by
  have d:=gJ r A B λy c=>h y (E_ _ c)
  have b:=h x A_
  simp only[cN,n_,kP]
  by_cases a:x∈A
  ·
   rw[z3 a,zD (λz=>b.mp z a)];omega
  ·
   rw[zD a,z3 (b.mpr a)];omega
theorem j4:∀(ns A B:ξ aw),(∀x∈ns,¬(x∈A/\x∈B))->cN ns A+cN ns B=cN ns (A++B)
 |[],_,_,_=>rfl
 |x::r,A,B,h=>by
  have e:=j4 r A B λy c=>h y (E_ _ c)
  have d:=h x A_
  simp only[cN,x_]
  by_cases a:x∈A
  ·
   have b:x∉B:=λz=>d ⟨a,z⟩
   simp only[a,b,if_true,W_,DJ];omega
  ·
   by_cases b:x∈B
   ·
    simp only[a,b,if_true,W_,or_true];omega
   ·
    simp only[a,b,W_,or_self];omega
theorem wD:bJ (cN (nm W) A) (cN (nm W) B)=ag↔∀x∈nm W,x∈B->x∈A:=by unfold bJ;rw[h_,<- bO,<- bO];exact dH _ _ _
noncomputable def wF (N:Nat):ξ Nat:=(ay (N+1)).filter (bJ N)
theorem NT (h:bJ N i=ag):i<=N:=by have:=(ir N i).mp h;have:=Nat.and_le_left (n:=N) (m:=i);omega
theorem Bm (h:N<M):(ay M).filter (bJ N)=wF N:=by
 obtain⟨k,rfl⟩:∃k,M=(N+1)+k:=⟨M - (N+1),zo⟩;unfold wF;rw[w9,LH];have:((ay k).map λx=>N+1+x).filter (bJ N)=[]:=by rw[LP];intro a b;obtain⟨x,_,rfl⟩:=t_.mp b;intro z;have:=NT z;omega
 rw[this,C9]
theorem wG (e:i<2^k):bJ N (i+2^k)=(bJ N (2^k)&&bJ N i):=by
 have a:i+2^k=2^k ||| i:=by have:=Nat.two_pow_add_eq_or_of_lt e 1;rw[Nat.mul_one] at this;omega
 rw[CC,F_,ir,ir,ir,a];constructor
 .intro h;have c:∀j,(N &&& (2^k ||| i)).testBit j=(2^k ||| i).testBit j:=λj=>by rw[h]
  refine⟨mo λj=>?_,mo λj=>?_⟩
  .have:=c j;rw[f7,wT] at this;rw[f7];cases b:(2^k).testBit j <;> simp_all
  have:=c j;rw[f7,wT] at this;rw[f7];cases b:i.testBit j <;> simp_all
 rintro⟨b,d⟩;rw[Nat.and_or_distrib_left,b,d]
theorem Jm:(ay (2^(k+1))).filter (bJ N)=(ay (2^k)).filter (bJ N)++if bJ N (2^k)=ag then ((ay (2^k)).filter (bJ N)).map (·+2^k) else []:=by
 rw[show 2^(k+1)=2^k+2^k by rw[kP];omega,DP,LH];congr 1;rw[f_];by_cases h:bJ N (2^k)=ag
 .rw[z3 h];congr 1;refine KW λi a=>?_;show bJ N (i+2^k)=bJ N i;rw[wG (Y_.mp a),h,Lu]
 rw[zD h,LP.mpr,IA];intro i a;show ¬bJ N (i+2^k)=ag;rw[wG (Y_.mp a),F_];exact λz=>h z.1
def FF (W:Wk) (eG:Int) (k d i:Nat):Bool:=qb W eG (W.row.getD k "") (pk W d) (pk W i)
def B6 (W:Wk) (eG:Int) (k d:Nat):ξ Nat:=(ay (zv W)).filter (FF W eG k d)
theorem IY:i∈B6 W eG k d↔i<zv W/\FS W eG (W.row.getD k "") (pk W d) (pk W i):=by unfold B6;rw[L_,Y_];unfold FF;rw[QN]
theorem FS.apart (f:FS W eG kind D S) (b:x∈nm W) (a:x∈S):x∉D:=by obtain⟨t,c,rfl⟩:=t_.mp b;exact (f.one t c a).1
theorem DR (c:n7 W) (l:d<zv W):(wF (zv W - 1 - d)).filter (FF W eG k d)=B6 W eG k d:=by
 have e:zv W - 1 - d<zv W:=zo
 rw[<- Bm e];unfold B6;rw[List.filter_filter];refine KW λi j=>?_;have b:=Y_.mp j;cases h:FF W eG k d i with
 |false=>rfl
 |true =>
 rw[Lu];have f:FS W eG (W.row.getD k "") (pk W d) (pk W i):=QN.mp h;have m:zv W - 1 - d=cN (nm W) ((nm W).filter λx=>decide (x∉pk W d)):=by
  have:=gJ (nm W) (pk W d) ((nm W).filter λx=>decide (x∉pk W d)) λx a=>by rw[L_,h_];exact⟨λz=>z.2,λz=>⟨a,z⟩⟩
  rw[cW c l,d8] at this;unfold zv;omega
 rw[m,show i=cN (nm W) (pk W i) from (cW c b).symm];rw[wD];intro x a g;rw[L_,h_];exact⟨a,f.apart a g⟩
inductive CD (W:Wk) (eG:Int):List Nat->Nat->Prop
 |nil:CD W eG [] 0
 |snoc {fs:List Nat} {d f:Nat}:CD W eG fs d->fs.length<W.row.length->f∈B6 W eG fs.length d->CD W eG (fs++[f]) (d+f)
theorem jm (W:Wk):pk W 0=[]:=q8 _
theorem CD.ok (i:n7 W) (r:CD W eG a d):d<zv W/\a.length<=W.row.length/\(∀x,x∈pk W d↔x∈(a.map (pk W)).flatten)/\L1 W eG (a.map (pk W))/\∀f∈a,f<zv W:=by
 induction r with
 |nil=>exact⟨so zC,B8 _,λx=>by rw[jm];rfl,L1.nil,λ_ h=>(nomatch h)⟩
 |@snoc a d f r p k l =>
 obtain⟨o,_,j,q,m⟩:=l;obtain⟨c,F⟩:=IY.mp k;have e:d+f=cN (nm W) (pk W d++pk W f):=by rw[<- j4 _ _ _ λx n z=>F.apart n z.2 z.1,cW i o,cW i c]
 refine⟨by rw[e];exact tD _,by rw[d_];exact p,λx=>?_,?_,λg b=>?_⟩
 .rw[e,oY i,B_,List.flatten_append,x_,x_,<- j x];simp only[I_,IA,LB,List.flatten_nil,C9];exact⟨λz=>z.2,λz=>⟨z.elim fU fU,z⟩⟩
 .rw[B_];refine q.snoc ?_;rw[g_];exact F.congr j λx=>Iff.rfl
 rcases x_.mp b with b | b
 .exact m g b
 rw[j_.mp b];exact c
theorem DW (d:n7 W):∀x∈nm W,x∈pk W (zv W - 1):=λx a=>by
 have c:cN (nm W) (nm W)=zv W - 1:=by
  have:=gJ (nm W) (nm W) [] λy b=>by simp [b]
  rw[il,d8] at this;unfold zv;omega
 rw[<- c,oY d];exact⟨a,a⟩
theorem lE (h:∀x∈nm W,x∈A):cN (nm W) A=zv W - 1:=by
 have:=gJ (nm W) A [] λy a=>by simp [h y a]
 rw[il,d8] at this;unfold zv;omega
noncomputable def aW (i:Nat):T:=.int (i:Int)
noncomputable def EJ (W:Wk) (eG:Int) (p:ae):ξ (aw × T):=[("works",W.enc),("beat",.int eG),("rules",.ref p),("whole",.int ((zv W:Int) - 1))]
structure CB (C:ae) (W:Wk) (eG:Int) (H:lq) (a:ae):Prop where
 ex:∃p,H a=ab (.ins C (EJ W eG p))/\H p=ab (.lst (W.tasks.map (Ct W (W.tasks.map (·.1)))))
theorem CB.sub (h:CB C W eG H a) (s:eH H H'):CB C W eG H' a:=by obtain⟨p,b,c⟩:=h.ex;exact⟨p,s _ _ b,s _ _ c⟩
theorem iu:aU "works" (EJ W eG p)=ab W.enc:=rfl
theorem tE:aU "beat" (EJ W eG p)=ab (.int eG):=by unfold EJ aU;rw[zD AQ];unfold aU;rw[z3 rfl]
theorem oZ:aU "rules" (EJ W eG p)=ab (.ref p):=by unfold EJ aU;rw[zD AQ];unfold aU;rw[zD AQ];unfold aU;rw[z3 rfl]
theorem o4:aU "whole" (EJ W eG p)=ab (.int ((zv W:Int) - 1)):=by unfold EJ aU;rw[zD AQ];unfold aU;rw[zD AQ];unfold aU;rw[zD AQ];unfold aU;rw[z3 rfl]
theorem wH (h:m∉(["works","beat","rules","whole"]:ξ aw)):aU m (EJ W eG p)=af:=by simp only[v_,DI,DJ,not_or] at h;unfold EJ;simp only[aU];rw[zD (a6 h.1),zD (a6 h.2.1),zD (a6 h.2.2.1),zD (a6 h.2.2.2)]
theorem jM (a:n7 W) (h:i<zv W):zt (W.tasks.map (·.1)) (pk W i)=(i:Int):=by rw[bO];exact U_ sf (cW a h)
theorem gU (a:n7 W):zv W<=256:=OF (n:=2) zC a.t8
theorem dj (W:Wk):0<zv W:=so zC
def Q0:AM:=λts H Q=>∃N:Nat,ts=[.int (N:Int)]/\N<256/\∀p,H p=af->Q (.ref p) (fY H p (.lst ((wF N).map aW)))
def NZ (C:ae):AM:=λts H Q=>∃(a:ae) (W:Wk) (eG:Int),ts=[.ref a,W.enc,.int eG]/\n7 W/\H a=ab (.ins C [])/\∀H',(∀b o,b≠a->H b=ab o->H' b=ab o)->CB C W eG H' a->Q .non H'
def ZD (C:ae):AM:=λts H Q=>∃(a:ae) (W:Wk) (eG:Int) (k d:Nat),ts=[.ref a,.int (k:Int),.int (d:Int)]/\n7 W/\CB C W eG H a/\k<W.row.length/\d<zv W/\∀p,H p=af->Q (.ref p) (fY H p (.lst ((B6 W eG k d).map aW)))
def Q4 (C:ae):AM:=λts H Q=>∃(a:ae) (W:Wk) (eG:Int) (i:Nat),ts=[.ref a,.int (i:Int)]/\n7 W/\CB C W eG H a/\i<zv W/\Q (.int (cX W.tasks (pk W i))) H
def ZF (C:ae):AM:=λts H Q=>∃(a:ae) (W:Wk) (eG:Int) (b:ξ Nat),ts=[.ref a,.tup (b.map aW)]/\n7 W/\CB C W eG H a/\b.length<=8/\(∀f∈b,f<zv W)/\Q (.tup ((b.map (pk W)).map sT)) H
section
variable {α:Type}
noncomputable def cU (k:Nat):ξ (Nat × α)->ζ α
 |[]=>af
 | (k',v)::r=>if k'=k then ab v else cU k r
noncomputable def BH (k:Nat) (v:α) (E:ξ (Nat × α)):ξ (Nat × α) :=
 if (E.any λe=>decide (e.1=k))=ag then E.map (λe=>if e.1=k then (e.1,v) else e) else E++[(k,v)]
noncomputable def dI (a:α->T) (E:ξ (Nat × α)):ξ (Int × T):=E.map λe=>((e.1:Int),a e.2)
theorem VH (a:α->T) (E:ξ (Nat × α)):(dI a E).length=E.length:=g_ _
theorem tG (a:α->T) (k:Nat):∀E:ξ (Nat × α),dW (k:Int) (dI a E)=(cU k E).map a
 |[]=>rfl
 | (k',v)::r=>by
  have b:=tG a k r
  unfold dI at b |-
  rw[I_]
  unfold dW cU
  by_cases h:k'=k
  ·
   rw[z3 h,z3 (show ((k':Nat):Int)=(k:Int) by rw[h])];rfl
  ·
   rw[zD h,zD (show ¬((k':Nat):Int)=(k:Int) by omega),b]
theorem VJ (a:α->T) (k:Nat) (v:α) (E:ξ (Nat × α)):yC (k:Int) (a v) (dI a E)=dI a (BH k v E):=by
 have b:((dI a E).any λc=>decide (c.1=(k:Int)))=E.any λe=>decide (e.1=k):=by unfold dI;rw[qq];congr 1;funext e;show decide ((e.1:Int)=(k:Int))=decide (e.1=k);rw[Lc];omega
 unfold yC BH;rw[b];split
 .unfold dI;rw[N_,N_];refine Mo λe _=>?_;show (if (e.1:Int)=(k:Int) then ((e.1:Int),a v) else ((e.1:Int),a e.2))=_;show _=((((if e.1=k then (e.1,v) else e).1:Nat):Int),a (if e.1=k then (e.1,v) else e).2);by_cases h:e.1=k
  .rw[z3 h,z3 (by rw[h])]
  rw[zD h,zD zo]
 unfold dI;rw[B_];rfl
theorem jn:∀{E:ξ (Nat × α)},cU k E=ab v->(k,v)∈E
 | (k',v')::r,h=>by
  unfold cU at h
  by_cases e:k'=k
  ·
   rw[z3 e] at h;cases h;subst e;exact A_
  ·
   rw[zD e] at h;exact E_ _ (jn h)
theorem o5:∀{E:ξ (Nat × α)},cU k E=af->∀e∈E,e.1≠k
 | (k',v')::r,h,e,a=>by
  unfold cU at h
  by_cases z:k'=k
  ·
   rw[z3 z] at h;cases h
  ·
   rw[zD z] at h
   rcases v_.mp a with rfl | a
   ·
    exact z
   ·
    exact o5 h e a
theorem DX (k:Nat) (v:α) (E:ξ (Nat × α)):(BH k v E).map (·.1)=if k∈E.map (·.1) then E.map (·.1) else E.map (·.1)++[k]:=by
 have a:(E.any λe=>decide (e.1=k))=decide (k∈E.map (·.1)):=by rw[CC,LM,h_,t_];exact⟨λ⟨e,h,z⟩=>⟨e,h,MU z⟩,λ⟨e,h,z⟩=>⟨e,h,p_ z⟩⟩
 unfold BH;rw[a];by_cases h:k∈E.map (·.1)
 .rw[z3 h,z3 (p_ h),N_];refine Mo λe _=>?_;show (if e.1=k then (e.1,v) else e).1=e.1;split <;> rfl
 rw[zD h,zD (vG h),B_];rfl
theorem wI {e:Nat × α} (h:e∈BH k v E):e=(k,v)\/(e∈E/\e.1≠k)\/(e∈E/\k∉E.map (·.1)):=by
 unfold BH at h;split at h
 .obtain⟨x,a,rfl⟩:=t_.mp h;by_cases z:x.1=k
  .rw[z3 z,z];exact .inl rfl
  rw[zD z];exact .inr (.inl ⟨a,z⟩)
 rename_i b;rcases x_.mp h with h | h
 .refine .inr (.inr ⟨h,λz=>b ?_⟩);obtain⟨x,a,e⟩:=t_.mp z;exact LM.mpr ⟨x,a,p_ e⟩
 exact .inl (j_.mp h)
theorem Jo (k:Nat) (v:α) (E:ξ (Nat × α)):(k,v)∈BH k v E:=by
 unfold BH;split
 .rename_i h;obtain⟨x,a,e⟩:=LM.mp h;refine t_.mpr ⟨x,a,?_⟩;have:=MU e;rw[z3 this,this]
 exact J_ _ (j_.mpr rfl)
theorem Jp {e:Nat × α} (h:e∈E) (a:e.1≠k):e∈BH k v E:=by
 unfold BH;split
 .exact t_.mpr ⟨e,h,zD a⟩
 exact FU _ h
theorem Bo {E:ξ (Nat × α)} (h:(E.map (·.1)).Nodup):((BH k v E).map (·.1)).Nodup:=by
 rw[DX];split
 .exact h
 rename_i z;exact jR h z
theorem Bp:∀{E:ξ (Nat × α)},(E.map (·.1)).Nodup->(k,v)∈E->cU k E=ab v
 | (k',v')::r,nd,h=>by
  rw[I_,EZ] at nd
  unfold cU
  rcases v_.mp h with e | h
  ·
   cases e;rw[z3 rfl]
  ·
   rw[zD (λz=>nd.1 (by rw[z];exact t_.mpr ⟨_,h,rfl⟩))]
   exact Bp nd.2 h
end
abbrev Ev:=ξ (Nat × Int × ξ Nat)
noncomputable def UM (W:Wk) (i:Nat):Int:=cX W.tasks (pk W i)
noncomputable def stp (W:Wk) (d:Nat) (v:Int × ξ Nat) (B:Ev) (f:Nat):Ev:=match cU (d+f) B with
 |none=>BH (d+f) (v.1+UM W f^2,v.2++[f]) B
 |some u=>if v.1+UM W f^2<u.1 then BH (d+f) (v.1+UM W f^2,v.2++[f]) B else B
theorem CD.inv (r:CD W eG c d) (b:c.length=k+1):∃a d' f,c=a++[f]/\d=d'+f/\CD W eG a d'/\a.length=k/\f∈B6 W eG k d':=by
 cases r with
 |nil=>cases b
 |@snoc a d' f r g e =>
  have:a.length=k:=by rw[d_] at b;simp at b;exact b
  exact⟨a,d',f,rfl,rfl,r,this,by rw[<- this];exact e⟩
theorem CD.nil0 (r:CD W eG a d) (h:a=[]):d=0:=by
 cases r with
 |nil=>rfl
 |@snoc b d' f r c e=>exact AL h Ap
theorem tH (b:n7 W) (h:d<zv W) (c:f∈B6 W eG k d):d+f<zv W:=by
 obtain⟨a,F⟩:=IY.mp c;have e:d+f=cN (nm W) (pk W d++pk W f):=by rw[<- j4 _ _ _ λx g z=>F.apart g z.2 z.1,cW b h,cW b a]
 rw[e];exact tD _
theorem CB.frz {W:Wk}{eG:Int}{H:lq}{a q:ae}{o:O3}{E:ξ (Int × T)} (h:CB C W eG H a) (hq:H q=ab (.dci E)):CB C W eG (fY H q o) a:=by obtain⟨p,b,c⟩:=h.ex;exact⟨p,by rw[aF (P4 b hq Ap)];exact b,by rw[aF (P4 c hq Ap)];exact c⟩
def FE (a:ae) (H H':lq):Prop:=∀b u,b≠a->H b=ab u->H' b=ab u
theorem FE.new (k:FE a H H') (d:H' p=af):FE a H (fY H' p o):=λb u c h=>by rw[aF (bB (k b u c h) d)];exact k b u c h
theorem FE.put (k:FE a H H'):FE a H (fY H' a o):=λb u c h=>by rw[aF c];exact k b u c h
theorem FE.wlk (k:FE d H H') (b:H d=af) (h:CB C W eG H a):CB C W eG H' a:=by obtain⟨p,c,e⟩:=h.ex;exact⟨p,k _ _ (bB c b) c,k _ _ (bB e b) e⟩
def Bz (W:Wk) (eG:Int) (k d:Nat):ξ Nat:=(CI bJ (B6 W eG k d)).reverse
theorem jo (h:f∈Bz W eG k d):f∈B6 W eG k d:=tu _ _ (List.mem_reverse.mp h)
theorem N5 (h:f∈B6 W eG k d):∃g∈Bz W eG k d,bJ g f=ag:=by obtain⟨g,a,e⟩:=Bk DQ _ f h;exact⟨g,List.mem_reverse.mpr a,e⟩
theorem Jq (h:x∈bu W t) (a:t∈nm W):t∈bu W x:=by unfold bu at h |-;rw[L_,@h_ _ (ap _)] at h |-;exact⟨a,h.2.2,h.2.1⟩
theorem CD.grp (k:n7 W) (r:CD W eG h d) (b:t∈pk W d) (m:x∈bu W t):x∈pk W d:=by obtain⟨_,_,e,n,_⟩:=r.ok k;obtain⟨s,c,a⟩:=List.mem_flatten.mp ((e t).mp b);obtain⟨j,l⟩:=mw c;obtain⟨u,i,g⟩:=t_.mp (fU b);have f:=(n j s l).one u i (by rw[g];exact a);exact (e x).mpr (List.mem_flatten.mpr ⟨s,c,f.2.2.1 x (by rw[g];exact m)⟩)
theorem yR (d:∀t∈ts,0<=t.2.1) (h:∀x∈a,x∈S):cX ts a<=cX ts S:=by
 unfold cX;induction ts with
 |nil=>exact N9 _
 |cons t r f =>
  have i:=f λu e=>d u (E_ _ e)
  have g:=d t A_
  rw[KS,KS]
  by_cases b:t.1∈a
  ·
   rw[z3 (p_ b),z3 (p_ (h _ b)),I_,I_,GG,GG]
   omega
  ·
   rw[zD (vG b)]
   by_cases c:t.1∈S
   ·
    rw[z3 (p_ c),I_,GG];omega
   ·
    rw[zD (vG c)];exact i
theorem FS.more (i:n7 W) (f:FS W eG kind D S) (h:∀x∈D,x∈b) (g:∀t x,t∈b->x∈bu W t->x∈b):FS W eG kind b (S.filter λx=>decide (x∉b)) :=
 ⟨λt c d=>by
  rw[L_,h_] at d
  obtain⟨m,k,e,j,l⟩:=f.one t c d.1
  refine⟨d.2,k,λx a=>?_,λx a=>?_,λx a z=>l x a (L_.mp z).1⟩
  ·
   rw[L_,h_]
   exact⟨e x a,λz=>d.2 (g x t.1 z (Jq a (t_.mpr ⟨t,c,rfl⟩)))⟩
  ·
   by_cases z:x∈b
   ·
    exact .inr z
   ·
    exact .inl (L_.mpr ⟨(j x a).resolve_right λq=>z (h x q),p_ z⟩),
  Int.le_trans (yR (λt c=>by have:=(i.tk t c).lo;omega) λx a=>(L_.mp a).1) f.ld⟩
abbrev Wy:=ξ (Nat × ξ Nat)
noncomputable def jw (d:Nat) (v:ξ Nat) (B:Wy) (f:Nat):Wy:=match cU (d+f) B with
 |none=>BH (d+f) (v++[f]) B
 |some _=>B
def SZ (W:Wk) (eG:Int) (k:Nat) (E:Wy):Wy:=E.foldl (λB e=>(Bz W eG k e.1).foldl (jw e.1 e.2) B) []
noncomputable def BY (W:Wk) (eG:Int):Nat->Wy
 |0=>[(0,[])]
 |k+1=>SZ W eG k (BY W eG k)
structure OH (W:Wk) (eG:Int) (k:Nat) (E:Wy):Prop where
 nd:(E.map (·.1)).Nodup
 ok:∀e∈E,CD W eG e.2 e.1/\e.2.length=k
 al:∀fs d,CD W eG fs d->fs.length=k->∃e∈E,∀x∈pk W d,x∈pk W e.1
structure F6 (W:Wk) (eG:Int) (k:Nat) (sub:Nat->Nat->Prop) (B:Wy):Prop where
 nd:(B.map (·.1)).Nodup
 ok:∀e∈B,CD W eG e.2 e.1/\e.2.length=k+1
 al:∀d f,sub d f->∃e∈B,e.1=d+f
theorem F6.step {eG:Int}{k:Nat}{sub:Nat->Nat->Prop}{B:Wy}{d:Nat}{v:ξ Nat}{f:Nat} (h:F6 W eG k sub B) (l:CD W eG v d) (i:v.length=k) (n:k<W.row.length) (j:f∈B6 W eG k d):
  F6 W eG k (λd' c=>sub d' c\/(d'=d/\c=f)) (jw d v B f):=by
 have g:CD W eG (v++[f]) (d+f)/\(v++[f]).length=k+1 :=
  ⟨.snoc l zo (by rw[i];exact j),by rw[d_,i];rfl⟩
 unfold jw;cases e:cU (d+f) B with
 |none =>
  refine⟨Bo h.nd,λx a=>?_,λd' c b=>?_⟩
  .rcases wI a with rfl | ⟨a,_⟩ | ⟨a,_⟩
   .exact g
   .exact h.ok x a
   exact h.ok x a
  rcases b with b | ⟨rfl,rfl⟩
  .obtain⟨x,a,m⟩:=h.al d' c b;exact⟨x,Jp a (o5 e x a),m⟩
  exact⟨_,Jo _ _ _,rfl⟩
 |some u =>
 refine⟨h.nd,h.ok,λd' c b=>?_⟩;rcases b with b | ⟨rfl,rfl⟩
 .exact h.al d' c b
 exact⟨_,jn e,rfl⟩
theorem F6.inner (o:CD W eG v d) (p:v.length=k) (n:k<W.row.length):
  ∀{xs:ξ Nat},(∀f∈xs,f∈B6 W eG k d)->F6 W eG k sub B->F6 W eG k (λd' a=>sub d' a\/(d'=d/\a∈xs)) (xs.foldl (jw d v) B):=by
 intro xs;induction xs generalizing sub B with
 |nil=>intro _ h;exact⟨h.nd,h.ok,λd' a b=>h.al d' a (b.resolve_right λz=>nomatch z.2)⟩
 |cons f r m =>
 intro i h;have e:=m (λg l=>i g (E_ _ l)) (h.step o p n (i f A_));refine⟨e.nd,e.ok,λd' a b=>e.al d' a ?_⟩;rcases b with b | ⟨j,c⟩
 .exact .inl (.inl b)
 rcases v_.mp c with c | c
 .exact .inl (.inr ⟨j,c⟩)
 exact .inr ⟨j,c⟩
theorem F6.outer (c:k<W.row.length):∀{xs:Wy}{sub:Nat->Nat->Prop}{B:Wy},(∀e∈xs,CD W eG e.2 e.1/\e.2.length=k)->F6 W eG k sub B ->
  F6 W eG k (λd f=>sub d f\/((∃v,(d,v)∈xs)/\f∈Bz W eG k d)) (xs.foldl (λB e=>(Bz W eG k e.1).foldl (jw e.1 e.2) B) B)
 |[],_,_,_,h=>⟨h.nd,h.ok,λd f a=>h.al d f (a.resolve_right λz=>z.1.elim λ_ q=>nomatch q)⟩
 |e::r,sub,B,hx,h=>by
  obtain⟨l,j⟩:=hx e A_
  have q:=F6.outer c (xs:=r) (λx b=>hx x (E_ _ b)) (F6.inner (xs:=Bz W eG k e.1) l j c (λf i=>jo i) h)
  refine⟨q.nd,q.ok,λd f a=>q.al d f ?_⟩
  rcases a with a | ⟨⟨v,m⟩,g⟩
  ·
   exact .inl (.inl a)
  ·
   rcases v_.mp m with z | z
   ·
    rw[<- z] at *
    exact .inl (.inr ⟨rfl,g⟩)
   ·
    exact .inr ⟨⟨v,z⟩,g⟩
theorem yS (a:n7 W) (h:d<zv W) (c:f∈B6 W eG k d):x∈pk W (d+f)↔x∈pk W d\/x∈pk W f:=by
 obtain⟨b,F⟩:=IY.mp c;have e:d+f=cN (nm W) (pk W d++pk W f):=by rw[<- j4 _ _ _ λx g z=>F.apart g z.2 z.1,cW a h,cW a b]
 rw[e,oY a,x_];exact⟨λz=>z.2,λz=>⟨z.elim fU fU,z⟩⟩
theorem Jr (a:n7 W) (h:OH W eG k E) (J:k<W.row.length):OH W eG (k+1) (SZ W eG k E):=by
 have q:=F6.outer (W:=W) (eG:=eG) J (xs:=E) (sub:=λ_ _=>False) (B:=[]) h.ok ⟨LJ,λ_ z=>(nomatch z),λ_ _ z=>z.elim⟩;refine⟨q.nd,q.ok,λM d r L=>?_⟩;obtain⟨H,d',f,rfl,rfl,p,i,u⟩:=r.inv L;obtain⟨e,v,A⟩:=h.al H d' p i;have w:=(h.ok e v).1;have l:=(w.ok a).1;obtain⟨K,F⟩:=IY.mp u;have I:=F.more a A λt x C j=>w.grp a C j;have m:cN (nm W) ((pk W f).filter λx=>decide (x∉pk W e.1))∈B6 W eG k e.1:=IY.mpr ⟨tD _,I.congr (λx=>Iff.rfl) λx=>by rw[oY a];exact⟨λz=>⟨fU (L_.mp z).1,z⟩,λz=>z.2⟩⟩;obtain⟨g,o,s⟩:=N5 m;have b:=jo o;obtain⟨x,j,D⟩:=q.al e.1 g (.inr ⟨⟨e.2,v⟩,o⟩);have n:=(IY.mp b).1;refine⟨x,j,λy G=>?_⟩;rw[D,yS a l b];rcases (yS a (p.ok a).1 u).mp G with z | z
 .exact .inl (A y z)
 by_cases c:y∈pk W e.1
 .exact .inl c
 refine .inr ?_;rw[<- cW a n,wD] at s;exact s y (fU z) (L_.mpr ⟨z,p_ c⟩)
theorem SH (a:n7 W):∀{k:Nat},k<=W.row.length->OH W eG k (BY W eG k)
 |0,_=>⟨by simp [BY],λe c=>by rw[j_.mp c];exact⟨.nil,rfl⟩,λg d r f=>by
   refine⟨(0,[]),j_.mpr rfl,λx b=>?_⟩
   rw[r.nil0 (List.length_eq_zero_iff.mp f)] at b
   exact b⟩
 |k+1,h=>Jr a (SH a zo) zo
structure Kt (W:Wk) (n:Nat) (E:Wy):Prop where
 nd:(E.map (·.1)).Nodup
 lt:∀e∈E,e.1<zv W/\e.2.length<=n/\∀f∈e.2,f<zv W
theorem Kt.len (h:Kt W n E):E.length<=zv W:=by
 have:=jL (l:=E.map (·.1)) (m:=ay (zv W)) h.nd λx b=>by obtain⟨e,a,rfl⟩:=t_.mp b;exact Y_.mpr (h.lt e a).1
 rwa [g_,D_] at this
theorem Kt.stp (i:n7 W) (h:Kt W (n+1) B) (l:d<zv W) (j:v.length<=n) (c:∀f∈v,f<zv W) (e:f∈B6 W eG k d):Kt W (n+1) (jw d v B f):=by
 unfold jw;split
 .refine⟨Bo h.nd,λx b=>?_⟩;rcases wI b with rfl | ⟨b,_⟩ | ⟨b,_⟩
  .refine⟨tH i l e,by rw[d_];simp;exact j,λg a=>?_⟩;rcases x_.mp a with a | a
   .exact c g a
   rw[j_.mp a];exact (IY.mp e).1
  .exact h.lt x b
  exact h.lt x b
 exact h
theorem OH.wok (b:n7 W) (h:OH W eG k E):Kt W k E:=⟨h.nd,λe a=>by
 obtain⟨r,f⟩:=h.ok e a;obtain⟨c,_,_,_,d⟩:=r.ok b;exact⟨c,zo,d⟩⟩
theorem tK (b:n7 W) (d:m<=W.row.length):(cU (zv W - 1) (BY W eG m)).isSome=ag↔∃a,CD W eG a (zv W - 1)/\a.length=m:=by
 have T:=SH (eG:=eG) b d;constructor
 .intro h;obtain⟨v,e⟩:=Option.isSome_iff_exists.mp h;have:=T.ok _ (jn e);exact⟨v,this.1,this.2⟩
 rintro⟨a,r,g⟩;obtain⟨e,c,h⟩:=T.al a _ r g;have i:e.1=zv W - 1:=by rw[<- cW b ((T.ok e c).1.ok b).1];exact lE λx f=>h x (DW b x f)
 have:=Bp T.nd (show (e.1,e.2)∈BY W eG m from c);rw[i] at this;rw[this];rfl
noncomputable def A7 (v:ξ Nat):T:=.tup (v.map aW)
noncomputable def SW (e:Nat × ξ Nat):T:=.tup [.int (e.1:Int),A7 e.2]
theorem ZG (E:Wy):(dI A7 E).map QE=E.map SW:=by unfold dI;rw[N_];rfl
def Nn (W:Wk) (eG:Int) (k:Nat) (B:Wy) (e:Nat × ξ Nat):Wy:=(Bz W eG k e.1).foldl (jw e.1 e.2) B
def ZJ:AM:=λts H Q=>∃(a:ae) (b:ξ Nat),ts=[.ref a]/\H a=ab (.lst (b.map aW))/\b.length<=256/\∀p,H p=af->Q (.ref p) (fY H p (.lst ((CI bJ b).reverse.map aW)))
theorem j5 (a:b->b->Bool):∀xs:ξ b,(CI a xs).length<=xs.length
 |[]=>o_ _
 |n::B=>by
  have:=j5 a B
  unfold CI
  split
  ·
   rw[n_];omega
  ·
   rw[d_,n_];simp only[n_,EW];omega
def VL (C:ae):AM:=λts H Q=>∃(a:ae) (W:Wk) (eG:Int) (k d:Nat),ts=[.ref a,.int (k:Int),.int (d:Int)]/\n7 W/\CB C W eG H a/\k<W.row.length/\d<zv W/\∀p,H p=af->Q (.ref p) (fY H p (.lst ((Bz W eG k d).map aW)))
def ZK (C:ae):AM:=λts H Q=>∃(a q:ae) (W:Wk) (eG:Int) (k n:Nat) (E:Wy),ts=[.ref a,.int (k:Int),.ref q]/\n7 W/\CB C W eG H a/\k<W.row.length/\n<=8/\Kt W n E/\H q=ab (.dci (dI A7 E))/\∀o p,H p=af->Q (.ref p) (fY (fY H q (.dif o (dI A7 E))) p (.dci (dI A7 (SZ W eG k E))))
def Pi (W:Wk) (eG:Int) (m:Nat):T:=match cU (zv W - 1) (BY W eG m) with
 |none=>.non
 |some v=>.tup ((v.map (pk W)).map sT)
def VM:AM:=λts H Q=>∃(W:Wk) (eG:Int) (m:Nat),ts=[W.enc,.int eG,.int (m:Int)]/\n7 W/\m<=W.row.length/\Q (Pi W eG m) H
inductive IB where
 |left (n:Int) | less (o:Nat) | ways (os:List Nat)
noncomputable def AS (W:Wk) (m:Nat):T:=sT (pk W m)
noncomputable def EX (W:Wk):IB->T
 |.left n=>.tup [.str "left",.int n]
 |.less o=>.tup [.str "less",AS W o]
 |.ways os=>.tup [.str "ways",.tup (os.map (AS W))]
def P8 (W:Wk):IB->Prop
 |.left _=>True
 |.less o=>o<zv W
 |.ways os=>(∀o∈os,o<zv W)/\os.length<=256
abbrev BC:=Nat × Nat × IB
noncomputable def BM (c:BC):Nat × Nat:=(c.1,c.2.1)
noncomputable def AW (W:Wk) (c:BC):T:=.tup [.int (c.1:Int),AS W c.2.1,EX W c.2.2]
def FG (W:Wk) (c:BC):Prop:=c.2.1<zv W/\P8 W c.2.2
noncomputable def D4 (W:Wk) (m:Nat):Int:=cX W.tasks (pk W (zv W - 1 - m))
def DB (W:Wk) (eG:Int) (s m:Nat):ξ Nat:=(Bz W eG s m).map (m+·)
def PV (W:Wk) (eG:Int) (many:Nat) (ks:ξ (Nat × Nat)) (s m:Nat):IB->Bool
 |.left n=>decide (n=D4 W m)&&decide (eG*((many:Int) - s)<n)
 |.less o=>decide ((s,o)∈ks)&&(!decide (o=m)&&bJ o m)
 |.ways os=>decide (s<many)&&(decide (os=DB W eG s m)&&os.all λo=>decide ((s+1,o)∈ks))
def LD (W:Wk) (m:Nat):Prop:=∀t∈pk W m,∀x,x∈bu W t\/x∈dM W t->x∈pk W m
def XO (W:Wk) (m:Nat):Bool:=@decide (LD W m) (ap _)
noncomputable def C5 (a b:Nat × Nat):Bool:=if a.1=b.1 then decide (a.2<b.2) else decide (a.1<b.1)
noncomputable def NI (ks:ξ (Nat × Nat)):Bool:=(ks.zip (ks.drop 1)).all λq=>C5 q.1 q.2
def RA (W:Wk) (eG:Int) (many:Nat) (ks:ξ (Nat × Nat)) (c:BC):Bool:=decide (c.1<=many)&&(XO W c.2.1&&PV W eG many ks c.1 c.2.1 c.2.2)
def LN (W:Wk) (eG:Int) (many:Nat) (a:ξ BC):Bool:=decide ((0,0)∈a.map BM)&&(NI (a.map BM)&&a.all (RA W eG many (a.map BM)))
def wJ (W:Wk) (eG:Int) (many:Nat):Prop:=∃a,CD W eG a (zv W - 1)/\a.length=many
theorem Bq (c:n7 W) (e:a<zv W) (d:b<zv W) (h:pk W a=pk W b):a=b:=by rw[<- cW c e,<- cW c d,h]
theorem tL:XO W m=ag↔LD W m:=@h_ _ (ap _)
theorem N6 (W:Wk):LD W 0:=λt a=>by rw[jm] at a;cases a
theorem VN (i:n7 W) (l:d<zv W) (h:LD W d) (c:f∈B6 W eG k d):LD W (d+f):=λt a x b=>by
 obtain⟨j,F⟩:=IY.mp c;rw[yS i l c] at a |-;rcases a with a | a
 .exact .inl (h t a x b)
 obtain⟨u,g,e⟩:=t_.mp (fU a);have o:=F.one u g (by rw[e];exact a);rw[e] at o;rcases b with b | b
 .exact .inr (o.2.2.1 x b)
 exact (o.2.2.2.1 x b).symm
theorem VP (a:n7 W) (b:m<zv W):x∈pk W (zv W - 1 - m)↔x∈nm W/\x∉pk W m:=by
 have e:zv W - 1 - m=cN (nm W) ((nm W).filter λx=>decide (x∉pk W m)):=by
  have:=gJ (nm W) (pk W m) ((nm W).filter λx=>decide (x∉pk W m)) λx c=>by rw[L_,h_];exact⟨λz=>z.2,λz=>⟨c,z⟩⟩
  rw[cW a b,d8] at this;unfold zv;omega
 rw[e,oY a,L_,h_];exact⟨λz=>z.2,λz=>⟨z.1,z⟩⟩
theorem VR (f:n7 W) (g:m<zv W) (h:m≠zv W - 1):0<D4 W m:=by
 have:∃x∈nm W,x∉pk W m:=PM λz=>h (by
  rw[<- cW f g]
  exact lE λx e=>PM λq=>z ⟨x,e,q⟩)
 obtain⟨x,e,i⟩:=this;obtain⟨t,n,rfl⟩:=t_.mp e;unfold D4 cX;have d:t.2.1∈(W.tasks.filter λt=>decide (t.1∈pk W (zv W - 1 - m))).map (·.2.1):=t_.mpr ⟨t,L_.mpr ⟨n,p_ ((VP f g).mpr ⟨e,i⟩)⟩,rfl⟩;have c:∀z∈(W.tasks.filter λt=>decide (t.1∈pk W (zv W - 1 - m))).map (·.2.1),0<z:=λz b=>by obtain⟨u,j,rfl⟩:=t_.mp b;have:=(f.tk u (L_.mp j).1).lo;omega
 generalize (W.tasks.filter λt=>decide (t.1∈pk W (zv W - 1 - m))).map (·.2.1)=l at *;have o:∀l:List Int,(∀z∈l,0<z)->0<=l.sum:=λl=>by
  induction l with
  |nil=>exact λ_=>N9 0
  |cons a r k =>
  intro p;have:=k λz b=>p z (.tail _ b);have:=p a (.head _);rw[GG];omega
 cases l with
 |nil=>cases d
 |cons a r =>
  have:=o r λz b=>c z (.tail _ b)
  have:=c a (.head _)
  rw[GG]
  omega
theorem N7 (k a:NK) (v:T) (l:ξ (NK × T)):(bU k (qX a v l)).isSome=(decide (a=k)||(bU k l).isSome):=by
 have g:∀l:ξ (NK × T),(bU k (l++[(a,v)])).isSome=(decide (a=k)||(bU k l).isSome):=λl=>by
  induction l with
  |nil=>show (if a=k then ab v else af).isSome=_;split <;> simp [*,bU]
  |cons x r d =>
  obtain⟨b,c⟩:=x;show (if b=k then ab c else bU k (r++[(a,v)])).isSome=(decide (a=k)||(if b=k then ab c else bU k r).isSome);split
  .simp
  exact d
 have f:∀l:ξ (NK × T),(bU k (l.map λx=>if x.1=a then (x.1,v) else x)).isSome=(bU k l).isSome:=λl=>by
  induction l with
  |nil=>rfl
  |cons x r d =>
  obtain⟨b,c⟩:=x;rw[I_];by_cases h:b=a
  .rw[z3 h];show (if b=k then ab v else bU k (r.map _)).isSome=(if b=k then ab c else bU k r).isSome;split
   .rfl
   exact d
  rw[zD h];show (if b=k then ab c else bU k (r.map _)).isSome=(if b=k then ab c else bU k r).isSome;split
  .rfl
  exact d
 unfold qX;by_cases h:(bU a l).isSome=ag
 .rw[z3 h,f];by_cases e:a=k
  .rw[<- e,h,Bool.or_true]
  rw[q_ e,ON]
 rw[zD h];exact g l
theorem Js (k:NK):∀(ps l:ξ (NK × T)),(bU k (KI l ps)).isSome=(decide (k∈ps.map (·.1))||(bU k l).isSome)
 |[],l=>by simp [KI]
 |p::r,l=>by
  show (bU k (KI (qX p.1 p.2 l) r)).isSome=_
  rw[Js k r,N7,I_,<- Bool.or_assoc]
  congr 1
  rw[CC]
  simp only[PH,h_,v_]
  exact⟨λh=>h.elim .inr λh=>.inl h.symm,λh=>h.elim (λh=>.inr h.symm) .inl⟩
def OT (W:Wk) (ks:ξ (Nat × Nat)) (kvs:ξ (NK × T)):Prop:=∀s o:Nat,o<zv W->(bU ((s:Int),pk W o) kvs).isSome=decide ((s,o)∈ks)
theorem OT.of (i:n7 W) {f:ξ BC} (h:∀c∈f,FG W c):OT W (f.map BM) (KI [] (f.map λc=>(((c.1:Int),pk W c.2.1),T.bl ag))):=λs o g=>by
 rw[Js];show (decide _||false)=_;rw[og];refine Lc.mpr ⟨λz=>?_,λz=>?_⟩
 .rw[N_] at z;obtain⟨c,a,e⟩:=t_.mp z;obtain⟨d,b⟩:=i8 e;exact t_.mpr ⟨c,a,fw (OI.mp d) (Bq i (h c a).1 g b)⟩
 obtain⟨c,a,e⟩:=t_.mp z;obtain⟨d,b⟩:=i8 e;rw[N_];exact t_.mpr ⟨c,a,by rw[<- d,<- b];rfl⟩
theorem yU (a:n7 W) (d:m<zv W):∀o∈DB W eG s m,o<zv W:=λo b=>by
 obtain⟨g,c,rfl⟩:=t_.mp b;exact tH a d (jo c)
theorem mZ (a:n7 W):(Bz W eG s m).length<=256:=by have b:=j5 bJ (B6 W eG s m);have c:(B6 W eG s m).length<=256:=S_ (E6 _ _) (by rw[D_];exact gU a);unfold Bz;rw[IG];omega
def V0 (C:ae):AM:=λts H Q=>∃(a:ae) (W:Wk) (eG:Int) (m:Nat),ts=[.ref a,AS W m]/\n7 W/\CB C W eG H a/\m<zv W/\Q (.int (D4 W m)) H
def V1 (C:ae):AM:=λts H Q=>∃(a:ae) (W:Wk) (eG:Int) (s m:Nat),ts=[.ref a,.int (s:Int),AS W m]/\n7 W/\CB C W eG H a/\m<zv W/\s<W.row.length/\Q (.tup ((DB W eG s m).map (AS W))) H
def NL:IB->Prop
 |.less _=>False
 |_=>True
def Q5 (C:ae):AM:=λts H Q=>∃(a:ae) (W:Wk) (eG:Int) (m:Nat),ts=[.ref a,AS W m]/\n7 W/\CB C W eG H a/\m<zv W/\LD W m/\Q (.bl ag) H
def ZL (C:ae):AM:=λts H Q=>∃(a:ae) (W:Wk) (eG left:Int) (m:Nat),ts=[.ref a,.int left,AS W m,.int (D4 W m)]/\n7 W/\CB C W eG H a/\m<zv W/\0<=left/\left<=8/\eG*left<D4 W m/\Q (.bl ag) H
def ZM:AM:=λ_ _ _=>False
def ZP (w:bg) (C:ae):AM:=λts H Q=>∃(a c:ae) (W:Wk) (eG:Int) (kvs:ξ (NK × T)) (ks:ξ (Nat × Nat)) (s m:Nat),ts=[.ref a,.ref c,.int (s:Int),AS W m,.tup ((DB W eG s m).map (AS W))]/\n7 W/\CB C W eG H a/\H c=ab (.dcn w kvs)/\OT W ks kvs/\m<zv W/\s<W.row.length/\(∀o∈DB W eG s m,(s+1,o)∈ks)/\Q (.bl ag) H
def ZQ (w:bg) (C:ae):AM:=λts H Q=>∃(a c:ae) (W:Wk) (eG:Int) (many:Nat) (kvs:ξ (NK × T)) (ks:ξ (Nat × Nat)) (s m:Nat) (r:IB),ts=[.ref a,.int (many:Int),.ref c,.int (s:Int),AS W m,EX W r]/\n7 W/\CB C W eG H a/\many<=W.row.length/\s<=many/\H c=ab (.dcn w kvs)/\OT W ks kvs/\m<zv W/\NL r/\PV W eG many ks s m r=ag/\Q (.bl ag) H
noncomputable def AZ (c:BC):T:=.tup [.int (c.1:Int),.int (c.2.1:Int)]
def Q6:AM:=λts H Q=>∃(W:Wk) (a:ξ BC),ts=[W.enc,.tup (a.map (AW W))]/\n7 W/\(∀c∈a,FG W c)/\a.length<=4096/\Q (.bl (NI (a.map BM))) H
def ZR:AM:=λts H Q=>∃(W:Wk) (eG:Int) (many:Nat) (a:ξ BC),ts=[W.enc,.int eG,.int (many:Int),.tup (a.map (AW W))]/\n7 W/\many<=W.row.length/\(∀c∈a,FG W c/\NL c.2.2)/\a.length<=4096/\LN W eG many a=ag/\Q (.bl ag) H
theorem N8 (d:ξ BC):fB (d.map AZ) (eU (d.map AZ) (ab 1) af)=(d.zip (d.drop 1)).map (λq=>.tup [AZ q.1,AZ q.2]):=by
 have:eU (d.map AZ) (ab 1) af=(d.drop 1).map AZ:=by
  unfold eU;rw[kf];cases d with
  |nil=>rfl
  |cons c r =>
   have h:HT.sIx ((c::r).map AZ).length 0 (ab 1)=1:=by unfold HT.sIx;simp
   have f:HT.sIx ((c::r).map AZ).length ((c::r).map AZ).length af=((c::r).map AZ).length:=rfl
   rw[h,f,NY (by rw[ND];omega)]
 rw[this];have g:∀a b:ξ BC,fB (a.map AZ) (b.map AZ)=(a.zip b).map (λq=>.tup [AZ q.1,AZ q.2]):=λa b=>by
  induction a generalizing b with
  |nil=>cases b <;> rfl
  |cons x r e =>
  cases b with
  |nil=>rfl
  |cons y q=>simp only[I_,On];unfold fB;rw[e]
 exact g _ _
theorem V2 (a:ξ BC):NI (a.map BM)=(a.zip (a.drop 1)).all λq=>C5 (BM q.1) (BM q.2):=by unfold NI;rw[<- kf,List.zip_map,qs];rfl
def C8 (W:Wk) (eG:Int) (many s m:Nat):IB:=if eG*((many:Int) - (s:Int))<D4 W m then .left (D4 W m) else .ways (DB W eG s m)
def ZS (C:ae):AM:=λts H Q=>∃(a:ae) (W:Wk) (eG:Int) (many s m:Nat),ts=[.ref a,.int (many:Int),.int (s:Int),AS W m]/\n7 W/\CB C W eG H a/\m<zv W/\s<=many/\many<=64/\(D4 W m<=eG*((many:Int) - (s:Int))->s<W.row.length)/\Q (EX W (C8 W eG many s m)) H
noncomputable def C3 (W:Wk) (m:Nat):ξ AG:=(pk W m).map bv
theorem Jt:LF (C3 W m)=AS W m:=by show zk _=zk _;rw[show (C3 W m).map Sm=(pk W m).map zi by unfold C3;rw[N_];rfl]
noncomputable def UF (W : Wk) (k : ξ AG) : Int:=(cN (nm W) (k.filterMap λz => match z with | .inr x => ab x | .inl _ => af) : Nat)
theorem yV (a:n7 W) (h:m<zv W):UF W (C3 W m)=(m:Int):=by unfold UF C3;rw [Sk,show ((λz : AG => match z with | .inr x => ab x | .inl _ => af) ∘ bv) = (ab : aw -> ζ aw) from rfl,nI,cW a h]
theorem DY (h:σ[i]?=ab (ab t)) (k:Ds P b a c cap σ Q t H):Bb P b a (nQ i) c cap σ H Q:=by unfold Bb nQ;rw[h];exact k
noncomputable def o6:gE:=⟨181,31,181,71⟩
noncomputable def mD:aw:="cases_of.<locals>.<lambda>"
def ZV (C Pt:ae) (c:gE) (f:aw):AM:=λts H Q=>∃(a d:ae) (W:Wk) (eG:Int) (many s:Nat) (g:bb) (e:bg) (kvs:ξ (ξ AG × T)) (b:ξ Nat),ts=[.ref a,.int (many:Int),.int (s:Int),.ref d]/\n7 W/\CB C W eG H a/\H d=ab (.dtk g e kvs)/\H Pt=ab (.tab c f)/\kvs.map (·.1)=b.map (C3 W)/\b.Nodup/\b.length<64/\s<=many/\many<=64 /\
 (∀m∈b,m<zv W/\(D4 W m<=eG*((many:Int) - (s:Int))->s<W.row.length))/\∀l:ξ Nat,l.Perm b->l.Pairwise (·<=·)->∀p,H p=af->Q (.ref p) (fY H p (.lst (l.map λm=>AW W (s,m,C8 W eG many s m))))
noncomputable def NU:IB->ξ Nat
 |.ways os=>os
 |_=>[]
noncomputable def CO (W:Wk) (eG:Int) (many:Nat):Nat->ξ Nat
 |0=>[0]
 |s+1=>(ay (zv W)).filter λo=>decide (o∈(CO W eG many s).flatMap λm=>NU (C8 W eG many s m))
def C4 (W:Wk) (eG:Int) (many s:Nat):ξ BC:=(CO W eG many s).map λm=>(s,m,C8 W eG many s m)
def Fh (W:Wk) (eG:Int) (many n:Nat):ξ BC:=(ay n).flatMap (C4 W eG many)
theorem Ju (h:o∈NU (C8 W eG many s m)):∃g∈B6 W eG s m,o=m+g:=by
 unfold C8 at h;split at h
 .cases h
 obtain⟨g,a,rfl⟩:=t_.mp h;exact⟨g,jo a,rfl⟩
theorem yW (a:n7 W) (b:m<zv W):P8 W (C8 W eG many s m):=by
 unfold C8;split
 .trivial
 exact⟨yU a b,by unfold DB;rw[g_];exact mZ a⟩
theorem QO:o∈CO W eG many (s+1)↔o<zv W/\o∈(CO W eG many s).flatMap λm=>NU (C8 W eG many s m):=by show o∈(ay (zv W)).filter _↔_;rw[L_,h_,Y_]
theorem Sn:∀{s:Nat},(CO W eG many s).Pairwise (·<·)
 |0=>List.pairwise_singleton _ _
 |_+1=>List.pairwise_lt_range.filter _
theorem iQ (b:n7 W):∀{s:Nat},∀m∈CO W eG many s,m<zv W/\LD W m
 |0,m,a=>by rw[j_.mp a];exact⟨dj W,N6 W⟩
 |s+1,o,ho=>by
  obtain⟨i,e⟩:=QO.mp ho
  obtain⟨m,a,c⟩:=F8.mp e
  obtain⟨h,f⟩:=iQ b m a
  obtain⟨g,d,rfl⟩:=Ju c
  exact⟨i,VN b h f d⟩
theorem Br (f:n7 W) (i:many<=W.row.length):∀{s:Nat},s<=many->∀m∈CO W eG many s,∃a,CD W eG a m/\a.length=s
 |0,_,m,h=>by rw[j_.mp h];exact⟨[],.nil,rfl⟩
 |s+1,hs,o,ho=>by
  obtain⟨m,b,d⟩:=F8.mp (QO.mp ho).2
  obtain⟨a,r,c⟩:=Br f i (s:=s) zo m b
  obtain⟨g,e,rfl⟩:=Ju d
  exact⟨a++[g],.snoc r zo (by rw[c];exact e),by rw[d_,c];rfl⟩
theorem Bt (c:0<=eG) (r:CD W eG a m):∀n:Nat,a.length+n<=W.row.length->∃b,CD W eG b m/\b.length=a.length+n
 |0,_=>⟨a,r,rfl⟩
 |n+1,h=>by
  obtain⟨b,q,e⟩:=Bt c r n zo
  refine⟨b++[0],.snoc q zo (IY.mpr ⟨dj W,?_,?_⟩),by rw[d_,e];rfl⟩
  ·
   intro t _ h
   rw[jm] at h
   cases h
  ·
   rw[jm]
   have d:cX W.tasks []=0:=by unfold cX;rw[LP.mpr λt _=>by simp];rfl
   rw[d]
   exact c
theorem Jv (a:n7 W) (d:many<=W.row.length) (c:0<=eG) (f:¬wJ W eG many) (b:s<=many) (h:m∈CO W eG many s):m≠zv W - 1:=λe=>f (by
 obtain⟨i,r,j⟩:=Br a d b m h
 obtain⟨g,q,hq⟩:=Bt c r (many - s) zo
 exact⟨g,e▸q,zo⟩)
theorem Oa (a:n7 W) (e:many<=W.row.length) (d:0<=eG) (f:¬wJ W eG many) (g:zv W<=64) (c:s<=many):(CO W eG many s).length<64:=by
 have:=jL (l:=CO W eG many s) (m:=ay (zv W - 1)) (Sn.imp λh=>H_ h) λx b=>Y_.mpr (by
  have j:=(iQ a x b).1
  have i:=Jv a e d f c b
  omega)
 rw[D_] at this;have:=dj W;omega
theorem Jw (a:n7 W) (e:many<=W.row.length) (c:0<=eG) (d:¬wJ W eG many) (b:s<=many) (h:m∈CO W eG many s) (f:D4 W m<=eG*((many:Int) - s)):s<many:=by
 rcases Nat.lt_or_eq_of_le b with z | z
 .exact z
 subst z;have:=VR a (iQ a m h).1 (Jv a e c d b h);rw[Int.sub_self,qB] at f;omega
theorem Ob (a:n7 W):(CO W eG many s).length<=256:=by have:=jL (l:=CO W eG many s) (m:=ay (zv W)) (Sn.imp λh=>H_ h) λx b=>Y_.mpr (iQ a x b).1;rw[D_] at this;exact S_ this (gU a)
theorem ZW (a:n7 W):∀c∈Fh W eG many n,FG W c:=λc d=>by
 obtain⟨s,e,h⟩:=F8.mp d;obtain⟨m,b,rfl⟩:=t_.mp h;have:=(iQ a m b).1;exact⟨this,yW a this⟩
theorem tM:Fh W eG many (n+1)=Fh W eG many n++C4 W eG many n:=by unfold Fh;rw[sN,NS,SG]
theorem tO (a:n7 W):∀n:Nat,(Fh W eG many n).length<=n*256
 |0=>o_ _
 |n+1=>by
  rw[tM,d_]
  have b:(Fh W eG many n).length<=n*256:=tO a n
  have c:(C4 W eG many n).length<=256:=by unfold C4;rw[g_];exact Ob a
  omega
theorem TU:(s,m)∈(Fh W eG many n).map BM↔s<n/\m∈CO W eG many s:=by
 constructor
 .intro h;obtain⟨c,a,e⟩:=t_.mp h;obtain⟨s',d,a⟩:=F8.mp a;obtain⟨i,f,rfl⟩:=t_.mp a;obtain⟨rfl,rfl⟩:=i8 e;exact⟨Y_.mp d,f⟩
 rintro⟨g,b⟩;exact t_.mpr ⟨(s,m,C8 W eG many s m),F8.mpr ⟨s,Y_.mpr g,t_.mpr ⟨m,b,rfl⟩⟩,rfl⟩
theorem Q7:∀{ks:ξ (Nat × Nat)},ks.Pairwise (λa b=>C5 a b=ag)->NI ks=ag
 |[],_=>rfl
 |[_],_=>rfl
 |a::b::r,h=>by
  rw[List.pairwise_cons] at h
  show (C5 a b&&NI (b::r))=ag
  rw[h.1 b (.head _),Q7 h.2]
  rfl
theorem Jx:∀n:Nat,((Fh W eG many n).map BM).Pairwise (λa b=>C5 a b=ag)
 |0=>jp
 |n+1=>by
  rw[tM,B_,mv]
  refine⟨Jx n,?_,λa g b e=>?_⟩
  ·
   unfold C4
   rw[N_,NF]
   refine Sn.imp λ{a b} h=>?_
   show C5 (n,a) (n,b)=ag
   unfold C5
   rw[z3 rfl]
   exact p_ h
  ·
   have c:=(TU.mp g).1
   obtain⟨d,f,rfl⟩:=t_.mp e
   obtain⟨m,i,rfl⟩:=t_.mp f
   show C5 a (n,m)=ag
   unfold C5
   rw[zD (H_ c)]
   exact p_ c
theorem Jy (b:n7 W) (i:many<=W.row.length) (g:0<=eG) (j:¬wJ W eG many):LN W eG many (Fh W eG many (many+1))=ag:=by
 unfold LN;rw[F_,F_,h_,V_];refine⟨TU.mpr ⟨Nat.succ_pos _,j_.mpr rfl⟩,Q7 (Jx _),λc n=>?_⟩;obtain⟨s,a,h⟩:=F8.mp n;obtain⟨m,d,rfl⟩:=t_.mp h;have a:=qh (Y_.mp a);obtain⟨l,k⟩:=iQ b m d;unfold RA;rw[F_,F_,h_,tL];refine⟨a,k,?_⟩;simp only;unfold C8;split
 .rename_i h;unfold PV;rw[F_,h_,h_];exact⟨rfl,h⟩
 rename_i h;have e:=Jw b i g j a d (Int.not_lt.mp h);unfold PV;rw[F_,F_,h_,h_,V_];refine⟨e,rfl,λo f=>p_ (TU.mpr ⟨zo,QO.mpr ⟨yU b l o f,F8.mpr ⟨m,d,?_⟩⟩⟩)⟩;unfold C8;rw[zD h];exact f
noncomputable def Db (os E:ξ Nat):ξ Nat:=os.foldl (λE o=>if o∈E then E else E++[o]) E
theorem o7:∀{os E:ξ Nat},E.Nodup->(Db os E).Nodup/\∀k,k∈Db os E↔k∈os\/k∈E
 |[],E,h=>⟨h,λk=>by simp [Db]⟩
 |o::r,E,h=>by
  have e:(if o∈E then E else E++[o]).Nodup:=by
   split
   ·
    exact h
   ·
    rename_i c
    exact List.nodup_append.mpr ⟨h,Ap,λa i b f=>by rw[j_.mp f];exact λz=>c (z▸i)⟩
  obtain⟨g,d⟩:=o7 (os:=r) e
  refine⟨g,λk=>(d k).trans ?_⟩
  rw[v_]
  split
  ·
   rename_i c
   exact⟨λz=>z.elim (λz=>.inl (.inr z)) .inr,λz=>z.elim (λz=>z.elim (λz=>.inr (z▸c)) .inl) .inr⟩
  ·
   rw[x_,j_]
   exact⟨λz=>z.elim (λz=>.inl (.inr z)) (λz=>z.elim .inr λz=>.inl (.inl z)),λz=>z.elim (λz=>z.elim (λz=>.inr (.inr z)) .inl) λz=>.inr (.inl z)⟩
theorem Bu (a b E:ξ Nat):Db (a++b) E=Db b (Db a E):=PR
theorem q9:(dD k kvs).isSome=ag↔k∈kvs.map (·.1):=by
 induction kvs with
 |nil=>simp [dD]
 |cons x r a =>
 obtain⟨b,d⟩:=x;rw[I_,v_];unfold dD;by_cases c:b=k
 .rw[z3 c];exact⟨λ_=>.inl c.symm,λ_=>rfl⟩
 rw[zD c,a];exact⟨.inr,λz=>z.resolve_left λq=>c q.symm⟩
theorem wK:(k∈kvs.map (·.1)->(jY k v kvs).map (·.1)=kvs.map (·.1))/\(k∉kvs.map (·.1)->(jY k v kvs).map (·.1)=kvs.map (·.1)++[k]):=by
 have e:(dD k kvs).isSome=ag↔k∈kvs.map (·.1):=q9;unfold jY;refine⟨λc=>?_,λc=>?_⟩
 .rw[z3 (e.mpr c),N_];exact Mo λx _=>by show (if x.1=k then (x.1,v) else x).1=x.1;split <;> rfl
 rw[zD (λz=>c (e.mp z)),B_];rfl
theorem V3 (g:n7 W) (f:o<zv W) {a:ξ Nat} (b:∀m∈a,m<zv W) {kvs:ξ (TK × T)} (h:kvs.map (·.1)=a.map (C3 W)):(jY ((pk W o).map bv) v kvs).map (·.1)=(if o∈a then a else a++[o]).map (C3 W):=by
 have e:(C3 W o∈a.map (C3 W))↔o∈a:=⟨λz=>by
  obtain⟨m,d,q⟩:=t_.mp z
  have:=(List.map_inj_right λ_ _ h=>NW h).mp q
  rw[<- Bq g (b m d) f this];exact d,λz=>t_.mpr ⟨o,z,rfl⟩⟩
 have q:=wK (k:=C3 W o) (v:=v) (kvs:=kvs);rw[h] at q;by_cases c:o∈a
 .rw[z3 c];exact q.1 (e.mpr c)
 rw[zD c,B_];exact q.2 λz=>c (e.mp z)
theorem Oc (i:c.Nodup) (h:∀o,o∈c↔o∈CO W eG many s) (d:l.Perm c) (e:l.Pairwise (·<=·)):l=CO W eG many s:=by have u:(CO W eG many s).Pairwise (·<·):=Sn;have p:l.Perm (CO W eG many s):=(List.perm_ext_iff_of_nodup (d.nodup_iff.mpr i) (u.imp λh=>H_ h)).mpr λo=>(d.mem_iff).trans (h o);exact p.eq_of_pairwise (λa b _ _ g f=>Nat.le_antisymm g f) e (u.imp λh=>D0 h)
noncomputable def FX (a:ξ BC):ξ Nat:=a.flatMap λc=>NU c.2.2
theorem V4 (b:n7 W):o∈Db (FX (C4 W eG many s)) []↔o∈CO W eG many (s+1):=by
 rw[(o7 LJ).2,QO];have e:FX (C4 W eG many s)=(CO W eG many s).flatMap λm=>NU (C8 W eG many s m):=by unfold FX C4;rw[List.flatMap_map]
 rw[e];refine⟨λz=>?_,λz=>.inl z.2⟩;have z:=z.resolve_right Ap;refine⟨?_,z⟩;obtain⟨m,c,a⟩:=F8.mp z;have d:=yW (eG:=eG) (many:=many) (s:=s) b (iQ b m c).1;generalize C8 W eG many s m=r at *;cases r with
 |ways os=>exact d.1 o a
 |left=>cases a
 |less=>cases a
def Q8 (P:bb) (w:bg):AM:=λts H Q=>∃(a:ae) (W:Wk) (b:ξ BC),ts=[.ref a]/\n7 W/\H a=ab (.lst (b.map (AW W)))/\b.length<=256/\(∀c∈b,FG W c)/\∀(H':lq) (p:ae) (kvs:ξ (TK × T)),eH H H'->H' p=ab (.dtk P w kvs)->kvs.map (·.1)=(Db (FX b) []).map (C3 W)->Q (.ref p) H'
def O0 (W:Wk) (eG:Int) (many:Nat):T:=match cU (zv W - 1) (BY W eG many) with
 |some _=>.non
 |none=>.tup ((Fh W eG many (many+1)).map (AW W))
def Q9 (Pt:ae) (b:gE) (a:aw):AM:=λts H Q=>∃(W:Wk) (eG:Int) (many:Nat),ts=[W.enc,.int eG,.int (many:Int)]/\n7 W/\zv W<=64/\0<=eG/\many<=W.row.length/\H Pt=ab (.tab b a)/\Q (O0 W eG many) H
theorem Od:AX X (ca .Add) (λx y H Q=>∃l b xs d,x=.ref l/\y=.ref b/\BN X.K H l xs/\H b=ab (.lst d)/\xs.length+d.length<=am/\∀p,H p=af->Q (.ref p) (As H p (.lst (xs++d)))):=by
 intro pins s σ H x y v u Q I z t h;obtain⟨l,b,xs,d,rfl,rfl,G,o,L,q⟩:=h;cases z;cases t;obtain⟨c,r,⟨⟨m,J,j,D⟩,n,e,k,i,g⟩,N⟩:=I.list G;obtain⟨M,a,A,B,w,f⟩:=I.lstM o;simp only at k i g;subst k i g;have E:=r.length;refine kG ⟨_,e,rfl⟩ ⟨_,f,rfl⟩ noFill_list_add seq_list_add PySem.F.slot_list_add PySem.F.entry_list_add (PySem.F.args_list_add_2 _ _) (list_addW l b c.toArray a.toArray n A af af D #[] (by rw[m_,m_];omega)) ⟨e,f,?_⟩;have C:c.toArray++a.toArray=(c++a).toArray:=Ap
 rw[C];exact⟨.ref _,_,I.lnew (t':=s.toks) (r.append B) (by rw[d_];omega),rfl,q _ I.fresh⟩
def V5 (o u:ζ O3) (H:lq) (Q:AC):Prop:=match o,u with
 |some (.rol xs),ab (.lst ys)=>xs.length+ys.length<=am/\∀p,H p=af->Q (.ref p) (fY H p (.lst (xs++ys)))
 |_,_=>False
def Jz:R3:=λx y H Q=>match x,y with
 |.ref a,.ref b=>V5 (H a) (H b) H Q
 |_,_=>False
theorem V6 (a b:ae):Jz (.ref a) (.ref b) H Q=V5 (H a) (H b) H Q:=rfl
theorem JB (xs a:ξ T):V5 (ab (.rol xs)) (ab (.lst a)) H Q=(xs.length+a.length<=am/\∀p,H p=af->Q (.ref p) (fY H p (.lst (xs++a)))):=rfl
theorem Bv:dU X (ca .Add) Jz:=by
 refine AX.imp Od ?_;rintro x y H Q ⟨j,r,H3,Q3,o,n,c,h,k⟩;cases j with
 |ref a =>
  cases r with
  |ref b =>
   have h':(match H3 a,H3 b with
    |some (.rol xs),ab (.lst d)=>xs.length+d.length<=am/\∀p,H3 p=af->Q3 (.ref p) (fY H3 p (.lst (xs++d)))
    |_,_=>False):=h
   split at h'
   ·
    rename_i xs d q l
    obtain⟨vs,m,g⟩:=c.sqL (.inr q)
    obtain⟨ws,i,f⟩:=c b _ l
    refine⟨a,b,vs,ws,o.ref,n.ref,m,i,by rw[<- g.length,<- f.length];exact h'.1,λp e=>?_⟩
    exact k _ _ _ _ (aO e) (c.newLst e (g.append f)) .ofRef (h'.2 p (c.fresh e))
   ·
    exact h'.elim
  |_=>exact h.elim
 |_=>exact h.elim
def SB (o:ζ O3) (a:ae) (H:lq) (Q:AC):Prop:=match o with
 |some (.lst xs)=>Q .non (fY H a (.lst xs.reverse))
 |_=>False
def Rg:T->ξ T->lq->AC->Prop:=λx ts H Q=>match x,ts with
 |.ref a,[]=>SB (H a) a H Q
 |_,_=>False
theorem ZX (a:ae):Rg (.ref a) [] H Q=SB (H a) a H Q:=rfl
theorem ZZ (xs:ξ T) (a:ae):SB (ab (.lst xs)) a H Q=Q .non (fY H a (.lst xs.reverse)):=rfl
theorem JC:xW X "list.reverse" Rg:=by
 refine HL.imp xR ?_;rintro x xs H Q ⟨i,ts,H3,Q3,d,b,f,h,k⟩
 match i,ts,h,d,b with
 |.ref a,[],h,d,b =>
  have h':SB (H3 a) a H3 Q3:=h
  cases e:H3 a with
  |none=>rw[e] at h';exact h'.elim
  |some o =>
   rw[e] at h'
   cases o with
   |lst j =>
    obtain⟨g,c,r⟩:=f a _ e
    exact⟨a,g,d.ref,b.inv0,c,k _ _ _ _ (bW (by rw[c];exact trivial)) (f.wrL c r.reverse) .ofNon h'⟩
   |_=>exact h'.elim
theorem V7 (ts:ξ T) (i:Int):RF (ab (.rol ts)) i H Q=oq (AR ts i) λt=>Q t H:=rfl
theorem V8 (xs:ξ T):T0 (ab (.rol xs)) H Q=Q (.int xs.length) H:=rfl
def Oe:AM:=λts H Q=>∃(a:ae) (ns:ξ Int) (k:Nat),ts=[.ref a,.int (k:Int)]/\H a=ab (.rol (ns.map zh))/\ns.length<=63/\k<64/\∀c:Int,Q (.int c) H
def V9:AM:=λts H Q=>∃c:Int,ts=[.int c]/\∀x,A1 x->Q (.str x) H
theorem tQ {ns:ξ Int} (h:i<ns.length):∃c:Int,AR (ns.map zh) (i:Int)=ab (zh c):=⟨ns[i],by rw[cA (by rw[C_,e_ h];rfl)]⟩
theorem j6 {xs:ξ aw}:eQ ai (zi x) (xs.map zi)=decide (x∈xs):=by unfold eQ;rw[zD M_,Lc,t_];exact⟨λ⟨y,h,e⟩=>by cases e;exact h,λh=>⟨x,h,rfl⟩⟩
def Wa:AM:=λts H Q=>∃(a:ae) (ws:ξ aw),ts=[.ref a]/\H a=ab (.lst (ws.map zi))/\ws.length<=8/\(∀x∈ws,A1 x)/\∀us:ξ aw,us.length=ws.length->DV us->∀p,H p=af->Q (.ref p) (fY H p (.lst (us.map zi)))
noncomputable def ER (b:ξ Nat) (s i:Nat):aw:=BA (b++[97+(s+i)%26])
theorem Wb (h:b.length<=7) (d:∀c∈b,97<=c/\c<=122):A1 (ER b s i):=by
 refine QX (by rw[d_];simp) (by rw[d_];simp;exact h) λc a=>?_;rcases x_.mp a with a | a
 .exact d c a
 rw[j_.mp a];have:=w4 (s+i) (show 0<26 by decide);omega
theorem Og (c:i<26) (a:j<26) (h:ER b s i=ER b s j):i=j:=by have e:=Ny h;rw[List.append_cancel_left_eq,sQ] at e;omega
theorem Oh (h:A1 x):∃(b:ξ Nat) (s:Nat),x=ER b s 0/\b.length<=7/\s<26/\∀c∈b,97<=c/\c<=122:=by
 obtain⟨l,rfl⟩:=Vu x;have e:=h.lo;have f:=h.hi;have d:=h.az;rw[dZ] at e f;rw[jl] at d;have a:l≠[]:=by intro z;rw[z] at e;exact AL e zC
 have j:=d _ (List.getLast_mem a);have i:l.dropLast.length+1=l.length:=by rw[fz];omega
 refine⟨l.dropLast,l.getLast a - 97,?_,zo,zo,λc g=>d c ((List.dropLast_subset l) g)⟩;unfold ER;rw[Nat.add_zero,Nat.mod_eq_of_lt zo,show 97+(l.getLast a - 97)=l.getLast a by omega,gc]
theorem Wc (b:ξ Nat) (c:Nat):gX (BA (b++[c])) af (ab (-1))=BA b:=by
 have e:=StrLaws.sliceText_neg_hi (BA (b++[c])) af (j:=-1) zC (by rw[dZ,d_];simp;omega);have l : -1+((BA (b++[c])).length:Int)=(b.length:Int):=by rw[dZ,d_];simp;omega
 rw[l] at e;have t:=Zx (b++[c]) b.length (by rw[d_];omega);rw[sM rfl] at t;exact e.trans t
theorem Oi (b:ξ Nat) (s i:Nat):(ER b s i).length=b.length+1:=by unfold ER;rw[dZ,d_];rfl
theorem Oj (b:ξ Nat) (s i:Nat):(ER b s i).cps.toList=b++[97+(s+i)%26]:=rfl
def Z0:AM:=λts H Q=>∃c:Int,ts=[.int c]/\∀us:ξ aw,us.length=8->DV us->∀p,H p=af->Q (.ref p) (fY H p (.lst (us.map zi)))
def Z1:AM:=λts H Q=>∃(c:Int) (g h:ae) (row a:ξ aw) (b:Int),ts=[.int c,.ref g,.ref h,.int b]/\H g=ab (.lst (row.map zi))/\1<=row.length/\row.length<=8/\(∀x∈row,A1 x)/\H h=ab (.lst (a.map zi))/\a.length=8/\(∀x∈a,A1 x)/\1<=b/\b<=10^57 /\
 ∀(s:Nat) (f d:Int) (ks:ξ aw) (e:aw),s<row.length->0<=f->f<8->1<=d->d<10^60->DV ks->ks.length<=4->A1 e->Q (.tup [.int (s:Int),.int f,.int d,sT ks,.str e]) H
theorem m5 {ns:ξ aw} (h:i<ns.length):AR (ns.map zi) (i:Int)=ab (zi (ns.getD i "")):=by rw[cA (by rw[C_,e_ h];rfl),k_,e_ h];rfl
theorem Cc {ns:ξ aw} (h:i<ns.length):ns.getD i ""∈ns:=by rw[k_,e_ h];exact FI h
noncomputable def dV (g:aw->T) (ns:ξ aw):ξ (aw × T):=ns.map λn=>(n,g n)
theorem Bw:∀{ns:ξ aw},n∈ns->aU n (dV g ns)=ab (g n)
 |x::r,h=>by
  unfold dV
  rw[I_]
  unfold aU
  by_cases e:x=n
  ·
   rw[z3 e,e]
  ·
   rw[zD e]
   exact Bw (ns:=r) ((v_.mp h).resolve_left (a6 e))
theorem Wd (h:n∉ns) (e:∀m∈ns,g m=g' m):BD n (g' n) (dV g ns)=dV g' (ns++[n]):=by
 unfold BD dV;rw[zD (by
  intro e
  rw[LM] at e
  obtain⟨x,c,e⟩:=e
  obtain⟨y,a,rfl⟩:=t_.mp c
  exact h (MU e▸a)),B_]
 congr 1;exact Mo λm b=>by rw[e m b]
noncomputable def dG (g:aw->ae) (ns:ξ aw):ξ (aw × T):=dV (λn=>zl (g n)) ns
theorem gW (h:n∈ns):aU n (dG g ns)=ab (zl (g n)):=Bw h
noncomputable def D6 {b:Type}(n:aw) (a:b) (g:aw->b):aw->b:=λm=>if m=n then a else g m
theorem fV {a:b}{g:aw->b} (h:m≠n):D6 n a g m=g m:=zD h
theorem fL {a:b}{g:aw->b}:D6 n a g n=a:=z3 rfl
theorem We (h:n∉ns):BD n (zl p) (dG g ns)=dG (D6 n p g) (ns++[n]):=by
 have:=Wd (g:=λn=>zl (g n)) (g':=λm=>zl (D6 n p g m)) h λm a=>by rw[show D6 n p g m=g m from fV λz=>h (z▸a)]
 rw[fL] at this;exact this
structure EL (H0 H:lq) (pd:ae) (A:List aw) (ad:aw->ae) (L:aw->List aw):Prop where
 sb:eH H0 H
 dc:H pd=ab (.dct (dG ad A))
 at_:∀n∈A,H (ad n)=ab (.lst ((L n).map zi))
 ij:∀a∈A,∀b∈A,ad a=ad b->a=b
 nw:∀n∈A,H0 (ad n)=af
 nd:H0 pd=af
theorem jb (s:eH a H) (h:a p=af):eH a (fY H p o):=λb u e=>by rw[aF (bB e h)];exact s b u e
section
variable {ad:aw->ae}{K:ξ aw}
theorem EL.more (g:EL H0 H pd A ad L) (s:eH H H'):EL H0 H' pd A ad L:=⟨g.sb.trans s,s _ _ g.dc,λn a=>s _ _ (g.at_ n a),g.ij,g.nw,g.nd⟩
theorem EL.put (g:EL H0 H pd A ad L) (j:n∉A) (k:H p=ab (.lst (K.map zi))) (q:∀m∈A,ad m≠p) (r:H0 p=af):EL H0 (fY H pd (.dct (BD n (zl p) (dG ad A)))) pd (A++[n]) (D6 n p ad) (D6 n K L):=by
 have l:∀{b o},H b=ab (.lst o)->b≠pd:=λh=>P4 h g.dc Ap;have i:∀m∈A,m≠n:=λm c z=>j (z▸c);refine⟨jb g.sb g.nd,by rw[aq,We j],λm c=>?_,λa f b d e=>?_,λm c=>?_,g.nd⟩
 .rcases x_.mp c with c | c
  .rw[fV (i m c),fV (i m c),aF (l (g.at_ m c))];exact g.at_ m c
  rw[j_.mp c,fL,fL,aF (l k)];exact k
 .rcases x_.mp f with f | f <;> rcases x_.mp d with d | d
  .rw[fV (i a f),fV (i b d)] at e;exact g.ij a f b d e
  .rw[j_.mp d,fV (i a f),fL] at e;exact AL e (q a f)
  .rw[j_.mp f,fV (i b d),fL] at e;exact AL e.symm (q b d)
  rw[j_.mp f,j_.mp d]
 rcases x_.mp c with c | c
 .rw[fV (i m c)];exact g.nw m c
 rw[j_.mp c,fL];exact r
theorem EL.app (g:EL H0 H pd A ad L) (a:n∈A) (x:aw):EL H0 (fY H (ad n) (.lst ((L n).map zi++[zi x]))) pd A ad (D6 n (L n++[x]) L):=by
 refine⟨jb g.sb (g.nw n a),by rw[aF (a6 (P4 (g.at_ n a) g.dc Ap))];exact g.dc,λm b=>?_,g.ij,g.nw,g.nd⟩;by_cases e:m=n
 .rw[e,fL,aq,B_];rfl
 rw[fV e,aF λz=>e (g.ij m b n a z)];exact g.at_ m b
end
def Kx (W:Wk) (a b:aw):Prop:=∃y,Dx ["with"] W a y/\RT (Dx ["with"] W) y b
theorem yX (h:a≠b):Kx W a b↔RT (Dx ["with"] W) a b:=by
 constructor
 .rintro⟨y,f,d⟩;exact (RT.step .refl f).trans d
 intro z;induction z with
 |refl=>exact AL rfl h
 |@step b c f d i =>
 by_cases e:a=b
 .subst e;exact⟨c,d,.refl⟩
 obtain⟨y,g,j⟩:=i e;exact⟨y,g,j.step d⟩
theorem Ol {K:aw->ξ aw} (a:∀n∈nm W,∀x,x∈K n↔Kx W n x) (c:t∈nm W):(nm W).filter (λx=>decide (x=t)||(decide (x∈K t)&&decide (t∈K x)))=bu W t:=by
 refine KW λx b=>?_;rw[CC,PH,F_,h_,h_,h_,@h_ _ (ap _),a t c,a x b];by_cases e:x=t
 .subst e;exact⟨λ_=>⟨.refl,.refl⟩,λ_=>.inl rfl⟩
 rw[yX e,yX (a6 e)];exact⟨λh=>h.resolve_left e,.inr⟩
theorem Bx (c:n7 W) (h:Dx ["with"] W a b):a∈nm W/\b∈nm W:=by
 rcases Jj h with h | ⟨p,d,_,e | e⟩
 .exact (c.oo _ h).2
 .have:=(c.pp p d).2.2;rw[e] at this;exact this
 have:=(c.pp p d).2.2;rw[e] at this;exact⟨this.2,this.1⟩
structure HE (W:Wk) (t:aw) (ws ks:List aw):Prop where
 fr:∀x,x∈ws\/x∈ks->Kx W t x
 st:∀x,Dx ["with"] W t x->x∈ws\/x∈ks
 cl:∀a b,a∈ks->Dx ["with"] W a b->b∈ws\/b∈ks
 nd:ks.Nodup
theorem HE.fin (g:HE W t [] ks) (x:aw):x∈ks↔Kx W t x:=by
 refine⟨λh=>g.fr x (.inr h),λ⟨y,e,c⟩=>?_⟩;have key:∀z,z∈([]:ξ aw)\/z∈ks->z∈ks:=λz h=>h.resolve_left Ap;have d:∀{u v},RT (Dx ["with"] W) u v->u∈ks->v∈ks:=λr a=>by
  induction r with
  |refl=>exact a
  |step _ h b=>exact key _ (g.cl _ _ b h)
 exact d c (key y (g.st y e))
theorem HE.old (g:HE W t (ws++[x]) ks) (c:x∈ks):HE W t ws ks:=by
 have key:∀z,z∈ws++[x]\/z∈ks->z∈ws\/z∈ks:=λz h=>by
  rcases h with h | h
  .rcases x_.mp h with h | h
   .exact .inl h
   rw[j_.mp h];exact .inr c
  exact .inr h
 exact⟨λz h=>g.fr z (h.imp_left λq=>FU _ q),λz h=>key z (g.st z h),λa b h r=>key b (g.cl a b h r),g.nd⟩
theorem HE.new (g:HE W t (ws++[x]) ks) (f:x∉ks) (d:∀y,y∈L↔Dx ["with"] W x y):HE W t (ws++L) (ks++[x]):=by
 have c:=g.fr x (.inl Ap);have key:∀z,z∈ws++[x]\/z∈ks->z∈ws++L\/z∈ks++[x]:=λz h=>by
  rcases h with h | h
  .rcases x_.mp h with h | h
   .exact .inl (FU _ h)
   exact .inr (J_ _ h)
  exact .inr (FU _ h)
 refine⟨λz h=>?_,λz h=>key z (g.st z h),λa b h r=>?_,jR g.nd f⟩
 .rcases h with h | h <;> rcases x_.mp h with h | h
  .exact g.fr z (.inl (FU _ h))
  .obtain⟨y,i,e⟩:=c;exact⟨y,i,e.step ((d z).mp h)⟩
  .exact g.fr z (.inr h)
  rw[j_.mp h];exact c
 rcases x_.mp h with h | h
 .exact key b (g.cl a b h r)
 rw[j_.mp h] at r;exact .inl (J_ _ ((d b).mpr r))
theorem Z2:q∈DO ["with"] ("with",a,b)↔q=(a,b)\/q=(b,a):=by unfold DO;rw[z3 Ap,v_,j_]
def Wf:AM:=λts H Q=>∃(W:Wk),ts=[W.enc]/\n7 W/\∀(H':lq) (a:ae) (b:aw->ae) (K:aw->ξ aw),eH H H'->H' a=ab (.dct (dG b (nm W)))->(∀n∈nm W,H' (b n)=ab (.lst ((K n).map zi)))->(∀n∈nm W,∀x,x∈K n↔Kx W n x)->Q (.ref a) H'
def Z3:AM:=λts H Q=>∃(W:Wk),ts=[W.enc]/\n7 W/\∀(H':lq) (p:ae),eH H H'->H' p=ab (.lst ((wB W).map sT))->Q (.ref p) H'
theorem By:∀{ns:ξ aw}{i:Nat}{x:aw},ns.Nodup->ns[i]?=ab x->zt ns [x]=2^i
 |[],_,_,_,e=>by simp at e
 |y::r,0,x,nd,e=>by
  rw[OZ,SA] at e
  subst e
  rw[EZ] at nd
  have:zt r [y]=0:=by
   rw[bO,(qY r [y]).mpr λz c q=>nd.1 (j_.mp q▸c)];rfl
  simp [zt,this]
 |y::r,i+1,x,nd,e=>by
  rw[Mb] at e
  rw[EZ] at nd
  have a:y≠x:=λz=>nd.1 (by rw[z];exact E5 e)
  have b:=By nd.2 e
  simp only[zt,b,j_,a,W_,Lv]
  omega
noncomputable def lF (t:aw) (p:aw × aw × aw):ξ aw:=if p.1="apart"/\(t=p.2.1\/t=p.2.2) then [if p.2.1=t then p.2.2 else p.2.1] else []
noncomputable def wL (W:Wk) (t:aw):ξ aw:=W.pairs.flatMap (lF t)
def Fa (W:Wk) (t:aw × Int × ξ aw):T:=.tup [.int (zt (nm W) [t.1]),.int (zt (nm W) (bu W t.1)),.int (zt (nm W) (dM W t.1)),.int (zt (nm W) (wL W t.1)),.int t.2.1,sT t.2.2]
theorem BJ (ns A B:ξ aw):a8 (zt ns A) (zt ns B)=a8 (zt ns B) (zt ns A):=by rw[bO,bO,iK,iK,Nat.and_comm]
theorem BK (ns A B:ξ aw):(0<a8 (zt ns A) (zt ns B))↔∃x∈ns,x∈A/\x∈B:=by
 have c:0<=a8 (zt ns A) (zt ns B):=by rw[bO,bO,iK];exact KU _
 have b:=iM ns A B;constructor
 .intro h;refine PM λz=>?_;have:=b.mpr λx a q=>z ⟨x,a,q⟩;omega
 rintro⟨x,a,q⟩;have:a8 (zt ns A) (zt ns B)≠0:=λz=>b.mp z x a q;omega
theorem yZ (b:n7 W) (f:i<zv W) (c:t∈W.tasks):(0<a8 (i:Int) (zt (nm W) [t.1]))↔t.1∈pk W i:=by have e:(i:Int)=zt (nm W) (pk W i):=(jM b f).symm;rw[e,BK];exact⟨λ⟨x,_,a,d⟩=>by rw[j_.mp d] at a;exact a,λh=>⟨t.1,t_.mpr ⟨t,c,rfl⟩,h,j_.mpr rfl⟩⟩
theorem za (c:n7 W) (d:i<zv W) (b:∀x∈A,x∈nm W):(a8 (zt (nm W) A) (i:Int)=zt (nm W) A)↔∀x∈A,x∈pk W i:=by have e:(i:Int)=zt (nm W) (pk W i):=(jM c d).symm;rw[e,BJ,dH];exact⟨λh x a=>h x (b x a) a,λh x _ a=>h x a⟩
theorem Om (b:n7 W) (g:i<zv W) (j:d<zv W) (c:∀x∈A,x∈nm W):(a8 (zt (nm W) A) (cE (d:Int) (i:Int))=zt (nm W) A)↔∀x∈A,x∈pk W i\/x∈pk W d:=by have e:(i:Int)=zt (nm W) (pk W i):=(jM b g).symm;have f:(d:Int)=zt (nm W) (pk W d):=(jM b j).symm;rw[e,f,oV,BJ,dH];exact⟨λh x a=>(x_.mp (h x (c x a) a)).symm,λh x _ a=>x_.mpr (h x a).symm⟩
theorem Wg (c:n7 W) (d:i<zv W):(0<a8 (zt (nm W) A) (i:Int))↔∃x∈A,x∈pk W i:=by have e:(i:Int)=zt (nm W) (pk W i):=(jM c d).symm;rw[e,BK];exact⟨λ⟨x,_,h⟩=>⟨x,h⟩,λ⟨x,b,a⟩=>⟨x,fU a,b,a⟩⟩
theorem Wh (a:n7 W) (f:i<zv W) (g:d<zv W):(a8 (i:Int) (d:Int)=0)↔∀x∈pk W i,x∉pk W d:=by have e:(i:Int)=zt (nm W) (pk W i):=(jM a f).symm;have c:(d:Int)=zt (nm W) (pk W d):=(jM a g).symm;rw[e,c,iM];exact⟨λh x b z=>h x (fU b) ⟨b,z⟩,λh x _ z=>h x z.1 z.2⟩
def No (W:Wk) (kind:aw) (d i:Nat) (t:aw × Int × ξ aw):Prop:=t.1∈pk W i->sZ t.2.2 kind=ag/\(∀x∈bu W t.1,x∈pk W i)/\(∀x∈dM W t.1,x∈pk W i\/x∈pk W d)/\∀x∈wL W t.1,x∉pk W i
def JD (W:Wk) (eG:Int) (kind:aw) (d i:Nat):Bool:=@decide (∀t∈W.tasks,No W kind d i t) (ap _)&&decide (cX W.tasks (pk W i)<=eG)
theorem VE:x∈wL W t↔∃p∈W.pairs,p.1="apart"/\((p.2.1=t/\x=p.2.2)\/(p.2.1≠t/\p.2.2=t/\x=p.2.1)):=by
 unfold wL;rw[F8];refine exists_congr λp=>and_congr_right λ_=>?_;unfold lF;split
 .rename_i h;rw[j_];constructor
  .intro e;refine⟨h.1,?_⟩;split at e
   .rename_i a;exact .inl ⟨a,e⟩
   rename_i a;exact .inr ⟨a,(h.2.resolve_left λz=>a z.symm).symm,e⟩
  rintro⟨_,⟨a,rfl⟩ | ⟨a,_,rfl⟩⟩
  .rw[z3 a]
  rw[zD a]
 rename_i h;constructor
 .intro e;cases e
 rintro⟨b,⟨a,_⟩ | ⟨_,a,_⟩⟩
 .exact AL ⟨b,.inl a.symm⟩ h
 exact AL ⟨b,.inr a.symm⟩ h
theorem SR:x∈ju W t↔∃p∈W.pairs,p.1="apart"/\p.2.1=t/\p.2.2=x:=by
 unfold ju;rw[t_];constructor
 .rintro⟨p,a,rfl⟩;rw[L_,F_,h_,h_] at a;exact⟨p,a.1,a.2.1,a.2.2,rfl⟩
 rintro⟨p,a,c,d,b⟩;exact⟨p,L_.mpr ⟨a,by rw[p_ c,p_ d];rfl⟩,b⟩
theorem Oo (w:n7 W) (m:∀x∈pk W i,x∉pk W d):JD W eG kind d i=qb W eG kind (pk W d) (pk W i):=by
 have key:(JD W eG kind d i=ag)↔(qb W eG kind (pk W d) (pk W i)=ag):=by
  rw[QN];unfold JD;rw[F_,@h_ _ (ap _),h_];constructor
  .rintro⟨v,s⟩;refine⟨λt k g=>?_,s⟩;obtain⟨a,b,c,e⟩:=v t k g;refine⟨m _ g,a,b,c,λx l z=>?_⟩;obtain⟨p,h,p1,j,f⟩:=SR.mp l;exact e x (VE.mpr ⟨p,h,p1,.inl ⟨j,f.symm⟩⟩) z
  intro F;refine⟨λt k g=>?_,F.ld⟩;obtain⟨_,a,b,c,e⟩:=F.one t k g;refine⟨a,b,c,λx l z=>?_⟩;obtain⟨p,h,p1,⟨j,f⟩ | ⟨j,f,r⟩⟩:=VE.mp l
  .exact e x (SR.mpr ⟨p,h,p1,j,f.symm⟩) z
  obtain⟨u,q,n⟩:=t_.mp (fU z);have o:=F.one u q (by rw[n];exact z);refine o.2.2.2.2 t.1 (SR.mpr ⟨p,h,p1,by rw[n,r],f⟩) g
 exact CC.mpr key
def C2 (W:Wk) (eG:Int) (k d j:Nat):ξ Nat:=CI bJ ((mr (zv W - j) j).filter (FF W eG k d))
theorem wM (a:j<zv W):C2 W eG k d (j+1)=if FF W eG k d (zv W - 1 - j)=ag/\(C2 W eG k d j).any (λg=>bJ g (zv W - 1 - j))=ai then C2 W eG k d j++[zv W - 1 - j] else C2 W eG k d j:=by
 unfold C2;rw[show mr (zv W - (j+1)) (j+1)=(zv W - 1 - j)::mr (zv W - j) j by rw[List.range'_succ,show zv W - (j+1)=zv W - 1 - j by omega,show zv W - 1 - j+1=zv W - j by omega],KS];by_cases h:FF W eG k d (zv W - 1 - j)=ag
 .rw[z3 h];show (if _ then _ else _)=_;cases e:(CI bJ ((mr (zv W - j) j).filter (FF W eG k d))).any (λg=>bJ g (zv W - 1 - j)) with
  |true=>rw[z3 rfl,zD (λz=>by cases z.2)]
  |false=>rw[zD zC,z3 ⟨h,rfl⟩]
 rw[zD h,zD λz=>h z.1]
theorem Oq (W:Wk) (eG:Int) (k d:Nat):C2 W eG k d (zv W)=CI bJ (B6 W eG k d):=by unfold C2 B6;rw[Nat.sub_self,List.range_eq_range']
theorem tR:(C2 W eG k d j).length<=j:=by refine S_ (j5 bJ _) (S_ (E6 _ _) ?_);rw[List.length_range'];exact o_ _
theorem zb (a:b->b->Bool):∀xs:ξ b,(CI a xs).reverse.Sublist xs
 |[]=>List.Sublist.refl _
 |n::B=>by
  unfold CI
  split
  ·
   exact (zb a B).cons _
  ·
   rw[nE]
   exact (zb a B).cons₂ _
theorem G':(Bz W eG k d).Pairwise (·<·):=(List.pairwise_lt_range.filter _).sublist (zb bJ _)
theorem JF {us vs:ξ Int}(h:us.Perm vs) (c:us.Pairwise (·<=·)) (e:vs.Pairwise (·<=·)):us=vs:=h.eq_of_pairwise (λa b _ _ f d=>Int.le_antisymm f d) c e
theorem Ot (h:us.Perm ((C2 W eG k d (zv W)).map λ(i:Nat)=>(i:Int))) (a:us.Pairwise (·<=·)):us=(Bz W eG k d).map λ(i:Nat)=>(i:Int):=by
 refine JF (h.trans ?_) a ?_
 .rw[Oq];exact ((i9 _).map _).symm
 rw[NF];exact G'.imp λh=>by omega
theorem BL (h:u∈bu W t):bu W u=bu W t:=by unfold bu at h |-;rw[L_,@h_ _ (ap _)] at h;refine KW λx _=>?_;rw[CC,@h_ _ (ap _),@h_ _ (ap _)];exact⟨λz=>⟨h.2.1.trans z.1,z.2.trans h.2.2⟩,λz=>⟨h.2.2.trans z.1,z.2.trans h.2.1⟩⟩
theorem Wi (i:t∈nm W):∃r,(wB W).filter (λg=>decide (t∈g))=bu W t::r:=by
 have c:∀g∈(wB W).filter (λg=>decide (t∈g)),g=bu W t:=λg d=>by rw[L_,h_] at d;obtain⟨u,_,rfl⟩:=t_.mp d.1;exact (BL d.2).symm
 have a:=qZ (W:=W) i;have b:bu W t∈(wB W).filter (λg=>decide (t∈g)):=by
  rw[L_,h_];refine⟨?_,a⟩;cases e:bu W t with
  |nil=>rw[e] at a;cases a
  |cons y r =>
   have h:y∈bu W t:=by rw[e];exact .head _
   have f:=BL h
   exact t_.mpr ⟨y,L_.mpr ⟨(L_.mp h).1,by rw[f,e];exact p_ rfl⟩,by rw[f,e]⟩
 cases e:(wB W).filter (λg=>decide (t∈g)) with
 |nil=>rw[e] at b;cases b
 |cons g r=>rw[e] at c;exact⟨r,by rw[c g (.head _)]⟩
theorem Ou {K:aw->ξ aw} (e:∀n∈nm W,∀x,x∈K n↔Kx W n x):(nm W).filter (λx=>decide (t∈K x)&&!decide (x∈bu W t))=dM W t:=by
 unfold dM;refine KW λx d=>?_;rw[CC,F_,h_,NO,Mc,@h_ _ (ap _),e x d];unfold bu;rw[L_,@h_ _ (ap _)];have c:Kx W x t->RT (Dx ["with"] W) x t:=λ⟨y,b,a⟩=>(RT.step .refl b).trans a;constructor
 .rintro⟨b,a⟩;exact⟨c b,λz=>a ⟨d,z,c b⟩⟩
 rintro⟨b,a⟩;have f:x≠t:=λz=>a (z▸.refl);exact⟨(yX f).mpr b,λz=>a z.2.1⟩
theorem Ov (W:Wk) (t:aw) (A:ξ (aw × aw × aw)) (p:aw × aw × aw):zt (nm W) ((A++[p]).flatMap (lF t))=cE (zt (nm W) (A.flatMap (lF t))) (zt (nm W) (lF t p)):=by rw[NS,oV];simp
theorem Wj (W:Wk):(wB W).length<=W.tasks.length:=by unfold wB;rw[g_];refine S_ (E6 _ _) ?_;rw[g_];exact o_ _
theorem Z4 (x:aw) (xs:ξ aw):eQ ag (zi x) (xs.map zi)=!decide (x∈xs):=by unfold eQ;simp only[Vr];rfl
theorem BP (x:aw) (xs:ξ aw):eQ ai (zi x) (xs.map zi)=decide (x∈xs):=by unfold eQ;simp only[Vr];rfl
theorem BR:∀{ns:ξ aw}{i:Nat}{x:aw}{b:Int},ns.Nodup->ns[i]?=ab x->(x∈AN ns b↔b / 2^i%2=1)
 |[],_,_,_,_,e=>by simp at e
 |y::r,0,x,b,nd,e=>by
  rw[OZ,SA] at e
  subst e
  rw[EZ] at nd
  have d:y∉AN r (b / 2):=λz=>nd.1 (iZ _ _ _ z)
  rw[Int.pow_zero,qS]
  unfold AN
  by_cases c:b%2=1 <;> simp [c,d]
 |y::r,i+1,x,b,nd,e=>by
  rw[Mb] at e
  rw[EZ] at nd
  have a:x≠y:=λz=>nd.1 (by rw[<- z];exact E5 e)
  have g:=BR (b:=b / 2) nd.2 e
  have f:b / 2^(i+1)=b / 2 / 2^i:=by rw[eS zC,Lv,qE]
  rw[f,<- g]
  show x∈(if b%2=1 then y::AN r (b / 2) else AN r (b / 2))↔_
  by_cases c:b%2=1
  ·
   rw[z3 c,v_]
   exact⟨λz=>z.resolve_left a,.inr⟩
  ·
   rw[zD c]
theorem JG {W:Wk}{i:Nat} (h:W.tasks[i]?=ab t):AR (W.tasks.map AY) (i:Int)=ab (AY t):=cA (by rw[C_,h];rfl)
theorem Z5 {b i:Nat} (a:n7 W) (h:W.tasks[i]?=ab t):decide ((b:Int) / 2^i%2=1)=decide (t.1∈pk W b):=by
 have c:(nm W)[i]?=ab t.1:=by unfold nm;rw[C_,h];rfl
 unfold pk;rw[Lc,BR (ns:=nm W) a.nd c]
def Ow:AM:=λts H Q=>∃(a:ae) (x:T) (ns b:ξ aw),ts=[.ref a,x]/\H a=ab (.lst (ns.map zi))/\ns.length<=8/\VD H x b/\Q (.int (zt ns b)) H
def Rh:AM:=λts H Q=>∃(W:Wk) (m:Nat),ts=[W.enc,.int (m:Int)]/\n7 W/\m<zv W/\Q (AS W m) H
def GU (W:Wk):ξ T:=W.tasks.map (Fa W)
def Z6:AM:=λts H Q=>∃(W:Wk),ts=[W.enc]/\n7 W/\∀(H':lq) (p:ae),eH H H'->H' p=ab (.lst (GU W))->Q (.ref p) H'
def Z7:AM:=λts H Q=>∃(W:Wk) (p:ae) (eG:Int) (kind:aw) (d i:Nat),ts=[.ref p,.int eG,.str kind,.int (d:Int),.int (i:Int)]/\n7 W/\H p=ab (.lst (GU W))/\d<zv W/\i<zv W/\Q (.bl (JD W eG kind d i)) H
def Z8:AM:=λts H Q=>∃(W:Wk) (p:ae) (eG:Int) (k d:Nat),ts=[.ref p,.int eG,.str (W.row.getD k ""),.int (d:Int)]/\n7 W/\zv W<=64/\H p=ab (.lst (GU W))/\d<zv W/\∀(H':lq) (q:ae),eH H H'->H' q=ab (.lst ((Bz W eG k d).map aW))->Q (.ref q) H'
def Ri:AM:=λts H Q=>∃(W:Wk) (p:ae) (i:Nat),ts=[.ref p,.int (i:Int)]/\n7 W/\H p=ab (.lst (GU W))/\i<zv W/\Q (.int (cX W.tasks (pk W i))) H
theorem Ox (h:zv W<=64):(C2 W eG k d (zv W)).length<64:=by
 obtain⟨j,b⟩:∃j,zv W=j+1:=⟨zv W - 1,by have:=dj W;omega⟩;have l:=tR (W:=W) (eG:=eG) (k:=k) (d:=d) (j:=j);have e:C2 W eG k d (zv W)=C2 W eG k d (j+1):=by rw[b]
 rw[e,wM zo];split
 .rename_i c;have z:C2 W eG k d j=[]:=by
   cases e:C2 W eG k d j with
   |nil=>rfl
   |cons g r =>
    have q:=c.2
    have a:bJ g 0=ag:=p_ ((iK g 0).trans Ap)
    rw[e,M0,show zv W - 1 - j=0 by omega,a] at q
    cases q
  rw[z];exact (by decide:1<64)
 omega
theorem Z9 (P:bb) (w:bg) (a:ae) (i j:Int):kq P w (.ref a) (.tup [.int i,.int j]) H Q=OC (H a) P w (Q a [.inl i,.inl j]):=rfl
def WS (ks:ξ (Nat × Nat)) (kvs:ξ (TK × T)):Prop:=∀s o:Nat,(dD [.inl (s:Int),.inl (o:Int)] kvs).isSome=decide ((s,o)∈ks)
noncomputable def Kj (c:BC):TK:=[.inl (c.1:Int),.inl (c.2.1:Int)]
theorem BV (h:Kj a=Kj b):BM a=BM b:=by have c:=oe h;have d:=oe c.2;exact fw (OI.mp (Nd c.1)) (OI.mp (Nd d.1))
theorem Oz (h:((A++c::B).map BM).Pairwise (λa b=>C5 a b=ag)):Kj c∉A.map Kj:=λz=>by
 obtain⟨a,f,e⟩:=t_.mp z;rw[B_,mv] at h;have d:=h.2.2 _ (t_.mpr ⟨a,f,rfl⟩) (BM c) (t_.mpr ⟨c,.head _,rfl⟩);rw[BV e] at d;unfold C5 at d;rw[z3 rfl,h_] at d;exact CU _ d
theorem Wl {d:ξ BC} (h:kvs.map (·.1)=d.map Kj):WS (d.map BM) kvs:=λs o=>by
 rw[CC,q9,h,h_];refine⟨λz=>?_,λz=>?_⟩
 .obtain⟨c,a,e⟩:=t_.mp z;exact t_.mpr ⟨c,a,BV (b:=(s,o,.left 0)) e⟩
 obtain⟨c,a,e⟩:=t_.mp z;exact t_.mpr ⟨c,a,by cases e;rfl⟩
theorem wN:∀a:ξ BC,fB (a.map AZ) (a.map (AW W))=a.map λc=>zk [AZ c,AW W c]
 |[]=>rfl
 |c::r=>by
  show zk [_,_]::_=zk [_,_]::_
  rw[wN r]
theorem l' {a:ξ BC}:(a.map λc=>((c.1:Int),(c.2.1:Int))).map L3.prT=a.map AZ:=N_
theorem t? {a:ξ BC}:(a.map λc=>((c.1:Int),(c.2.1:Int))).map L3.prK=a.map Kj:=N_
theorem Z! {d:ξ BC}(h:(d.map BM).Pairwise (λa b=>C5 a b=ag)):(d.map λc=>((c.1:Int),(c.2.1:Int))).Pairwise Dw:=by
 rw[NF] at h |-;refine h.imp λ{a b} z=>?_;unfold C5 at z;unfold Dw;split at z
 .rename_i e;rw[h_] at z;have g:a.1=b.1:=e;have f:a.2.1<b.2.1:=z;exact .inr ⟨by show (a.1:Int)=b.1;omega,by show (a.2.1:Int)<b.2.1;omega⟩
 rw[h_] at z;have f:a.1<b.1:=z;exact .inl (by show (a.1:Int)<b.1;omega)
theorem YE {b:ξ BC}:(b.map AZ).all (pl 20)=ag:=by rw[V_];intro t a;obtain⟨x,_,rfl⟩:=t_.mp a;rfl
theorem L' (d:n7 W) (g:many<=W.row.length) (k:0<=eG):∃v,O0 W eG many=v/\(v=.non/\(cU (zv W - 1) (BY W eG many)).isSome=ag\/∃f:ξ BC,v=.tup (f.map (AW W))/\(cU (zv W - 1) (BY W eG many)).isSome=ai/\(∀c∈f,FG W c/\NL c.2.2)/\f.length<=4096/\(f.map BM).Pairwise (λa b=>C5 a b=ag)/\LN W eG many f=ag):=by
 have i:=tK (eG:=eG) d g;unfold O0;cases e:cU (zv W - 1) (BY W eG many) with
 |some v=>exact⟨_,rfl,.inl ⟨rfl,rfl⟩⟩
 |none =>
 rw[e] at i;have l:¬wJ W eG many:=λz=>by have:=i.mpr z;cases this
 refine⟨_,rfl,.inr ⟨_,rfl,rfl,λc j=>⟨ZW d c j,?_⟩,?_,Jx _,Jy d g k l⟩⟩
 .obtain⟨s,_,h⟩:=F8.mp j;obtain⟨m,_,rfl⟩:=t_.mp h;show NL (C8 W eG many s m);unfold C8;split <;> trivial
 have:=tO (eG:=eG) (many:=many) d (many+1);have:=d.r8;omega
theorem Rj {c:ξ BC}:(c.map (AW W)).all (pl 20)=ag:=by
 rw[V_];intro t a;obtain⟨⟨s,m,r⟩,_,rfl⟩:=t_.mp a;have sp:∀d m,pl (d+2) (AS W m)=ag:=λd m=>by show ((pk W m).map zi).all (pl (d+1))=ag;rw[V_];intro t a;obtain⟨x,_,rfl⟩:=t_.mp a;rfl
 show ([zh (s:Int),AS W m,EX W r]).all (pl 19)=ag;rw[MW,MW,MW,sp 17];have b:pl 19 (EX W r)=ag:=by
  cases r with
  |left n=>rfl
  |less o =>
   show ([zi "less",AS W o]).all (pl 18)=ag
   rw[MW,MW,sp 16]
   rfl
  |ways os =>
   show ([zi "ways",.tup (os.map (AS W))]).all (pl 18)=ag
   rw[MW,MW]
   have h:pl 18 (.tup (os.map (AS W)))=ag:=by
    show (os.map (AS W)).all (pl 17)=ag
    rw[V_];intro t a;obtain⟨x,_,rfl⟩:=t_.mp a;exact sp 15 x
   rw[h]
   rfl
 rw[b];rfl
def Wm:AM:=λts H Q=>∃i:Int,ts=[.int i]/\Q (.bl ag) H
def Rk:AM:=λts H Q=>∃(W:Wk) (p:ae) (m:Nat),ts=[.ref p,.int (m:Int)]/\n7 W/\H p=ab (.lst (GU W))/\m<zv W/\LD W m/\Q (.bl ag) H
def Rm (P:bb) (w:bg):AM:=λts H Q=>∃(W:Wk) (p q:ae) (eG:Int) (many s m:Nat) (r:IB) (ks:ξ (Nat × Nat)) (kvs:ξ (TK × T)),ts=[W.enc,.ref p,.int eG,.int (many:Int),AW W (s,m,r),.ref q]/\n7 W/\zv W<=64/\H p=ab (.lst (GU W))/\H q=ab (.dtk P w kvs)/\WS ks kvs/\m<zv W/\s<=many/\many<=W.row.length/\P8 W r/\NL r/\PV W eG many ks s m r=ag/\Q (.bl ag) H
def WB (P:bb) (w:bg):AM:=λts H Q=>∃(W:Wk) (eG:Int) (many:Nat) (d:ξ BC),ts=[W.enc,.int eG,.int (many:Int),.tup (d.map (AW W))]/\n7 W/\zv W<=64/\many<=W.row.length/\(∀c∈d,FG W c/\NL c.2.2)/\d.length<=4096/\(d.map BM).Pairwise (λa b=>C5 a b=ag)/\LN W eG many d=ag/\Q (.bl ag) H
def JH:AM:=λts H Q=>∃(W:Wk) (m:Nat),ts=[W.enc,AS W m]/\n7 W/\m<zv W/\Q (.bl ag) H
def Rn:AM:=λts H Q=>∃(W:Wk) (r:IB),ts=[W.enc,EX W r]/\n7 W/\P8 W r/\NL r/\Q (.bl ag) H
def Ro:AM:=λts H Q=>∃(W:Wk) (a:ξ BC),ts=[W.enc,.tup (a.map (AW W))]/\n7 W/\(∀c∈a,FG W c/\NL c.2.2)/\Q (.bl ag) H
def Rp (Pt:ae) (b:gE) (a:aw):AM:=λts H Q=>∃(W:Wk) (eG:Int) (many:Nat),ts=[W.enc,.int eG,.int (many:Int)]/\n7 W/\zv W<=64/\0<=eG/\many<=W.row.length/\H Pt=ab (.tab b a)/\Q (.bl ag) H
def BW (Pt:ae) (c:gE) (b:aw):AM:=λts H Q=>∃(a:ae) (ns:ξ Int),ts=[.ref a]/\H a=ab (.rol (ns.map zh))/\ns.length<=63/\H Pt=ab (.tab c b)/\∀H',Q (.bl ag) H'
noncomputable def Wk.turn (W:Wk):Wk:=⟨W.tasks,W.orders.map λo=>(o.2,o.1),W.pairs,W.row.reverse⟩
abbrev MX:=Nat × Int × Int × ξ aw × aw
noncomputable def GY (t:MX):T:=.tup [.int (t.1:Int),.int t.2.1,.int t.2.2.1,sT t.2.2.2.1,.str t.2.2.2.2]
structure UI (ns:List aw) (O:List (aw × aw)) (P:List (aw × aw × aw)):Prop where
 ol:O.length<=72
 oo:∀o∈O,o.1≠o.2/\o.1∈ns/\o.2∈ns
 pl:P.length<=12
 pp:∀p∈P,(p.1="with"\/p.1="apart")/\p.2.1≠p.2.2/\p.2.1∈ns/\p.2.2∈ns
def U1:AM:=λts H Q=>∃(a d ps:ae) (b:ξ Int) (ns:ξ aw) (c:ξ MX),ts=[.ref a,.ref d,.ref ps]/\H a=ab (.rol (b.map zh))/\b.length<=63/\H d=ab (.lst (ns.map zi))/\DV ns/\ns.length<=8/\H ps=ab (.lst (c.map GY))/\c.length=ns.length/\∀O P,UI ns O P->Q (.tup [.tup (O.map A9),.tup (P.map prT)]) H
structure D! (ns:List aw) (ss:List MX) (us:List (Int × Int × Int)):Prop where
 l:us.length=ns.length
 ex:∃ix:Nat->Nat,(∀p<ns.length,ix p<ns.length/\us[p]?=ab ((((ss.map (·.1)).getD (ix p) 0:Nat):Int),(us.getD p (0,0,0)).2.1,(ix p:Int)))/\(∀p q,p<q->q<ns.length->ix p≠ix q)
theorem Wn (E:d.length=ns.length) (o:us.Perm ((ay ns.length).map λk=>((((d.map (·.1)).getD k 0:Nat):Int),((d.map (·.2.1)).getD k 0:Int),(k:Int)))):D! ns d us:=by
 have f:us.length=ns.length:=by rw[o.length_eq,g_,D_]
 have a:∀x∈us,∃k,k<ns.length/\x=((((d.map (·.1)).getD k 0:Nat):Int),((d.map (·.2.1)).getD k 0:Int),(k:Int)):=λx A=>by obtain⟨k,l,e⟩:=t_.mp (o.mem_iff.mp A);exact⟨k,Y_.mp l,e.symm⟩
 have m:(us.map (·.2.2)).Nodup:=by refine (o.map (·.2.2)).nodup_iff.mpr ?_;rw[N_,List.Nodup,NF];refine List.Pairwise.imp (λ{x y} h e=>h ?_) (List.nodup_range (n:=ns.length));have:(x:Int)=(y:Int):=e;omega
 refine⟨f,λp=>(us.getD p (0,0,0)).2.2.toNat,λp h=>?_,λp q r hq=>?_⟩
 .have s:us[p]?=ab us[p]:=e_ zo;obtain⟨k,l,e⟩:=a _ (FI (show p<us.length by omega));have i:us.getD p (0,0,0)=us[p]:=by rw[k_,s];rfl
  have g:(us.getD p (0,0,0)).2.2.toNat=k:=by rw[i,e];exact GS k
  dsimp only;refine⟨by rw[g];exact l,?_⟩;rw[g,s,i,e]
 have b:p<us.length:=zo
 have c:q<us.length:=zo
 obtain⟨k,l,e⟩:=a _ (FI b);obtain⟨t,v,u⟩:=a _ (FI c);have B:us.getD p (0,0,0)=us[p]:=by rw[k_,e_ b];rfl
 have C:us.getD q (0,0,0)=us[q]:=by rw[k_,e_ c];rfl
 have w:(us.getD p (0,0,0)).2.2.toNat=k:=by rw[B,e];exact GS k
 have D:(us.getD q (0,0,0)).2.2.toNat=t:=by rw[C,u];exact GS t
 dsimp only;rw[w,D];intro z;have j:=(OM.mp m) p q (by rw[g_];exact b) (by rw[g_];exact c) r;rw[IN,IN,e,u,z] at j;exact j rfl
structure IS (ns:List aw) (c:Nat) (O:List (aw × aw)) (P:List (aw × aw × aw)):Prop where
 oo:∀o∈O,o.1≠o.2/\o.1∈ns/\o.2∈ns
 pp:∀p∈P,(p.1="with"\/p.1="apart")/\p.2.1≠p.2.2/\p.2.1∈ns/\p.2.2∈ns
 ol:O.length<=c
 pl:P.length<=2*c
theorem IS.mono (h:IS ns c O P) (l:c<=d):IS ns d O P:=⟨h.oo,h.pp,S_ h.ol l,S_ h.pl zo⟩
theorem IS.step {c:Nat}{O:ξ (aw × aw)}{P:ξ (aw × aw × aw)}{x y w:aw} (h:IS ns c O P) (b:x≠y) (g:x∈ns) (f:y∈ns) (j:w="with"\/w="apart") (k d i:Bool):
  IS ns (c+1) (bif k then O++[(x,y)] else O) (bif i then (bif d then P++[(w,x,y)] else P)++[(w,y,x)] else (bif d then P++[(w,x,y)] else P)):=by
 have u:=h.ol;have t:=h.pl;have h':=h.mono (mm c);have n:∀o∈O++[(x,y)],o.1≠o.2/\o.1∈ns/\o.2∈ns:=λo l=>(x_.mp l).elim (h.oo o) λz=>by rw[j_.mp z];exact⟨b,g,f⟩
 have a:∀(Z:ξ (aw × aw × aw)) (z:aw × aw × aw),(∀p∈Z,(p.1="with"\/p.1="apart")/\p.2.1≠p.2.2/\p.2.1∈ns/\p.2.2∈ns)->z=(w,x,y)\/z=(w,y,x)->∀p∈Z++[z],(p.1="with"\/p.1="apart")/\p.2.1≠p.2.2/\p.2.1∈ns/\p.2.2∈ns:=λZ z q c p r=>(x_.mp r).elim (q p) λe=>by
  rw[j_.mp e];rcases c with rfl | rfl
  .exact⟨j,b,g,f⟩
  exact⟨j,a6 b,f,g⟩
 have m:∀(Z:ξ (aw × aw × aw)) z,(Z++[z]).length=Z.length+1:=λZ z=>by simp
 have s:(O++[(x,y)]).length=O.length+1:=Ap
 cases k <;> cases d <;> cases i <;> simp only[cond_true,cond_false] <;>
  exact⟨by first | exact n | exact h.oo,by first | exact a _ _ (a _ _ h.pp (.inl rfl)) (.inr rfl) | exact a _ _ h.pp (.inl rfl) | exact a _ _ h.pp (.inr rfl) | exact h.pp,zo,by first | omega | (simp only[m];omega)⟩
theorem zf {R:Co}{a f:lq} (j:p1) (i:e) (g:d) (h:∀(b:Bool) (H':lq),H'=(bif b then a else f)->R D σ H'):if c=ag then p1/\e/\d/\R D σ a else R D σ f:=by
 cases c
 .rw[zD M_];exact h ai _ rfl
 rw[z3 rfl];exact⟨j,i,g,h ag _ rfl⟩
theorem JK {R:Co} (e:p1) (h:∀(b:Bool) (H':lq),H'=(bif b then a else d)->R D σ H'):if c=ag then p1/\R D σ a else R D σ d:=by
 cases c
 .rw[zD M_];exact h ai _ rfl
 rw[z3 rfl];exact⟨e,h ag _ rfl⟩
structure D5 (H3 H:lq) (pk po pq:ae) (us:List (Int × Int × Int)) (O:List (aw × aw)) (P:List (aw × aw × aw)):Prop where
 sb:eH H3 H
 k:H pk=ab (.lst (us.map D1))
 o:H po=ab (.lst (O.map A9))
 p:H pq=ab (.lst (P.map prT))
 no:H3 po=af
 np:H3 pq=af
 ko:pk≠po
 kp:pk≠pq
 op:po≠pq
theorem D5.new {pk b pq x:ae} (h:D5 H3 H pk b pq us O P) (a:H x=af):D5 H3 (fY H x u) pk b pq us O P :=
 ⟨h.sb.trans (eH.new a),eH.new a _ _ h.k,eH.new a _ _ h.o,eH.new a _ _ h.p,h.no,h.np,h.ko,h.kp,h.op⟩
theorem D5.putO {pk a pq:ae} (h:D5 H3 H pk a pq us O P):D5 H3 (fY H a (.lst (O'.map A9))) pk a pq us O' P :=
 ⟨λb u c=>by rw[aF (bB c h.no)];exact h.sb b u c,by rw[aF h.ko];exact h.k,aq,by rw[aF (a6 h.op)];exact h.p,h.no,h.np,h.ko,h.kp,h.op⟩
theorem D5.putP {pk a pq:ae} (h:D5 H3 H pk a pq us O P):D5 H3 (fY H pq (.lst (P'.map prT))) pk a pq us O P' :=
 ⟨λb u c=>by rw[aF (bB c h.np)];exact h.sb b u c,by rw[aF h.kp];exact h.k,by rw[aF h.op];exact h.o,aq,h.no,h.np,h.ko,h.kp,h.op⟩
theorem Wo {P P':ξ (aw × aw × aw)} (l:IS ns c O P) (f:c<=72) (a:O'.Perm O) (d:P'.Perm P):UI ns O' (P'.take 12) :=
 ⟨by rw[a.length_eq];exact S_ l.ol f,λo b=>l.oo o (a.mem_iff.mp b),by rw[F3];omega,λp e=>l.pp p (d.mem_iff.mp (fy e))⟩
theorem o8 {b c:Type}{f:b->T}{g:c->T}:∀(xs:ξ b) (a:ξ c),fB (xs.map f) (a.map g)=(xs.zip a).map λz=>.tup [f z.1,g z.2]
 |[],_=>rfl
 |_::_,[]=>rfl
 |x::xs,y::a=>by rw[I_,I_,fB,o8 xs a];rfl
structure UO (W:Wk) (sts:List Nat):Prop where
 l:sts.length=W.tasks.length
 lt:∀s∈sts,s<W.row.length
def WU:AM:=λts H Q=>∃(a:ae) (d:ξ Int) (c b:Int),ts=[.ref a,.int c,.int b]/\H a=ab (.rol (d.map zh))/\d.length<=63/\1<=c/\c<=8/\1<=b/\b<=8/\∀(W:Wk) (sts:ξ Nat),n7 W->(W.tasks.length:Int)<=c->(W.row.length:Int)<=b->UO W sts->∀p,H p=af->Q (.tup [W.enc,.ref p]) (fY H p (.lst (sts.map λ(s:Nat)=>zh (s:Int))))
structure VO (row:List aw) (t:MX):Prop where
 s:t.1<row.length
 lo:1<=t.2.2.1
 hi:t.2.2.1<10^60
 ks:DV t.2.2.2.1
 kl:t.2.2.2.1.length<=4
 nm:A1 t.2.2.2.2
noncomputable def JO (ns:ξ aw) (a:ξ MX) (O:ξ (aw × aw)) (P:ξ (aw × aw × aw)) (row:ξ aw):Wk:=⟨(ns.zip a).map λz=>(z.1,z.2.2.2.1,z.2.2.2.2.1),O,P,row⟩
theorem Wq (n:DV ns) (D:a.length=ns.length) (A:1<=ns.length) (B:ns.length<=8) (o:∀t∈a,VO row t) (k:1<=row.length) (j:row.length<=8) (l:∀x∈row,A1 x) (b:UI ns O P):
  n7 (JO ns a O P row)/\UO (JO ns a O P row) (a.map (·.1))/\(JO ns a O P row).tasks.length=ns.length:=by
 have f:(JO ns a O P row).tasks.map (·.1)=ns:=by show ((ns.zip a).map λz=>(z.1,z.2.2.2.1,z.2.2.2.2.1)).map (·.1)=ns;rw[N_];show (ns.zip a).map (λz=>z.1)=ns;exact sd zo
 have c:(JO ns a O P row).tasks.length=ns.length:=by
  have:=U_ a7 f
  rwa [g_] at this
 have y:∀(i:Nat) (t:aw × Int × ξ aw),(JO ns a O P row).tasks[i]?=ab t->∃u,a[i]?=ab u/\ns[i]?=ab t.1/\t.2=(u.2.2.1,u.2.2.2.1):=λi t e=>by have p:((ns.zip a).map λz=>(z.1,z.2.2.2.1,z.2.2.2.2.1))[i]?=ab t:=e;rw[C_,Pv] at p;obtain⟨z,C,rfl⟩:=p;have:=List.getElem?_zip_eq_some.mp C;exact⟨z.2,this.2,this.1,rfl⟩
 refine⟨⟨by rw[c];exact A,by rw[c];exact B,λt r=>?_,by rw[f];exact n.nd,b.ol,by rw[f];exact b.oo,b.pl,by rw[f];exact b.pp,k,j,l⟩,⟨by rw[g_,c,D],λs h=>?_⟩,c⟩
 .obtain⟨i,w⟩:=mw r;obtain⟨u,g,v,e⟩:=y i t w;have d:=o u (E5 g);have m:t.2.1=u.2.2.1:=by rw[e]
  have q:t.2.2=u.2.2.2.1:=by rw[e]
  exact⟨n.nm _ (E5 v),by rw[m];exact d.lo,by rw[m];exact d.hi,by rw[q];exact d.ks,by rw[q];exact d.kl⟩
 obtain⟨u,g,rfl⟩:=t_.mp h;exact (o u g).s
noncomputable def EI (L:ξ Int) (z:(aw × Int × ξ aw) × Nat):ξ Int:=L.set z.2 (L.getD z.2 0+z.1.2.1)
noncomputable def GT (W:Wk) (sts:ξ Nat):ξ Int:=(W.tasks.zip sts).foldl EI (a3 W.row.length 0)
theorem BX (L:ξ Int):∀a:ξ ((aw × Int × ξ aw) × Nat),(a.foldl EI L).length=L.length:=λa=>by
 induction a generalizing L with
 |nil=>rfl
 |cons z r b=>rw[f8,b];unfold EI;rw[li]
theorem OD (W:Wk) (sts:ξ Nat):(GT W sts).length=W.row.length:=by unfold GT;rw[BX,IQ]
def X0:AM:=λts H Q=>∃(W:Wk) (q:ae) (sts:ξ Nat),ts=[W.enc,.ref q]/\n7 W/\H q=ab (.lst (sts.map λ(s:Nat)=>zh (s:Int)))/\sts.length=W.tasks.length/\(∀s∈sts,s<W.row.length)/\∀p,H p=af->Q (.ref p) (fY H p (.lst ((GT W sts).map zh)))
theorem BZ:∀(L:List Int) (i:Nat) (v:Int),i<L.length->(L.set i (L.getD i 0+v)).sum=L.sum+v
 |[],_,_,h=>AL h Ap
 |x::r,0,v,_=>by simp [List.set,GG];omega
 |x::r,i+1,v,h=>by
  have:=BZ r i v (by simpa using h)
  simp only[List.set_cons_succ,GG,List.getD_cons_succ,this]
  omega
theorem Ca:∀(a:List ((aw × Int × List aw) × Nat)) (L:List Int),(∀z∈a,z.2<L.length)->(a.foldl EI L).sum=L.sum+(a.map (·.1.2.1)).sum
 |[],L,_=>by simp
 |z::r,L,h=>by
  rw[f8,Ca r (EI L z) λy b=>by unfold EI;rw[li];exact h y (E_ _ b)]
  unfold EI
  rw[BZ L z.2 z.1.2.1 (h z A_),I_,GG]
  omega
theorem JL:∀(a:ξ ((aw × Int × ξ aw) × Nat)) (L:ξ Int),(∀z∈a,0<=z.1.2.1)->(∀x∈L,0<=x)->∀x∈a.foldl EI L,0<=x
 |[],L,_,hL=>hL
 |z::r,L,h,hL=>by
  rw[f8]
  refine JL r _ (λy c=>h y (E_ _ c)) λx b=>?_
  unfold EI at b
  rcases List.mem_or_eq_of_mem_set b with q | q
  ·
   exact hL x q
  ·
   rw[q]
   have f:=h z A_
   have d:0<=L.getD z.2 0:=by
    rw[k_]
    cases e:L[z.2]? with
    |none=>exact N9 0
    |some y=>exact hL y (E5 e)
   omega
theorem JM (n:Nat):(a3 n (0:Int)).sum=0:=by induction n with
 |zero=>rfl
 |succ n a=>rw[HV,GG,a];rfl
theorem Wr (a:n7 W):∀x∈GT W sts,0<=x:=JL _ _ (λz b=>by have:=(a.tk z.1 (L0 b).1).lo;omega) λx c=>by rw[(List.mem_replicate.mp c).2];exact N9 0
theorem OJ (c:sts.length=W.tasks.length) (h:∀s∈sts,s<W.row.length):(GT W sts).sum=(W.tasks.map (·.2.1)).sum:=by
 unfold GT;rw[Ca _ _ λz b=>by rw[IQ];exact h _ (L0 b).2,JM];have e:(W.tasks.zip sts).map (·.1.2.1)=W.tasks.map (·.2.1):=by have:=sd (l₁:=W.tasks) (l₂:=sts) zo;have a:=U_ (e6 (·.2.1)) this;rw[N_] at a;exact a
 rw[e];omega
theorem O1 (c:n7 W):1<=(W.tasks.map (·.2.1)).sum:=by
 have d:=c.t1;have b:=c.tk;cases e:W.tasks with
 |nil=>rw[e] at d;exact AL d zC
 |cons t r =>
 rw[e] at b;rw[I_,GG];have i:=(b t A_).lo;have f:∀l:List (aw × Int × List aw),(∀u∈l,S0 u)->0<=(l.map (·.2.1)).sum:=λl=>by
  induction l with
  |nil=>intro _;exact N9 _
  |cons u l g =>
  intro a;rw[I_,GG];have:=g λv h=>a v (E_ _ h);have:=(a u A_).lo;omega
 have:=f r λu a=>b u (E_ _ a);omega
def VC:AM:=λts H Q=>∃(c:Int) (W:Wk) (q:ae) (sts:ξ Nat),ts=[.int c,W.enc,.ref q]/\n7 W/\H q=ab (.lst (sts.map λ(s:Nat)=>zh (s:Int)))/\sts.length=W.tasks.length/\(∀s∈sts,s<W.row.length)/\∀n:Int,0<=n->Q (.int n) H
def WE:AM:=λts H Q=>∃(a:ae) (e:ξ Int) (d b:Int),ts=[.ref a,.int d,.int b]/\H a=ab (.rol (e.map zh))/\e.length<=63/\1<=d/\d<=8/\1<=b/\b<=8/\∀(W:Wk) (sts:ξ Nat) (eG c:Int),n7 W->(W.tasks.length:Int)<=d->(W.row.length:Int)<=b->UO W sts->0<=eG->∀p,H p=af->Q (.tup [W.enc,.ref p,.int eG,.int c]) (fY H p (.lst (sts.map λ(s:Nat)=>zh (s:Int))))
theorem Ws (a:n7 W) (b:r.length=W.row.length) (c:∀x∈r,x∈W.row):n7 ⟨W.tasks,W.orders,W.pairs,r⟩ :=
 ⟨a.t1,a.t8,a.tk,a.nd,a.os,a.oo,a.ps,a.pp,by show 1<=r.length;rw[b];exact a.r1,by show r.length<=8;rw[b];exact a.r8,λx d=>a.rn x (c x d)⟩
def VY:AM:=λts H Q=>∃(W:Wk) (c:Int),ts=[W.enc,.int c]/\n7 W/\∀r:ξ aw,r.length=W.row.length->(∀x∈r,x∈W.row)->Q (Wk.enc ⟨W.tasks,W.orders,W.pairs,r⟩) H
section
variable {K:a5}
noncomputable abbrev Cd:ξ aw:=[Bn,F2,F9,AK,D8]
theorem US:gV Cd [Bn,F2,F9] (aB (zw 52)):=aX
theorem JN {f:ae} (g:G3 K mg "_law_drawn" (zw 52) [Bn,F2,F9] f I) (B:Bl mg) (j:R7 P w K mg base 3 "_law_works" (zw 49) [Bn,F2,F9] WU) (k:R7 P w K mg base 2 "_law_beat" (zw 51) [BE,AK,D8] VC) (b:R7 P w K mg base 1 "_law_cell" (zw 43) [Bn,C6] Oe):R7 P w K mg base 4 "_law_drawn" (zw 52) [Bn,F2,F9] WE:=by
 refine c6 g US ?_;rintro _ _ _ s _ _ _ H3 _ o ⟨a,r,e,d,rfl,C,m,M,Y,O,V,F⟩;refine⟨_,s!"«ĞWI-*3Š(4Š(M.®â³ĞR-ġÐ¯+*R-ġ&+h¯E/%$",?_⟩
 ac_nf;have y:=nW.mk F;clear F;right;refine⟨a,r,e,d,rfl,C,m,M,Y,O,V,λW sts D S X v p z=>?_⟩;have J:eH H3 (fY H3 p (.lst (sts.map λ(s:Nat)=>zh (s:Int)))):=eH.new z;have G:fY H3 p (.lst (sts.map λ(s:Nat)=>zh (s:Int))) p=ab (.lst (sts.map λ(s:Nat)=>zh (s:Int))):=aq;have L:=nW.mk (λq c (u:0<=q)=>y.out W sts q c D S X v u p z);have x:=J _ _ C;try lia
 generalize fY H3 p (.lst (sts.map λ(s:Nat)=>zh (s:Int)))=H4 at J G x L |-;clear y;left;lia;refine⟨AD,a,r,14,rfl,x,m,zC,λN=>⟨N,W,p,sts,rfl,D,G,v.l,v.lt,λq u=>⟨a,r,15,rfl,x,m,zC,λZ=>?_⟩⟩⟩;try dsimp only
 exact⟨zC,My.of eH.refl (L.out q Z u)⟩
noncomputable abbrev Rq:ξ aw:=[Bn,AK,D8,BO,BE,DM]
theorem Md:gV Rq [Bn] (aB (zw 70)):=aX
theorem Wu {f:ae} (g:G3 K mg "law" (zw 70) [Bn] f fd) (B:Bl mg) (l:R7 P w K mg base 4 "_law_drawn" (zw 52) [Bn,F2,F9] WE) (b:R7 P w K mg base 1 "_law_moved" (zw 53) [AK,BE] VY) (d:R7 P w K mg base 9 "_law_right" (zw 69) [AK,BO,DM] (Rp Pt o6 mD)):iU P w K mg base 10 f fd [Bn] (BW Pt o6 mD):=by
 refine L9 g.fn Md (λts H Q h=>?_) (λcdv A Y s H E ts H3 Q S h=>?_)
 .obtain⟨a,ns,rfl,_⟩:=h;rfl
 obtain⟨a,ns,rfl,ha,F,J,k⟩:=h;refine⟨_,s!"w´R~-*41Û(2Û(3Û(4Û(M...ŷâ1Ûa´¦@>)&I*'c&Su@c&Sã)&+_m5Û(b´ä¯I*GNF%,%?F%$$$",?_⟩
 ac_nf;have k':=nW.mk k;clear k;right;refine⟨a,ns,6,5,rfl,ha,F,zC,zC,zC,zC,λW sts eG c hW hw5 _ hf hb p hp=>?_⟩;have v:=nW.mk hW;try lia
 have t:=(eH.new (o:=.lst (sts.map λ(s:Nat)=>zh (s:Int))) hp) _ _ J;generalize fY H3 p (.lst (sts.map λ(s:Nat)=>zh (s:Int)))=H5 at t |-;clear hW hf hp ha F J;ac_rfl;left;right;refine⟨by first | trivial | exact⟨zC,AQ⟩,W,c / 16,rfl,v.out,λr u D=>?_⟩;have M:=Ws v.out u D;try dsimp only
 have I:(⟨W.tasks,W.orders,W.pairs,r⟩:Wk).row.length=W.row.length:=u;have C:zv (⟨W.tasks,W.orders,W.pairs,r⟩:Wk)<=64:=OF (n:=2) (j:=6) zC (by show W.tasks.length<=6;omega);generalize (⟨W.tasks,W.orders,W.pairs,r⟩:Wk)=V at M I C |-;clear u D v I;have v8:=M.r8;have hV':=nW.mk M;clear M;left;refine aA λR3 Z=>?_;have O:=X_ c (show ((V.row.length:Int)+1)≠0 by omega);have cm1:=T_ c (show (0:Int)<(V.row.length:Int)+1 by omega);obtain⟨j,hj⟩:∃j:Nat,c%((V.row.length:Int)+1)=(j:Int):=⟨(c%((V.row.length:Int)+1)).toNat,zo⟩;lia;refine⟨zo,zC,λp1 G=>?_⟩;have eL:[zh (V.row.length:Int),zh (j:Int)]=([V.row.length,j]:ξ Nat).map aW:=rfl;rw[eL];have U:∀z∈([V.row.length,j]:ξ Nat),z<=V.row.length:=λz hz=>by simp only[v_,DI,DJ] at hz;rcases hz with rfl | rfl <;> omega
 generalize ([V.row.length,j]:ξ Nat)=L at U |-;have x:=nW.mk U;have R:fY H5 p1 (.lst (L.map aW)) p1=ab (.lst (L.map aW)):=aq;have y:=(eH.new (o:=.lst (L.map aW)) G) _ _ t;generalize fY H5 p1 (.lst (L.map aW))=H7 at R y |-;clear eL U O cm1 hj G t;refine aV aW L (λA σ H=>∃(q:ζ T),σ=[ab (.ref a),ab V.enc,ab (.ref p),ab (.int eG),ab (.int c),q]/\H=H7) ⟨_,rfl,rfl⟩ ?_ ?_
 .rintro σ H ⟨q,rfl,rfl⟩;refine⟨.inl R,?_⟩;left;lia;exact My.of eH.refl (k'.out _)
 rintro A m B σ H N e ⟨q,rfl,rfl⟩ hN;refine⟨.inl R,?_⟩;have hm:m<=V.row.length:=x.out m (by rw[e];simp);have X:nW (∀q,N [ab (.ref a),ab V.enc,ab (.ref p),ab (.int eG),ab (.int c),q] H):=⟨λq=>hN _ _ ⟨q,rfl,rfl⟩⟩;clear hN e Z x;simp only[aW];lia;refine⟨V,eG,m,rfl,hV'.out,C,hb,hm,y,?_⟩;try dsimp only
 rw[dz,zD zC];exact X.out _
def Wv:AM:=λts H Q=>∃W:Wk,ts=[W.enc]/\n7 W/\∀p,H p=af->Q (.ref p) (fY H p (.lst ((JJ ["with"] W).map A9)))
def Ww:AM:=λts H Q=>∃(x:T) (L:ξ (aw × aw)) (s:aw),ts=[x,.str s]/\((∃a,x=.ref a/\H a=ab (.lst (L.map A9)))\/x=.tup (L.map A9))/\L.length<=100 /\
 ∀(p:ae) (kvs:ξ (aw × T)),H p=af->(∀z,(aU z kvs).isSome=ag↔RT (λa b=>(a,b)∈L) s z)->Q (.ref p) (fY H p (.dct kvs))
def Wx:AM:=λts H Q=>∃(W:Wk) (t:aw),ts=[W.enc,.str t]/\n7 W/\∀(p:ae) (kvs:ξ (aw × T)),H p=af->(∀z,(aU z kvs).isSome=ag↔RT (Dx ["with"] W) t z)->Q (.ref p) (fY H p (.dct kvs))
def Wz:AM:=λts H Q=>∃(W:Wk) (t:aw),ts=[W.enc,.str t]/\n7 W/\∀(p:ae) (kvs:ξ (aw × T)),H p=af->(∀z,(aU z kvs).isSome=ag↔RT (Dx ["with"] W) z t)->Q (.ref p) (fY H p (.dct kvs))
def VX:AM:=λts H Q=>∃(W:Wk) (a b:ae) (c d:ξ (aw × T)),ts=[W.enc,.ref a,.ref b]/\n7 W/\H a=ab (.dct c)/\H b=ab (.dct d)/\Q (sT ((W.tasks.map (·.1)).filter λx=>(aU x c).isSome&&(aU x d).isSome)) H
def YN:AM:=λts H Q=>∃(W:Wk) (a b:ae) (c d:ξ (aw × T)),ts=[W.enc,.ref a,.ref b]/\n7 W/\H a=ab (.dct c)/\H b=ab (.dct d)/\Q (sT ((W.tasks.map (·.1)).filter λx=>(aU x c).isSome&&!(aU x d).isSome)) H
def WH:AM:=λts H Q=>∃(W:Wk) (t:aw),ts=[W.enc,.str t]/\n7 W/\Q (sT (bu W t)) H
def UY:AM:=λts H Q=>∃(W:Wk) (t:aw),ts=[W.enc,.str t]/\n7 W/\Q (sT (dM W t)) H
noncomputable abbrev o9:ξ aw:=["works","links","word","one","other"]
theorem OE:gV o9 ["works"] (aB (zw 1)):=aX
theorem wO {f:ae} (g:G3 K mg "links_of" (zw 1) ["works"] f y) (B:Bl mg):R7 P w K mg base 1 "links_of" (zw 1) ["works"] Wv:=by
 refine c6 g OE ?_;rintro _ A q _ H _ _ H3 _ D ⟨⟨tk,c,A4,row⟩,rfl,r,k⟩;have j:=xr.u30 D;refine⟨_,s!"1Ė<&Ģ'<V2Ė(3Ė(4Ė(M..°«nAËOÐ¯E&åPXhE&åP%$,%?ú%$$",?_⟩
 ac_nf;have v:c.length<=72:=r.os;have z:A4.length<=12:=r.ps;lia;intro p F;refine aV prT A4 (λA σ H=>∃(m v3 t:ζ T),σ=[ab (zk [zk (tk.map AY),zk (c.map A9),zk (A4.map prT),zk (row.map zi)]),ab (.ref p),m,v3,t]/\H=fY H3 p (.lst ((c++A.flatMap (DO ["with"])).map A9))) ⟨af,af,af,rfl,Ap⟩ ?_ ?_
 .rintro σ H ⟨m,v3,t,rfl,rfl⟩;ac_rfl;lia;exact My.of eH.refl (k p F)
 rintro A ⟨w,a,b⟩ B σ H N e ⟨m,v3,t,rfl,rfl⟩ C;have J:=sY ["with"] A;have L:A.length<=12:=by have:=U_ a7 e;simp only[d_,n_] at this;omega
 have o:(c++A.flatMap (DO ["with"])).length<=96:=by rw[d_];omega
 have d:N [ab (zk [zk (tk.map AY),zk (c.map A9),zk (A4.map prT),zk (row.map zi)]),ab (.ref p),ab (.str w),ab (.str a),ab (.str b)] (fY H3 p (.lst ((c++A.flatMap (DO ["with"])).map A9++(DO ["with"] (w,a,b)).map A9))):=C _ _ ⟨_,_,_,rfl,by rw[NS,<- N4,B_];simp⟩;generalize c++A.flatMap (DO ["with"])=I at d o;replace d:=nW.mk d;ac_rfl;clear C e k r J;simp only[prT];lia;ac_rfl;by_cases l:w="with"
 .subst l;have u:DO ["with"] ("with",a,b)=[(a,b),(b,a)]:=by unfold DO;simp
  rw[u] at d;try simp only[Fu,if_true]
  refine⟨⟨AD,AD⟩,zo,zo,⟨AD,AD⟩,zo,by simp;omega,?_⟩;have x:=d.out;simp only[I_,IA,A9] at x;rw[N4];exact x
 have u:DO ["with"] (w,a,b)=[]:=by unfold DO;simp [l]
 rw[u,IA,C9] at d;simp only[l,ED,u_,W_];exact d.out
noncomputable abbrev rm:ξ aw:=["links","start","found","grown","one","other"]
theorem MO:gV rm ["links","start"] (aB (zw 2)):=aX
theorem zg {f:ae} (g:G3 K mg "reached" (zw 2) ["links","start"] f fd) (B:Bl mg):R7 P w K mg base 1 "reached" (zw 2) ["links","start"] Ww:=by
 refine c6 g MO ?_;rintro _ A _ _ H _ _ H3 _ hr ⟨x,L,u,rfl,hx,hL,k⟩;have O:=xr.u1 hr;refine⟨_,s!"2ń{GR}:ŉ#2'ģDGģ{Mh}0#14ń(5ń(M.®ö@AüöTŕ¢¡LöATŉĤģ%$,%?%$ûÑ%$$$",?_⟩
 ac_nf;lia;intro p hp;ac_rfl;rw[Vz];refine⟨λm σ H=>∃(F:ξ aw) (g:Bool) (J G:ζ T),σ=[ab x,ab (.str u),ab (.ref p),ab (.bl g),J,G]/\H=fY H3 p (.dct (dF F))/\u∈F/\F.Nodup/\(∀z∈F,RT (λa b=>(a,b)∈L) u z)/\(g=ai->∀a b,(a,b)∈L->a∈F->b∈F)/\m=2*(L.length+1 - F.length)+(if g then 1 else 0),
  ⟨_,[u],ag,af,af,rfl,rfl,A_,Ap,(λz I=>by rw[j_.mp I];exact .refl),(λz=>nomatch z),rfl⟩,?_⟩
 have d:∀F:ξ aw,F.Nodup->(∀z∈F,RT (λa b=>(a,b)∈L) u z)->F.length<=L.length+1:=λF Y hF=>by
  have:=jL (l:=F) (m:=u::L.map (·.2)) Y λz I=>by
   cases hF z I with
   |refl=>exact A_
   |step _ r=>exact E_ _ (t_.mpr ⟨_,r,rfl⟩)
  simpa using this
 rintro m σ H ⟨F,g,J,G,rfl,rfl,hs,Y,hR,hg,rfl⟩;lia;cases g with
 |false=>simp only[u_,W_];refine My.of eH.refl (k p _ hp λz=>?_);rw[mW,h_];exact⟨hR z,λh=>Zw hs (hg rfl) h⟩
 |true =>
  try simp only[if_true]
  have S:(∃a,x=.ref a/\fY H3 p (.dct (dF F)) a=ab (.lst (L.map A9)))\/x=.tup (L.map A9):=by
   rcases hx with ⟨a,rfl,e⟩ | e
   ·
    exact .inl ⟨a,rfl,by rw[aF (bB e hp)];exact e⟩
   ·
    exact .inr e
  refine Je S λstill R=>?_
  have v:∀c,still (fY H3 p (.dct (dF c))):=by
   rcases R with rfl | ⟨a,rfl,e⟩
   ·
    exact λ_=>trivial
   ·
    have W:a≠p:=λz=>by subst z;rw[aq] at e;cases e
    rw[aF W] at e
    exact λc=>.inl (by rw[aF W];exact e)
  refine aV A9 L (λA σ H=>∃(c:ξ aw) (g':Bool) (J G:ζ T),σ=[ab x,ab (.str u),ab (.ref p),ab (.bl g'),J,G]/\H=fY H3 p (.dct (dF c))/\u∈c/\c.Nodup/\(∀z∈c,RT (λa b=>(a,b)∈L) u z)/\(g'=ai->c=F/\∀o∈A,o.1∈F->o.2∈F)/\(g'=ag->F.length<c.length)) ⟨F,ai,J,G,rfl,rfl,hs,Y,hR,λ_=>⟨rfl,(λ_ h=>nomatch h)⟩,(λz=>nomatch z)⟩ ?_ ?_
  ·
   rintro σ H ⟨c,g',J,G,rfl,rfl,t,q,j,V,X⟩
   refine⟨v c,?_⟩
   have b1:=d F Y hR
   have b2:=d c q j
   cases g' with
   |true =>
    have:=X rfl
    exact⟨_,by simp only[if_true];omega,c,ag,J,G,rfl,rfl,t,q,j,(λz=>nomatch z),rfl⟩
   |false =>
    obtain⟨e,hc⟩:=V rfl
    subst e
    exact⟨_,Ap,c,ai,J,G,rfl,rfl,t,q,j,λ_ a b C y=>hc (a,b) C y,rfl⟩
  ·
   rintro A ⟨a,b⟩ B σ H N e ⟨c,g',J,G,rfl,rfl,t,q,j,V,X⟩ hN
   refine⟨v c,?_⟩
   have C:(a,b)∈L:=by rw[e];simp
   have b2:=d c q j
   have l1:=mW a c
   have l2:=mW b c
   have l3:=Vy c
   have Z:¬(a∈c/\b∉c)->N [ab x,ab (.str u),ab (.ref p),ab (.bl g'),ab (.str a),ab (.str b)] (fY H3 p (.dct (dF c))):=λhno=>hN _ _ ⟨c,g',_,_,rfl,rfl,t,q,j,λhg'=>by
    obtain⟨e1,hc⟩:=V hg'
    subst e1
    refine⟨rfl,λo U=>?_⟩
    rcases x_.mp U with U | U
    ·
     exact hc o U
    ·
     rw[j_.mp U]
     intro y
     exact PM λD=>hno ⟨y,D⟩,X⟩
   have M:a∈c->b∉c->N [ab x,ab (.str u),ab (.ref p),ab (.bl ag),ab (.str a),ab (.str b)] (fY H3 p (.dct (BD b (T.bl ag) (dF c)))):=λy D=>by
    rw[Vx D]
    refine hN _ _ ⟨c++[b],ag,_,_,rfl,rfl,FU _ t,jR q D,λz I=>?_,(λz=>nomatch z),λ_=>?_⟩
    ·
     rcases x_.mp I with I | I
     ·
      exact j z I
     ·
      rw[j_.mp I]
      exact .step (j a y) C
    ·
     rw[d_,z_]
     cases g' with
     |true=>have:=X rfl;omega
     |false=>obtain⟨e1,_⟩:=V rfl;subst e1;omega
   replace Z:=nW.mk Z
   replace M:=nW.mk M
   clear hN V X v R d k hx S hg hR j Y q hs t e C
   simp only[A9]
   lia
   ac_rfl
   by_cases y:a∈c
   ·
    simp only[y,Fu,if_true]
    by_cases D:b∈c
    ·
     simp only[D,Fu,Fm,u_,W_]
     exact Z.out λz=>z.2 D
    ·
     simp only[D,ED,I0,if_true]
     exact⟨zo,M.out y D⟩
   ·
    simp only[y,ED,u_,W_]
    exact Z.out λz=>y z.1
noncomputable abbrev jc:ξ aw:=["works","task"]
theorem Ea:gV jc jc (aB (zw 3)):=aX
theorem Eb {f:ae} (g:G3 K mg "led_to" (zw 3) jc f m) (B:Bl mg) (c:R7 P w K mg base 1 "reached" (zw 2) ["links","start"] Ww) (b:R7 P w K mg base 1 "links_of" (zw 1) ["works"] Wv):R7 P w K mg base 2 "led_to" (zw 3) jc Wx:=by
 refine c6 g Ea ?_;rintro _ _ _ _ _ _ _ _ _ l ⟨W,t,rfl,j,k⟩;refine⟨_,s!"¬waw`*Q+*/%",?_⟩;walk_at "q";lia;refine⟨W,rfl,j,λq hq=>?_⟩;try dsimp only
 refine⟨_,JJ ["with"] W,t,rfl,.inl ⟨q,rfl,aq⟩,S_ (Bh j) zC,λp kvs i r=>?_⟩;obtain⟨u,i⟩:=cV i;refine My.of (λa o e=>?_) (k p kvs i r);by_cases h:a=p
 .subst h;rw[aq] at e |-;exact e
 rw[aF h] at e |-;rw[aF (bB e hq)];exact e
noncomputable abbrev fG:ξ aw:=["works","task"]
theorem wQ:gV fG fG (aB (zw 4)):=aX
theorem wR {f:ae} (g:G3 K mg "led_from" (zw 4) fG f F) (B:Bl mg) (d:R7 P w K mg base 1 "reached" (zw 2) ["links","start"] Ww) (c:R7 P w K mg base 1 "links_of" (zw 1) ["works"] Wv):R7 P w K mg base 2 "led_from" (zw 4) fG Wz:=by
 refine c6 g wQ ?_;rintro _ A _ s H _ _ H3 _ m ⟨W,t,rfl,D,k⟩;refine⟨_,s!"4{fG}{["one","other"]}2{[]}H`Ħm{["one","other"]}=C{["one","other"]}=ÒM.®U`IE!JQ+ĥ/%",?_⟩;ac_nf;have V:=Bh (ws:=["with"]) D;lia;refine⟨W,rfl,D,λq hq=>?_⟩;try dsimp only
 rw[Ab,aq,oF];walk_at "c";refine ik A9 (JJ ["with"] W) (λA x σ H=>H=fY H3 q (.lst ((JJ ["with"] W).map A9))/\x=(A.map OU).map A9/\∃u y:ζ T,σ=[u,y]) ⟨rfl,rfl,af,af,rfl⟩ ?_ ?_
 .rintro x σ H ⟨rfl,rfl,u,y,rfl⟩;refine⟨.inl aq,by rw[g_,g_];omega,λr m=>?_⟩;obtain⟨n0,C⟩:=cV m;refine⟨_,(JJ ["with"] W).map OU,t,rfl,.inl ⟨r,rfl,aq⟩,by rw[g_];omega,λp kvs l J=>?_⟩;obtain⟨O,l⟩:=cV l;obtain⟨R,l⟩:=cV l;refine My.of (λa o e=>?_) (k p kvs l λz=>(J z).trans VB);by_cases h:a=p
  .subst h;rw[aq] at e |-;exact e
  rw[aF h] at e |-;rw[aF (bB e C),aF (bB e hq)];exact e
 rintro A ⟨a,b⟩ B x σ H N e ⟨rfl,rfl,u,y,rfl⟩ G;have L:A.length<=96:=by have:=U_ a7 e;simp only[d_,n_] at this;omega
 refine⟨.inl aq,?_⟩;have j:=G (((A.map OU).map A9)++[A9 (b,a)]) [ab (.str a),ab (.str b)] _ ⟨rfl,by rw[B_,B_];rfl,_,_,rfl⟩;replace j:=nW.mk j;clear G k e;simp only[A9] at j |-;lia;exact⟨AD,zo,zo,j.out⟩
noncomputable abbrev gm:ξ aw:=["works","found","other"]
theorem zj:gV gm gm (aB (zw 5)):=aX
theorem zm {f:ae} (g:G3 K mg "in_both" (zw 5) gm f n) (B:Bl mg):R7 P w K mg base 1 "in_both" (zw 5) gm VX:=by
 refine c6 g zj ?_;rintro _ _ _ s H _ _ _ _ u ⟨⟨tk,c,A4,row⟩,a,b,j,d,rfl,C,G,J,k⟩;have l:=xr.u1 u;refine⟨_,s!"5{gm}{["task","found","other"]}1{[1,2]}H<V{["task","found","other"]}=Cw<:üw<Aü¢¡Lo<!J&x/%",?_⟩;ac_nf;have L:tk.length<=8:=C.t8;lia;walk_at "c";refine cg AY (λt=>zi t.1) (λt=>(aU t.1 j).isSome&&(aU t.1 d).isSome) tk [ab (.ref a),ab (.ref b)] trivial zo (λt o q hq=>?_) (λt o D q hq=>?_) (λp v=>?_)
 .obtain⟨nm,y,ks⟩:=t;simp only[AY];dsimp only at hq;cases F:(aU nm j).isSome <;> cases r:(aU nm d).isSome <;> simp only[F,r,oi,mM,Fm,I0,Lu,LZ] at hq <;> lia
 .simp only[AY];lia;try exact hq
 lia;refine My.of (eH.new v) ?_;have e:(tk.filter λt=>(aU t.1 j).isSome&&(aU t.1 d).isSome).map (λt=>zi t.1)=((tk.map (·.1)).filter λx=>(aU x j).isSome&&(aU x d).isSome).map zi:=by rw[f_,N_];rfl
 rw[e];exact k
noncomputable abbrev d9:ξ aw:=["works","task"]
theorem wU:gV d9 d9 (aB (zw 7)):=aX
theorem wV {f:ae} (g:G3 K mg "group_of" (zw 7) d9 f v) (B:Bl mg) (c:R7 P w K mg base 1 "in_both" (zw 5) ["works","found","other"] VX) (d:R7 P w K mg base 2 "led_to" (zw 3) d9 Wx) (b:R7 P w K mg base 2 "led_from" (zw 4) d9 Wz):R7 P w K mg base 3 "group_of" (zw 7) d9 WH:=by
 refine c6 g wU ?_;rintro _ _ _ _ _ _ _ _ _ m ⟨W,t,rfl,i,k⟩;refine⟨_,s!"Q-ĥa÷Q-*&+-Ħ/%",?_⟩;walk_at "q";lia;refine⟨W,t,rfl,i,λp u D r=>?_⟩;try dsimp only
 refine⟨W,t,rfl,i,λq y hq l=>?_⟩;obtain⟨C,j⟩:=cV hq;try dsimp only
 refine⟨W,p,q,u,y,rfl,i,by rw[aF (a6 C)];exact aq,aq,?_⟩;refine My.of (λa o e=>by rw[aF (bB e j),aF (bB e D)];exact e) ?_;rw[show (W.tasks.map (·.1)).filter (λx=>(aU x u).isSome&&(aU x y).isSome)=bu W t from ?_]
 .exact k
 unfold bu;refine KW λx F=>?_;rw[CC,F_,@h_ _ (ap _),r x,l x]
noncomputable abbrev cI:ξ aw:=["works","found","other"]
theorem j7:gV cI cI (aB (zw 6)):=aX
theorem j8 {f:ae} (g:G3 K mg "in_first_alone" (zw 6) cI f n) (B:Bl mg):R7 P w K mg base 1 "in_first_alone" (zw 6) cI YN:=by
 refine c6 g j7 ?_;rintro _ _ _ s H _ _ _ _ u ⟨⟨tk,c,A4,row⟩,a,b,j,d,rfl,C,G,J,k⟩;have l:=xr.u1 u;refine⟨_,s!"6{cI}{["task","found","other"]}1{[1,2]}H<V{["task","found","other"]}=Cw<:üw<ŕ¢¡Lo<!J&x/%",?_⟩;ac_nf;have L:tk.length<=8:=C.t8;lia;walk_at "c";refine cg AY (λt=>zi t.1) (λt=>(aU t.1 j).isSome&&!(aU t.1 d).isSome) tk [ab (.ref a),ab (.ref b)] trivial zo (λt o q hq=>?_) (λt o D q hq=>?_) (λp v=>?_)
 .obtain⟨nm,y,ks⟩:=t;simp only[AY];dsimp only at hq;cases F:(aU nm j).isSome <;> cases r:(aU nm d).isSome <;> simp only[F,r,oi,mM,Fm,I0,Lu,LZ] at hq <;> lia
 .simp only[AY];lia;try exact hq
 lia;refine My.of (eH.new v) ?_;have e:(tk.filter λt=>(aU t.1 j).isSome&&!(aU t.1 d).isSome).map (λt=>zi t.1)=((tk.map (·.1)).filter λx=>(aU x j).isSome&&!(aU x d).isSome).map zi:=by rw[f_,N_];rfl
 rw[e];exact k
noncomputable abbrev eN:ξ aw:=["works","task"]
theorem wW:gV eN eN (aB (zw 8)):=aX
theorem wX {f:ae} (g:G3 K mg "ahead_of" (zw 8) eN f v) (B:Bl mg) (b:R7 P w K mg base 1 "in_first_alone" (zw 6) ["works","found","other"] YN) (c:R7 P w K mg base 2 "led_from" (zw 4) eN Wz) (d:R7 P w K mg base 2 "led_to" (zw 3) eN Wx):R7 P w K mg base 3 "ahead_of" (zw 8) eN UY:=by
 refine c6 g wW ?_;rintro _ _ _ _ _ _ _ _ _ m ⟨W,t,rfl,i,k⟩;refine⟨_,s!"a÷Q-ĦQ-ĥ&+-*/%",?_⟩;walk_at "q";lia;refine⟨W,t,rfl,i,λp u D r=>?_⟩;try dsimp only
 refine⟨W,t,rfl,i,λq y hq l=>?_⟩;obtain⟨C,j⟩:=cV hq;try dsimp only
 refine⟨W,p,q,u,y,rfl,i,by rw[aF (a6 C)];exact aq,aq,?_⟩;refine My.of (λa o e=>by rw[aF (bB e j),aF (bB e D)];exact e) ?_;rw[show (W.tasks.map (·.1)).filter (λx=>(aU x u).isSome&&!(aU x y).isSome)=dM W t from ?_]
 .exact k
 unfold dM;refine KW λx F=>?_;rw[CC,F_,@h_ _ (ap _),r x,NO,<- Bool.not_eq_true,l x]
def j9:AM:=λts H Q=>∃(W:Wk) (x:T) (a:ξ aw),ts=[W.enc,x]/\n7 W/\VD H x a/\Q (.int (zt (W.tasks.map (·.1)) a)) H
def Ce:AM:=λts H Q=>∃(W:Wk) (n:Int),ts=[W.enc,.int n]/\n7 W/\0<=n/\n<2^W.tasks.length/\Q (sT (AN (W.tasks.map (·.1)) n)) H
def Rr:AM:=λts H Q=>∃(ks:ξ aw) (k:aw),ts=[sT ks,.str k]/\Q (.bl (sZ ks k)) H
def rA:AM:=λts H Q=>∃a b:Int,ts=[.int a,.int b]/\Q (.bl (decide (a8 a b=b))) H
def Rt:AM:=λts H Q=>∃(W:Wk) (t:aw),ts=[W.enc,.str t]/\n7 W/\∀p,H p=af->Q (.ref p) (fY H p (.lst ((ju W t).map zi)))
def Ru:AM:=λts H Q=>∃W:Wk,ts=[W.enc]/\n7 W/\∀p,H p=af->Q (.ref p) (fY H p (.lst (W.tasks.map (Ct W (W.tasks.map (·.1))))))
def Rv:AM:=λts H Q=>∃(W:Wk) (a:ae) (eG:Int) (kind:aw) (D S:ξ aw),ts=[.ref a,.int eG,.str kind,.int (zt (W.tasks.map (·.1)) D),.int (zt (W.tasks.map (·.1)) S)]/\n7 W/\H a=ab (.lst (W.tasks.map (Ct W (W.tasks.map (·.1)))))/\Q (.bl (qb W eG kind D S)) H
noncomputable abbrev lY:ξ aw:=["works","tasks","number","worth","task"]
theorem Nl:gV lY ["works","tasks"] (aB (zw 14)):=aX
theorem tU {f:ae} (g:G3 K mg "number_of" (zw 14) ["works","tasks"] f n) (B:Bl mg):R7 P w K mg base 1 "number_of" (zw 14) ["works","tasks"] j9:=by
 refine c6 g Nl ?_;rintro q A _ _ H _ _ H3 _ u ⟨⟨tk,b,A4,row⟩,x,c,rfl,r,y,k⟩;have d:=xr.u31 u;refine⟨_,s!"2ð>'3ð>'<V4ð(bµýħ2ðkAD)'%,3ðlD>)'%$?Ñ%$$$",?_⟩
 ac_nf;have D:tk.length<=8:=r.t8;lia;refine aV AY tk (λA σ H=>∃v:ζ T,H=H3/\σ=[ab (zk [zk (tk.map AY),zk (b.map A9),zk (A4.map prT),zk (row.map zi)]),ab x,ab (.int (zt (A.map (·.1)) c)),ab (.int (2^A.length)),v]) ⟨af,rfl,rfl⟩ ?_ ?_
 .rintro σ H ⟨v,rfl,rfl⟩;ac_rfl;lia;exact My.of eH.refl k
 rintro A t B σ H N e ⟨v,rfl,rfl⟩ l;have z:A.length+1<=8:=by have:=U_ a7 e;simp only[d_,n_] at this;omega
 have C:0<(2:Int)^A.length/\(2:Int)^A.length<=256:=by
  have:A.length=0\/A.length=1\/A.length=2\/A.length=3\/A.length=4\/A.length=5\/A.length=6\/A.length=7:=by omega
  rcases this with e | e | e | e | e | e | e | e <;> rw[e] <;> decide
 have m:IX (2^A.length) 2:=.inl ⟨zo,zo⟩;have a:∀v,N [ab (zk [zk (tk.map AY),zk (b.map A9),zk (A4.map prT),zk (row.map zi)]),ab x,ab (.int (zt (A.map (·.1)) c+2^A.length*(if t.1∈c then 1 else 0))),ab (.int (2^A.length*2)),v] H:=λv=>by have:=l [ab (zk [zk (tk.map AY),zk (b.map A9),zk (A4.map prT),zk (row.map zi)]),ab x,ab (.int (zt ((A++[t]).map (·.1)) c)),ab (.int (2^(A++[t]).length)),v] H ⟨v,rfl,rfl⟩;rw[show (2:Int)^(A++[t]).length=2^A.length*2 by rw[d_,z_,Lv],B_,I_,IA,jK,g_] at this;exact this
 replace a:=nW.mk a;obtain⟨nm,p,ks⟩:=t;ac_rfl;clear l e k;simp only[AY,sT];lia;refine Bj y ?_;by_cases o:nm∈c
 .simp only[o,Fu,if_true,u_,W_,dz,sx] at a |-;exact⟨by first | trivial | exact m,a.out _⟩
 simp only[o,ED,if_true,u_,W_,dz,qB,kU] at a |-;exact⟨by first | trivial | exact m,a.out _⟩
noncomputable abbrev dX:ξ aw:=["kinds","kind"]
theorem ph:gV dX dX (aB (zw 10)):=aX
theorem pA {f:ae} (g:G3 K mg "may_be_done" (zw 10) dX f i) (B:Bl mg):R7 P w K mg base 1 "may_be_done" (zw 10) dX Rr:=by
 refine c6 g ph ?_;rintro _ _ _ _ _ _ _ _ _ e ⟨ks,a,rfl,k⟩;have b:=xr.u30 e;have c:=xr.u31 e;refine⟨_,s!"{XC}þ`S>[{cZ}¬µ:B{rfl}#4Ó#2/%",?_⟩;rw[show aP dX [sT ks,zi a]=[ab (zk (ks.map zi)),ab (zi a)] from rfl];have l:pl 20 (zi a)=ag:=rfl;have m:=cT ks;have n:eQ ai (zi a) (ks.map zi)=decide (a∈ks):=by unfold eQ;have:(zi a∈ks.map zi)↔a∈ks:=gR mU;simp only[this];simp
 lia;unfold sZ at k;cases ks with
 |nil=>simp only[Fu,rb,EW,if_true] at k |-;exact My.of eH.refl k
 |cons y r =>
  have:¬(((r.length+1:Nat)):Int)=0:=by omega
  simp only[n_,this,ED,u_,W_] at k |-
  exact⟨AD,AD,My.of eH.refl (by simpa using k)⟩
noncomputable abbrev iw:ξ aw:=["number","part"]
theorem zp:gV iw iw (aB (zw 19)):=aX
theorem zq {f:ae} (g:G3 K mg "has_all" (zw 19) iw f e) (B:Bl mg):R7 P w K mg base 1 "has_all" (zw 19) iw rA:=by refine c6 g zp ?_;rintro _ _ _ _ _ _ _ _ _ j ⟨a,b,rfl,k⟩;have c:=xr.u30 j;refine⟨_,s!"ÿvB:):[/%",?_⟩;walk_at "q";lia;exact My.of eH.refl k
noncomputable abbrev dN:ξ aw:=["works","task"]
theorem qd:gV dN dN (aB (zw 17)):=aX
theorem qe {f:ae} (g:G3 K mg "apart_from" (zw 17) dN f y) (B:Bl mg):R7 P w K mg base 1 "apart_from" (zw 17) dN Rt:=by
 refine c6 g qd ?_;rintro _ A q s H _ _ H3 _ F ⟨⟨tk,j,A4,row⟩,t,rfl,L,k⟩;have c:=xr.u30 F;refine⟨_,s!"{17}{dN}{["word","one","other","task"]}3{[1]}H<V{["word","one","other","task"]}=C{["word","one","other","task"]}=Ò{["word","one","other","task"]}=ĨM..°ÿBËOÿ:DO¢¡LoA!J/%",?_⟩;ac_nf;have C:A4.length<=12:=L.ps;lia;walk_at "c";refine ik prT A4 (λA r σ H=>H=H3/\r=((A.filter λp=>decide (p.1=("apart":aw))&&decide (p.2.1=t)).map (·.2.2)).map zi/\∃o u m:ζ T,σ=[o,u,m,ab (.str t)]) ⟨rfl,rfl,af,af,af,rfl⟩ ?_ ?_
 .rintro r σ H ⟨rfl,rfl,o,u,m,rfl⟩;refine⟨AD,?_,λp G=>My.of eH.refl (k p G)⟩;rw[g_,g_];exact S_ (E6 _ _) zo
 rintro A ⟨w,a,b⟩ B r σ H N e ⟨rfl,rfl,o,u,m,rfl⟩ v;have D:A.length<=12:=by have:=U_ a7 e;simp only[d_,n_] at this;omega
 have U:((A.filter λp=>decide (p.1=("apart":aw))&&decide (p.2.1=t)).map (·.2.2)).length<=12:=by rw[g_];exact S_ (E6 _ _) D
 ac_rfl;have I:nW (w="apart"/\a=t->N (((A.filter λp=>decide (p.1=("apart":aw))&&decide (p.2.1=t)).map (·.2.2)).map zi++[zi b]) [ab (.str w),ab (.str a),ab (.str b),ab (.str t)] H):=⟨λh=>v _ _ _ ⟨rfl,by rw[LH];simp [h],_,_,_,rfl⟩⟩;have x:nW (¬(w="apart"/\a=t)->N (((A.filter λp=>decide (p.1=("apart":aw))&&decide (p.2.1=t)).map (·.2.2)).map zi) [ab (.str w),ab (.str a),ab (.str b),ab (.str t)] H):=⟨λh=>v _ _ _ ⟨rfl,by rw[LH];simp [h],_,_,_,rfl⟩⟩;generalize ((A.filter λp=>decide (p.1=("apart":aw))&&decide (p.2.1=t)).map (·.2.2))=M at *;clear v k e;simp only[prT];lia;ac_rfl;by_cases d:w="apart"
 .simp only[d,Fu,if_true];by_cases l:a=t
  .simp only[l,Fu,if_true];have:=I.out ⟨d,l⟩;rw[d,l] at this;exact⟨zo,this⟩
  simp only[l,ED,u_,W_];have:=x.out λz=>l z.2;rw[d] at this;exact this
 simp only[d,ED,u_,W_];exact x.out λz=>d z.1
noncomputable abbrev tV:ξ aw:=[AK,BO,DM,F0]
theorem XB:gV tV [AK,BO,DM] (aB (zw 69)):=aX
theorem JP {f:ae} (g:G3 K mg "_law_right" (zw 69) [AK,BO,DM] f X) (B:Bl mg) (d:R7 P w K mg base 8 "paper_for" (zw 41) ["works","beat","many"] (Q9 Pt o6 mD)) (j:R7 P w K mg base 7 "dealing_to" (zw 27) ["works","beat","many"] VM) (e:R7 P w K mg base 3 "_law_is_paper" (zw 68) [AK,F0] Ro) (k:R7 P w K mg base 8 "is_paper" (zw 37) ["works","beat","many","paper"] ZR) (m:R7 P w K mg base 4 "_law_judged" (zw 65) tV (WB P w)):R7 P w K mg base 9 "_law_right" (zw 69) [AK,BO,DM] (Rp Pt o6 mD):=by
 refine c6 g XB ?_;rintro _ _ _ s _ _ _ H3 _ t ⟨W,eG,many,rfl,F,o,J,r,x,V⟩;have G:=xr.u30 t;refine⟨_,s!"3{XB.nd}bºWI-*'{G}±bºWI-*DOF%,{HS}«ºWI-*ţO{YM}Dţ[/%,ÍºX-*GN{IV}³ºXiI-*ŉOd]LF%,÷ºXiI-*/%$$$$",?_⟩
 ac_nf;have U:=nW.mk V;clear V;have r8:W.row.length<=8:=F.r8;have M:(cU (zv W - 1) (BY W eG many)).isSome=ag↔wJ W eG many:=tK F r;have N:∃v,O0 W eG many=v/\(v=.non/\(cU (zv W - 1) (BY W eG many)).isSome=ag\/∃p:ξ BC,v=.tup (p.map (AW W))/\(cU (zv W - 1) (BY W eG many)).isSome=ai/\(∀c∈p,FG W c/\NL c.2.2)/\p.length<=4096/\(p.map BM).Pairwise (λa b=>C5 a b=ag)/\LN W eG many p=ag):=L' F r J;obtain⟨v,L,Z⟩:=N;have l:=nW.mk F;clear F M;right;refine⟨W,eG,many,rfl,l.out,o,J,r,x,?_⟩;rw[L];try dsimp only
 left;rcases Z with ⟨rfl,u⟩ | ⟨p,rfl,u,y,Y,C,D⟩
 .refine aA λR1 R=>?_;lia;refine⟨W,eG,many,rfl,l.out,o,J,r,x,?_⟩;rw[L];try dsimp only
  refine (λ(q:∀S:AC,S (.bl ai) H3->rQ ag .non .non H3 S)=>q _ ?_) λ_ h=>h;rw[dz,zD zC];left;lia;refine⟨W,eG,many,rfl,l.out,r,?_⟩;unfold Pi;cases I:cU (zv W - 1) (BY W eG many) with
  |none=>rw[I] at u;cases u
  |some v =>
  clear u I;lia;exact My.of eH.refl U.out
 have n:=nW.mk y;have z:=nW.mk C;clear y C;right;refine⟨W,eG,many,rfl,l.out,o,J,r,x,?_⟩;rw[L];try dsimp only
 rw[z8];refine⟨Rj,Rj,?_⟩;rw[z3 rfl,p_ rfl,dz,zD zC];left;lia;refine⟨W,eG,many,rfl,l.out,r,?_⟩;unfold Pi;cases I:cU (zv W - 1) (BY W eG many) with
 |some v=>rw[I] at u;cases u
 |none =>
 clear u I L;lia;refine⟨W,p,rfl,l.out,n.out,?_⟩;try dsimp only
 rw[dz];simp only[Fm,u_,W_];refine⟨W,eG,many,p,rfl,l.out,r,n.out,Y,D,?_⟩;try dsimp only
 try lia
 refine⟨W,eG,many,p,rfl,l.out,o,r,n.out,Y,z.out,D,?_⟩;exact My.of eH.refl U.out
noncomputable abbrev kh:ξ aw:=[AK,BO,DM,F0,BU,Ch,"_law_spots",Iq,"_law_spot",HZ]
theorem LL:gV kh [AK,BO,DM,F0] (aB (zw 65)):=aX
theorem Ec {f:ae} (g:G3 K mg "_law_judged" (zw 65) [AK,BO,DM,F0] f fd) (B:Bl mg) (r:R7 P w K mg base 1 MQ (zw 58) [Ch,B7] Ow) (J:R7 P w K mg base 3 "_law_plan" (zw 57) [AK] Z6) (b:R7 P w K mg base 1 "_law_is_done" (zw 63) [BU,BS] Rk) (x:R7 P w K mg base 3 "_law_holds" (zw 64) [AK,BU,BO,DM,HZ,Iq] (Rm P w)):R7 P w K mg base 4 "_law_judged" (zw 65) [AK,BO,DM,F0] (WB P w):=by
 refine c6 g LL ?_;rintro _ A _ s H _ _ H3 _ hr ⟨W,eG,many,a,rfl,hW,h64,hmr,hcs,cl,hup,z,kk⟩;have u:=xr.u30 hr;refine⟨_,s!"4É{J}§`*'5ÉŤť{[EU]}1{[]}H<V{[EU]}=CU<!J'6ÉŤť{[HZ,Ch]}1{[5]}Hĩ{[HZ,Ch]}=CU<<&IĀ&+E!»7ÉŖ'^m8É(Îfgŗ%?ÎR~EfŘÎ±^{Nk}§#1łŊ¼¶Od]LF%,{Nq}{rfl}{B.zip_}Xā#38É(9É(M.®ÄřNa§Ä&h*GNd]LF%,{x}§¼ĂiIh-*GNF%,%$?F%$$$$$$$",?_⟩
 ac_nf;have k':=nW.mk kk;clear kk;have t8:=hW.t8;have nl:(nm W).length=W.tasks.length:=d8 W;have en:nW (∀m,m<zv W->zt (nm W) (pk W m)=(m:Int)):=⟨λm hm=>by rw[bO,cW hW hm]⟩;unfold LN at z;rw[F_,F_,V_,h_] at z;have h00:=z.1;have hall:=nW.mk z.2.2;have Y:=nW.mk hW;have L:=nW.mk hcs;have O:=nW.mk hup;clear hW hcs hup z;right;refine⟨W,rfl,Y.out,λH4 pp sb4 gl4=>?_⟩;try dsimp only
 left;right;walk_at "c";refine bA AY (λt=>zi t.1) W.tasks [] trivial zo ?c1 ?c2
 case c1 =>
  intro t ht Q' hq
  clear k'
  simp only[AY]
  lia
  try exact hq
 intro D X;have e1:W.tasks.map (λt=>zi t.1)=(nm W).map zi:=by unfold nm;rw[N_];rfl
 rw[e1];have sb5:eH H3 (fY H4 D (.lst ((nm W).map zi))):=sb4.trans (eH.new X);have Z:fY H4 D (.lst ((nm W).map zi)) D=ab (.lst ((nm W).map zi)):=aq;have gl5:=(eH.new (o:=.lst ((nm W).map zi)) X) _ _ gl4;generalize fY H4 D (.lst ((nm W).map zi))=H5 at sb5 Z gl5 |-;clear e1 X gl4 sb4;left;right;walk_at "c";refine bA (AW W) AZ a [ab (.ref D)] trivial zo (λc hc Q' hq=>?_) (λF hpz=>?_)
 .have C:=(L.out c hc).1.1;have hq':=nW.mk hq;clear hq k';simp only[AW];lia;refine⟨D,_,nm W,pk W c.2.1,rfl,Z,zo,.inl rfl,?_⟩;rw[en.out _ C];exact⟨zC,hq'.out⟩
 have sb6:eH H3 (fY H5 F (.lst (a.map AZ))):=sb5.trans (eH.new hpz);have j:fY H5 F (.lst (a.map AZ)) F=ab (.lst (a.map AZ)):=aq;have gl6:=(eH.new (o:=.lst (a.map AZ)) hpz) _ _ gl5;generalize fY H5 F (.lst (a.map AZ))=H6 at sb6 j gl6 |-;clear hpz gl5 Z sb5 en;left;right;intro y hpd;have G:eH H6 (fY H6 y (.dtk P w [])):=eH.new hpd;have S:fY H6 y (.dtk P w []) y=ab (.dtk P w []):=aq;have gz7:=G _ _ j;generalize fY H6 y (.dtk P w [])=H7 at G S gz7 |-;left;refine aA λR4 hR4=>?_;lia;refine aV AZ a (λA σ H=>∃(d l:ζ T) (kvs:ξ (TK × T)),σ=[ab W.enc,ab (.int eG),ab (.int (many:Int)),ab (.tup (a.map (AW W))),ab (.ref pp),ab (.ref D),ab (.ref F),ab (.ref y),d,l]/\eH H6 H/\H y=ab (.dtk P w kvs)/\kvs.map (·.1)=A.map Kj) ⟨_,_,_,rfl,G,S,rfl⟩ ?_ ?_;rotate_left
 .rintro A c B σ H N e ⟨d,l,kvs,rfl,M,gd,U⟩ hN;refine⟨.inl (M _ _ j),?_⟩;have hn:=Oz (e▸O.out);have kl:kvs.length<=4096:=by have h1:=U_ a7 U;have h2:=U_ a7 e;rw[g_,g_] at h1;rw[d_,n_] at h2;omega
  have q:=(wK (k:=Kj c) (v:=.bl ag) (kvs:=kvs)).2 (by rw[U];exact hn);have V:nW (∀d H',eH H6 H'->H' y=ab (.dtk P w (jY (Kj c) (.bl ag) kvs))->N [ab W.enc,ab (.int eG),ab (.int (many:Int)),ab (.tup (a.map (AW W))),ab (.ref pp),ab (.ref D),ab (.ref F),ab (.ref y),d,l] H'):=⟨λd H' h1 h2=>hN _ _ ⟨d,l,_,rfl,h1,h2,by rw[q,U,B_];rfl⟩⟩;clear hN e hR4 k' q hn U;simp only[AZ];lia;exact⟨zo,V.out _ _ (jb M hpd) aq⟩
 rintro σ H ⟨d,l,kvs,rfl,M,gd,U⟩;refine⟨.inl (M _ _ j),?_⟩;have gz:=M _ _ j;have gl:=M _ _ gl6;have sb0:=sb6.trans M;clear gz7 G S j gl6 M hpd sb6;left;have hkv:=Wl U;have h0:=hkv 0 0;rw[p_ h00] at h0;have h0':(dD [.inl (0:Int),.inl (0:Int)] kvs).isSome=ag:=h0;right;refine⟨zC,a.map λc=>((c.1:Int),(c.2.1:Int)),t?.symm,Z! O.out,λp hp=>?_⟩;rw[l'];have np:F≠p:=bB gz hp;have s1:eH H (fY H p (.lst (a.map AZ))):=eH.new hp;have I:=s1 _ _ gz;have R:=s1 _ _ gl;have gd1:=s1 _ _ gd;have sb2:=sb0.trans s1;generalize fY H p (.lst (a.map AZ))=H8 at s1 I R gd1 sb2 |-;rw[I,oE];refine⟨np,YE,YE,?_⟩;rw[z3 rfl,p_ rfl,dz,zD zC];clear gz gl gd sb0 s1 U h0 h0' hp np;left;refine aA λR6 hR6=>?_;lia;rw[wN];refine aV (λc=>zk [AZ c,AW W c]) a (λA σ H=>∃(d l:ζ T),σ=[ab W.enc,ab (.int eG),ab (.int (many:Int)),ab (.tup (a.map (AW W))),ab (.ref pp),ab (.ref D),ab (.ref F),ab (.ref y),d,l]/\H=H8) ⟨_,_,rfl,rfl⟩ ?_ ?_
 .rintro σ H ⟨d,l,rfl,rfl⟩;refine⟨.inl I,?_⟩;left;lia;exact My.of sb2 k'.out
 rintro A c B σ H N e ⟨d,l,rfl,rfl⟩ hN;refine⟨.inl I,?_⟩;have hc:c∈a:=by rw[e];simp
 obtain⟨C,hnl⟩:=L.out c hc;have hb:=hall.out c hc;unfold RA at hb;rw[F_,F_,h_,tL] at hb;obtain⟨hb1,hb2,hb3⟩:=hb;have hb2':=nW.mk hb2;have hb3':=nW.mk hb3;have V:nW (∀d l,N [ab W.enc,ab (.int eG),ab (.int (many:Int)),ab (.tup (a.map (AW W))),ab (.ref pp),ab (.ref D),ab (.ref F),ab (.ref y),d,l] H):=⟨λd l=>hN _ _ ⟨d,l,rfl,rfl⟩⟩;have hkv':=nW.mk hkv;clear hN e hR6 k' hb2 hb3 hkv;simp only[AZ,AW];lia;ac_rfl;rw[z3 (p_ (KU _)),zD (by rw[p_ (show (c.1:Int)<=(many:Int) by omega)];decide)];refine⟨W,pp,c.2.1,rfl,Y.out,R,C.1,hb2'.out,?_⟩;try dsimp only
 rw[dz,zD zC];refine⟨W,pp,y,eG,many,c.1,c.2.1,c.2.2,a.map BM,kvs,rfl,Y.out,h64,R,gd1,hkv'.out,C.1,hb1,hmr,C.2,hnl,hb3'.out,?_⟩;try dsimp only
 rw[dz,zD zC];exact V.out _ _
noncomputable abbrev jq:ξ aw:=[AK,BU,BO,DM,HZ,Iq,D8,FO,"_law_reason",Ch,BS,"_law_left","_law_other","_law_behind"]
theorem JA:gV jq [AK,BU,BO,DM,HZ,Iq] (aB (zw 64)):=aX
theorem JQ {f:ae} (g:G3 K mg "_law_holds" (zw 64) [AK,BU,BO,DM,HZ,Iq] f fd) (B:Bl mg) (b:R7 P w K mg base 1 MQ (zw 58) [Ch,B7] Ow) (v:R7 P w K mg base 1 "_law_load" (zw 62) [BU,BS] Ri) (c:R7 P w K mg base 2 "_law_greatest" (zw 61) [BU,BO,F7,FO] Z8) (l:R7 P w K mg base 1 "_law_tasks" (zw 59) [AK,BS] Rh):R7 P w K mg base 3 "_law_holds" (zw 64) [AK,BU,BO,DM,HZ,Iq] (Rm P w):=by
 refine c6 g JA ?_;rintro _ _ _ s H _ _ H3 _ M ⟨W,p,q,eG,many,s,m,r,ks,kvs,rfl,y,h64,hp,hq,V,hm,hsm,hmr,D,nlr,S,kk⟩;have a:=xr.u30 M;refine⟨_,s!"@6¾(7¾(8¾(M..°â9¾{[EU]}{[]}ă<V{[EU]}=CU<!»Â¾aá¼Ă*'Ì¾őáÞõ>QS)ĄY)&I*'æÄ·æÄe[ŋelAÞD^))[ÓÔ/%,æÄ·ß¾aáÄ&Ă*'²&āEŸæv²Y)Y[ą²Y[ÓÔÔ/%$,{Qe}^DOF%,Ō¾{[B7,BS]}{[10]}ă¬á<^KY&+iI*m{[B7,BS]}=CUk:B)!»ąÄ{[B7,AK]}{[0]}ăçm{[B7,AK]}=CUwá`I*!J&xOF%,æ{[B7,Iq,D8]}{[5,6]}ăçm{[B7,Iq,D8]}=CøkA>)`+E:ŘoB!JZ[/%$$$$$$$$$",?_⟩
 ac_nf;have O:=nW.mk kk;clear kk;have t8:=y.t8;have tp:=dj W;have tl:=gU y;have r8:=y.r8;have pll:(GU W).length=W.tasks.length:=g_ _;have nl:(nm W).length=W.tasks.length:=d8 W;have en:zt (nm W) (pk W m)=(m:Int):=by rw[bO,cW y hm]
 have U:=nW.mk V;have z:=nW.mk S;clear V S;simp only[AW];right;left;ac_rfl;right;walk_at "c";refine bA AY (λt=>zi t.1) W.tasks [] trivial zo ?c1 ?c2
 case c1 =>
  intro t ht Q' hq
  clear O
  simp only[AY]
  lia
  try exact hq
 intro pn Z;have e1:W.tasks.map (λt=>zi t.1)=(nm W).map zi:=by unfold nm;rw[N_];rfl
 rw[e1];have d:eH H3 (fY H3 pn (.lst ((nm W).map zi))):=eH.new Z;have L:fY H3 pn (.lst ((nm W).map zi)) pn=ab (.lst ((nm W).map zi)):=aq;generalize fY H3 pn (.lst ((nm W).map zi))=H4 at d L |-;have gp:=d _ _ hp;have gk:=d _ _ hq;clear e1 Z hp hq;left;right;refine⟨pn,_,nm W,pk W m,rfl,L,zo,.inl rfl,?_⟩;rw[en];try dsimp only
 left;right;have hsh:(1:Int)*2^W.tasks.length - 1 - (m:Int)=((zv W - 1 - m:Nat):Int):=by
  rw[js];have:((zv W:Nat):Int)=2^W.tasks.length:=by unfold zv;push_cast;rfl
  rw[<- this];omega
 rw[hsh];refine⟨⟨zo,zo,zC⟩,W,p,zv W - 1 - m,rfl,y,gp,zo,?_⟩;have Y:cX W.tasks (pk W (zv W - 1 - m))=D4 W m:=rfl;rw[Y];clear hsh Y en;try dsimp only
 left;have cm:IX eG ((many:Int) - (s:Int)):=.inr ⟨zo,zo⟩;cases r with
 |less o=>exact nlr.elim
 |left n=>simp only[EX];have u:(decide (n=D4 W m)&&decide (eG*((many:Int) - s)<n))=ag:=z.out;rw[F_,h_,h_] at u;obtain⟨rfl,h2⟩:=u;lia;exact⟨AD,My.of d O.out⟩
 |ways os =>
 simp only[EX];have u:(decide (s<many)&&(decide (os=DB W eG s m)&&os.all λo=>decide ((s+1,o)∈ks)))=ag:=z.out;rw[F_,F_,h_,h_,V_] at u;obtain⟨h1,rfl,h3⟩:=u;have x0:=Jk (row:=W.row) (k:=s) zo;lia;rw[zD AQ,zD AQ,zD (by rw[q_ zo];decide)];refine⟨W,p,eG,s,m,rfl,y,h64,gp,hm,λH6 q2 J gq=>?_⟩;try dsimp only
 rw[Ab,gq,oF];walk_at "c";have gl:=mZ (eG:=eG) (s:=s) (m:=m) y;have hlt:∀o∈DB W eG s m,o<zv W:=D.1;have bl:(DB W eG s m).length<=256:=D.2;have gk6:=J _ _ gk;clear z gk gp x0 cm L D;refine bA aW (λf=>aW (m+f)) (Bz W eG s m) [ab (.int (m:Int))] (.inl gq) zo (λf hf Q' hq=>?_) (λR G=>?_)
 .have j:=nW.mk hq;clear hq O;simp only[aW];lia;have e:(m:Int)+(f:Int)=((m+f:Nat):Int):=zo
  first | exact j.out | (rw[e];exact j.out)
 have e:(Bz W eG s m).map (λf=>aW (m+f))=(DB W eG s m).map aW:=by unfold DB;rw[N_];rfl
 rw[e];generalize DB W eG s m=os at *;have ps:(os.map (AS W)).all (pl 20)=ag:=by rw[show os.map (AS W)=(os.map (pk W)).map sT by rw[N_];rfl];exact Jg _
 have g7:fY H6 R (.lst (os.map aW)) R=ab (.lst (os.map aW)):=aq;have C:eH H3 (fY H6 R (.lst (os.map aW))):=(d.trans J).trans (eH.new G);have I:=(eH.new (o:=.lst (os.map aW)) G) _ _ gk6;generalize fY H6 R (.lst (os.map aW))=H7 at g7 C I |-;clear e gl gk6 G gq J d;walk_at "c";refine bA aW (AS W) os [ab W.enc] (.inl g7) zo (λo ho Q' hq=>?_) (λp3 x=>?_)
 .have j:=nW.mk hq;clear hq O;simp only[aW];lia;exact⟨W,o,rfl,y,hlt o ho,j.out⟩
 refine⟨ps,ps,?_⟩;rw[p_ rfl,zD zC];have g8:fY H7 p3 (.lst (os.map (AS W))) R=_ := IH g7 x;have gk8:=(eH.new (o:=.lst (os.map (AS W))) x) _ _ I;have X:=C.trans (eH.new (o:=.lst (os.map (AS W))) x);generalize fY H7 p3 (.lst (os.map (AS W)))=H8 at g8 gk8 X |-;clear g7 I C x ps;rw[g8,oF];walk_at "c";refine cg aW aW (λ_=>ai) os [ab (.ref q),ab (.int (s:Int))] (.inl g8) zo (λo ho Q' hq=>?_) (λo ho hpo Q' hq=>?_) (λp4 hp4=>⟨zC,λp5 F=>?_⟩)
 .have j:=nW.mk hq;have hl:=U.out (s+1) o;rw[h3 o ho] at hl;rw[show (((s+1:Nat)):Int)=(s:Int)+1 by omega] at hl;clear hq O;simp only[aW];lia;exact⟨zC,j.out⟩
 .cases hpo
 have n12:p4≠p5:=bB aq F;rw[show os.filter (λ_=>ai)=[] from LP.mpr λ_ _=>by simp] at F |-;rw[aF n12,aq,oE];refine⟨n12,rfl,rfl,?_⟩;exact My.of (X.trans ((eH.new hp4).trans (eH.new F))) O.out
noncomputable abbrev lZ:ξ aw:=[BU,BS,"_law_bit","_law_own","_law_ahead","_law_foes","_law_length","_law_kinds"]
theorem L6:gV lZ [BU,BS] (aB (zw 63)):=aX
theorem tW {f:ae} (g:G3 K mg "_law_is_done" (zw 63) [BU,BS] f I) (B:Bl mg):R7 P w K mg base 1 "_law_is_done" (zw 63) [BU,BS] Rk:=by
 refine c6 g L6 ?_;rintro _ A _ _ H _ _ H3 _ O ⟨W,p,m,rfl,y,D,z,F,G⟩;have a:=xr.u30 O;refine⟨_,s!"Õ2Ü(3Ü(4Ü(5Ü(6Ü(7Ü(M.....Ćv:A)ćąvD:)DOąv@:)@Od]L¢¡LF%,%?F%$",?_⟩
 ac_nf;have C:=nW.mk G;clear G;refine aA λY u=>?_;have S:(GU W).length=W.tasks.length:=g_ _;have o:=nW.mk F;clear F;lia;refine aV (Fa W) W.tasks (λA σ H=>Jx6 λd v3 l k j b=>σ=[ab (.ref p),ab (.int (m:Int)),d,v3,l,k,j,b]/\H=H3) ⟨_,_,_,_,_,_,rfl,rfl⟩ ?_ ?_
 .rintro σ H ⟨d,v3,l,k,j,b,rfl,rfl⟩;refine⟨.inl D,?_⟩;left;lia;exact My.of eH.refl C.out
 rintro A t B σ H N e ⟨d,v3,l,k,j,b,rfl,rfl⟩ J;refine⟨.inl D,?_⟩;have L:t∈W.tasks:=by rw[e];simp
 have q:nW (∀d v3 l k j b,N [ab (.ref p),ab (.int (m:Int)),d,v3,l,k,j,b] H):=⟨λd v3 l k j b=>J _ H ⟨d,v3,l,k,j,b,rfl,rfl⟩⟩;have X:=yZ y z L;have V:=za (A:=bu W t.1) y z λx c=>(L_.mp c).1;have Z:=za (A:=dM W t.1) y z λx c=>(L_.mp c).1;clear J e u C;simp only[Fa,sT];lia;ac_rfl;by_cases r:t.1∈pk W m
 .have M:∀x∈bu W t.1,x∈pk W m:=λx c=>o.out _ r x (.inl c);have U:∀x∈dM W t.1,x∈pk W m:=λx c=>o.out _ r x (.inr c);rw[z3 (p_ r),zD (by rw[p_ M];decide),zD (by rw[p_ U];decide)];exact q.out _ _ _ _ _ _
 rw[zD (by rw[q_ r];decide)];exact q.out _ _ _ _ _ _
noncomputable abbrev dJ:ξ aw:=[AK,"_law_thing"]
theorem tX:gV dJ dJ (aB (zw 66)):=aX
theorem tY {f:ae} (g:G3 K mg NN (zw 66) dJ f C) (B:Bl mg):R7 P w K mg base 1 NN (zw 66) dJ JH:=by
 refine c6 g tX ?_;rintro _ _ q s H _ _ H3 _ y ⟨W,m,rfl,u,Y,z⟩;have c:=xr.u30 y;have j:=xr.u31 y;refine⟨_,s!"è&I¸GN¬±Ŧŧ{[GW]}1{[]}HĪ{[GW]}=CŝŨĈ&-¸GNoB!JZOd]LF%,ÿŦŧ{[EU,"_law_thing"]}1{[1]}H<V{[EU,"_law_thing"]}=C«µ<ħo<!JQĢ[/%$",?_⟩
 ac_nf;have n:=nW.mk z;clear z;have R:=u.t8;have h8:(pk W m).length<=8:=S_ (mY _ _) (by rw[d8];exact R);have o:(nm W).filter (λx=>decide (x∈pk W m))=pk W m:=by have:=Jl u (pk W m);rw[cW u Y] at this;exact this.symm
 simp only[AS,sT] at *;right;walk_at "c";refine cg zi zi (λ_=>ai) (pk W m) [] trivial zo (λx J p hq=>?_) (λx J L p hq=>?_) (λp1 k=>⟨zC,λr b=>?_⟩)
 .have a:=nW.mk hq;clear hq n;lia;exact a.out
 .cases L
 have d:p1≠r:=bB aq b;rw[show (pk W m).filter (λ_=>ai)=[] from LP.mpr λ_ _=>by simp] at b |-;rw[aF d,aq,oE];have D:eH H3 (fY (fY H3 p1 (.lst (([]:ξ aw).map zi))) r (.lst [])):=(eH.new k).trans (eH.new b);refine⟨d,rfl,rfl,?_⟩;generalize fY (fY H3 p1 (.lst (([]:ξ aw).map zi))) r (.lst [])=H4 at D |-;rw[dz,zD zC];clear k b d;left;lia;walk_at "c";refine cg AY (λt=>zi t.1) (λt=>decide (t.1∈pk W m)) W.tasks [ab (.tup ((pk W m).map zi))] trivial zo (λt G p hq=>?_) (λt G X p hq=>?_) (λI v=>?_)
 .have a:=nW.mk hq;have ps:=cT (pk W m);clear hq n;simp only[AY];lia;rw[BP];exact⟨rfl,AD,a.out⟩
 .have a:=nW.mk hq;clear hq n;simp only[AY];lia;exact a.out
 have Z:(W.tasks.filter λt=>decide (t.1∈pk W m)).map (λt=>zi t.1)=(pk W m).map zi:=by refine Eq.trans ?_ (U_ (e6 zi) o);unfold nm;rw[f_,N_];rfl
 rw[Z];intro F e;have l:I≠F:=bB aq e;have ps:=cT (pk W m);rw[aF l,aq,oE];refine⟨l,ps,ps,?_⟩;rw[p_ rfl];exact My.of (D.trans ((eH.new v).trans (eH.new e))) n.out
noncomputable abbrev dq:ξ aw:=[AK,"_law_reason"]
theorem pB:gV dq dq (aB (zw 67)):=aX
theorem pC {f:ae} (g:G3 K mg "_law_is_reason" (zw 67) dq f x) (B:Bl mg) (a:R7 P w K mg base 1 NN (zw 66) [AK,"_law_thing"] JH) (c:R7 P w K mg base 1 "_law_whole" (zw 54) [KP] Wm):R7 P w K mg base 2 "_law_is_reason" (zw 67) dq Rn:=by
 refine c6 g pB ?_;rintro _ _ _ s H _ _ H3 _ k ⟨W,r,rfl,D,j,F,v⟩;have b:=xr.u30 k;refine⟨_,s!"è&I¸GNa±QSpcŝŨĈ&+¸GNd]]LF%,þc·¬³c&*/%,þc·ø³c&-*/%,a±c·cè&+¸GNd]LF%,þ{67}{dq}{[B7,AK]}1{[0]}HcV{[B7,AK]}=Cø³`I*GNoB!JZ[/%$$$$",?_⟩
 ac_nf;have l:=nW.mk v;clear v;cases r with
 |less o=>exact F.elim
 |left n=>simp only[EX];lia;exact⟨n,rfl,My.of eH.refl l.out⟩
 |ways os =>
 simp only[EX];lia;rw[zD AQ,zD AQ];walk_at "c";have J:=j.2;refine cg (AS W) (AS W) (λ_=>ai) os [ab W.enc] trivial zo (λo t y hq=>?_) (λo t z y hq=>?_) (λp1 q=>⟨zC,λu d=>?_⟩)
 .have m:=nW.mk hq;clear hq l;lia;exact⟨W,o,rfl,D,j.1 o t,m.out⟩
 .cases z
 have e:p1≠u:=bB aq d;rw[show os.filter (λ_=>ai)=[] from LP.mpr λ_ _=>by simp] at d |-;rw[aF e,aq,oE];have G:eH H3 (fY (fY H3 p1 (.lst (([]:ξ Nat).map (AS W)))) u (.lst [])):=(eH.new q).trans (eH.new d);refine⟨e,rfl,rfl,?_⟩;exact My.of G l.out
noncomputable abbrev kj:ξ aw:=[AK,F0,HZ]
theorem XU:gV kj [AK,F0] (aB (zw 68)):=aX
theorem qg {f:ae} (g:G3 K mg "_law_is_paper" (zw 68) [AK,F0] f y) (B:Bl mg) (b:R7 P w K mg base 1 NN (zw 66) [AK,"_law_thing"] JH) (a:R7 P w K mg base 2 "_law_is_reason" (zw 67) [AK,"_law_reason"] Rn) (c:R7 P w K mg base 1 "_law_whole" (zw 54) [KP] Wm):R7 P w K mg base 3 "_law_is_paper" (zw 68) [AK,F0] Ro:=by
 refine c6 g XU ?_;rintro _ A q s H _ _ H3 _ o ⟨W,j,rfl,v,k,x⟩;have l:=xr.u30 o;refine⟨_,s!"è&I¸GNF%,Ī2{XU.nd}(è&i¸GNw±WSp¬Ğī&*GNd]]LF%,ī&-ġGNøĞī&-*GNd]LF%,%$?F%$$",?_⟩
 ac_nf;have u:=nW.mk x;clear x;have n:=nW.mk k;clear k;right;try dsimp only
 left;refine aA λL t=>?_;lia;refine aV (AW W) j (λA σ H=>∃d:ζ T,σ=[ab W.enc,ab (.tup (j.map (AW W))),d]/\H=H3) ⟨_,rfl,rfl⟩ ?_ ?_
 .rintro σ H ⟨d,rfl,rfl⟩;ac_rfl;left;lia;exact My.of eH.refl u.out
 rintro A ⟨s,m,r⟩ B σ H N e ⟨d,rfl,rfl⟩ C;ac_rfl;obtain⟨z,I⟩:=n.out (s,m,r) (by rw[e];simp);have p:nW (∀d,N [ab W.enc,ab (.tup (j.map (AW W))),d] H):=⟨λd=>C _ H ⟨d,rfl,rfl⟩⟩;clear C e t u;simp only[AW];right;refine⟨_,rfl,?_⟩;try dsimp only
 try lia
 left;lia;refine⟨W,m,rfl,v,z.1,?_⟩;try dsimp only
 rw[dz];rw[zD zC];refine⟨W,r,rfl,v,z.2,I,?_⟩;try dsimp only
 rw[dz];rw[zD zC];exact p.out _
noncomputable abbrev km:ξ aw:=[KP]
theorem JR:gV km km (aB (zw 54)):=aX
theorem JS {f:ae} (g:G3 K mg "_law_whole" (zw 54) km f b) (B:Bl mg):R7 P w K mg base 1 "_law_whole" (zw 54) km Wm:=by refine c6 g JR ?_;rintro _ _ _ _ _ _ _ _ _ _ ⟨i,rfl,d⟩;refine⟨_,s!"ŃōĈ&-¸{Tv}{B.bool_}{Ls}Ĉ&-¸#1ÓÔ/%",?_⟩;walk_at "q";lia;exact My.of eH.refl d
theorem s? {P:bb}{w:bg} (i:Nat) {x:aw}{b a g:gE}{k v:Expr}{tk c:AF} (m:X.prog=P) (l:X.w=w) (d:X.A.units+30<br) (j:X.N.Nodup) (h:AA X k tk) (f:AA X v c) (o:X.N[i]?=ab x) (n:HG X.env.scope x) (e:X.fn x=ag\/X.env.scope.names.lookup x=ab .local):EV X (.Assign [.Name x a] (.Dict [ab k] [v] g) b) (uP (sV P w tk c) (iG i)):=aD _ j (Dv m l d h f) o n rfl e
noncomputable abbrev mj:ξ aw:=["works","beat","many","walk","paper","dones","stands","cases"]
theorem Mn:gV mj ["works","beat","many"] (aB (zw 41)):=aX
theorem tZ {f:ae} (g:G3 K mg "paper_for" (zw 41) ["works","beat","many"] f fd) (B:Bl mg) (I_Walk:C7 K n ["works","beat","rules","whole"]) (I:Pw P w K mg base n 5 "Walk" ["self","works","beat"] (NZ n)) (q:R7 P w K mg base 7 "dealing_to" (zw 27) ["works","beat","many"] VM) (r:R7 P w K mg base 7 "cases_of" (zw 39) ["walk","many","stands","dones"] (ZV n Pt o6 mD)) (j:R7 P w K mg base 1 "dones_wanted" (zw 40) ["cases"] (Q8 P w)):R7 P w K mg base 8 "paper_for" (zw 41) ["works","beat","many"] (Q9 Pt o6 mD):=by
 refine c6 g Mn ?_;rintro _ A _ s H _ _ H3 _ hr ⟨W,eG,many,rfl,hW,h64,hb,hm,gPt,kk⟩;have hu30:=xr.u30 hr;refine⟨_,(aj (aY (aR HS (aM q hr rfl (aa zI (aa z5 (aa AH ak)))) nR) (au (aJ nR)) aN)
   (aj (aD 3 Mn.nd (sI I (hr.mono zC) rfl (aa zI (aa z5 ak))))
   (aj (aD 4 Mn.nd (bC ak))
   (@aj _ _ _ _ _ (@s? _ P w 5 _ _ _ _ _ _ _ _ rfl rfl hu30 Mn.nd (bF ak) bQ rfl (by first | exact im rfl | exact e5 rfl) (by first | exact .inl rfl | exact .inr rfl | assumption))
   (aj (bf G_ rfl (cB rfl B.range_ (aa (aG bj AH ao) ak)) (aC 6 Mn.nd) (aj (aD 7 Mn.nd (aM r hr rfl (aa AI (aa AH (aa BF (aa A6 ak))))))
    (aj (bM (dC K_ kb ka qO AO (aa B5 ak)))
    (au (aD 5 Mn.nd (aM j hr rfl (aa B5 ak)))))))
   (au (aJ (bG cR rfl B.tuple_ bZ (aa AO ak))))))))),?_⟩
 ac_nf;have k':=nW.mk kk;clear kk;have t1:=dj W;have r8:W.row.length<=8:=hW.r8;have L:(cU (zv W - 1) (BY W eG many)).isSome=ag↔wJ W eG many:=tK hW hm;unfold O0 at k';have k:=nW.mk hW;clear hW;refine aA λR0 hR0=>?_;lia;refine⟨W,eG,many,rfl,k.out,hm,?_⟩;unfold Pi;cases el:cU (zv W - 1) (BY W eG many) with
 |some v=>rw[el] at k';clear hR0 L el;lia;exact My.of eH.refl k'.out
 |none =>
 rw[el] at k' L;have no:nW (¬wJ W eG many):=⟨λz=>by have:=L.mpr z;cases this⟩;clear L el;lia;left;right;intro a ha;refine⟨a,W,eG,rfl,k.out,aq,λU kp hw=>⟨rfl,?_⟩⟩;have sb:eH H3 U:=λb u hb=>kp b u (bB hb ha) (by rw[aF (bB hb ha)];exact hb);clear kp ha;left;right;refine⟨zC,λt hpp=>?_⟩;have gp5:fY U t (.lst []) t=ab (.lst ((Fh W eG many 0).map (AW W))):=aq;have sb5:eH U (fY U t (.lst [])):=eH.new hpp;generalize fY U t (.lst [])=H5 at gp5 sb5 |-;left;right;intro d0 hd0;rw[show LU P w (zk [])=LU P w (.tup (([]:ξ aw).map zi)) from rfl,QV];refine⟨zC,aq,?_⟩;rw[mJ];have D:fY H5 d0 (.dtk P w [(([]:ξ aw).map bv,.bl ag)]) d0=ab (.dtk P w [(([]:ξ aw).map bv,.bl ag)]):=aq;have O:eH H5 (fY H5 d0 (.dtk P w [(([]:ξ aw).map bv,.bl ag)])):=eH.new hd0;have R:([((([]:ξ aw).map bv:TK),T.bl ag)]:ξ (TK × T)).map (·.1)=[0].map (C3 W):=by show [_]=[C3 W 0];unfold C3;rw[jm]
 have J:=O _ _ gp5;generalize fY H5 d0 (.dtk P w [(([]:ξ aw).map bv,.bl ag)])=H6 at D O J |-;generalize ([((([]:ξ aw).map bv:TK),T.bl ag)]:ξ (TK × T))=kv0 at R D;have G:=sb5.trans O;clear gp5 sb5 O hd0;left;refine aA λR4 hR4=>?_;have e1:(many:Int)+1=((many+1:Nat):Int):=rfl;lia;refine⟨AD,zo,zo,?_⟩;rw[j0];refine aV (λ(i:Nat)=>zh (i:Int)) (ay (many+1)) (λA σ H=>∃(d:ae) (v6 v7:ζ T) (kvs:ξ (TK × T)) (S:ξ Nat),σ=[ab W.enc,ab (.int eG),ab (.int (many:Int)),ab (.ref a),ab (.ref t),ab (.ref d),v6,v7]/\eH U H/\H t=ab (.lst ((Fh W eG many A.length).map (AW W)))/\H d=ab (.dtk P w kvs)/\kvs.map (·.1)=S.map (C3 W)/\S.Nodup/\∀o,o∈S↔o∈CO W eG many A.length) ⟨_,_,_,_,_,rfl,G,J,D,R,Ap,λo=>Iff.rfl⟩ ?_ ?_
 .rintro σ H ⟨d,v6,v7,kvs,S,rfl,y,gp,gd,_,_,_⟩;rw[D_] at gp;ac_rfl;have ml:=tO (eG:=eG) (many:=many) k.out (many+1);clear J D G no R;left;lia;exact My.of (sb.trans y) k'.out
 rintro A s B σ H N e ⟨d,v6,v7,kvs,S,rfl,y,gp,gd,hks,V,C⟩ hN;ac_rfl;have hA:A.length<many+1:=by have:=U_ a7 e;simp only[d_,n_,D_] at this;omega
 have hs:s=A.length:=by
  have h1:(ay (many+1))[A.length]?=ab s:=by rw[e,Z_ (o_ _)];simp
  rw[FR hA] at h1;exact (O_ h1).symm
 subst hs;have hN':nW (∀(d:ae) (v6 v7:ζ T) (kvs:ξ (TK × T)) H',eH U H'->H' t=ab (.lst ((Fh W eG many A.length++C4 W eG many A.length).map (AW W)))->H' d=ab (.dtk P w kvs)->kvs.map (·.1)=(Db (FX (C4 W eG many A.length)) []).map (C3 W)->N [ab W.enc,ab (.int eG),ab (.int (many:Int)),ab (.ref a),ab (.ref t),ab (.ref d),v6,v7] H'):=⟨λd v6 v7 kvs H' h1 h2 h3 h4=>hN _ _ ⟨d,v6,v7,kvs,_,rfl,h1,by rw[d_,z_,tM];exact h2,h3,h4,(o7 LJ).1,λo=>by rw[d_,z_];exact V4 k.out⟩⟩;have ml:=tO (eG:=eG) (many:=many) k.out A.length;have hw7:=nW.mk (hw.sub y);have hPt:=y _ _ (sb _ _ gPt);have Z:=qh hA;have l64:=Oa k.out hm hb no.out h64 Z;have lml:S.length<64:=by have:=jL V (m:=CO W eG many A.length) λx hx=>(C x).mp hx;omega
 have hms2:nW (∀m∈S,m<zv W/\(D4 W m<=eG*((many:Int) - (A.length:Int))->A.length<W.row.length)):=⟨λm M=>⟨(iQ k.out m ((C m).mp M)).1,λz=>by
  have:=Jw k.out hm hb no.out Z ((C m).mp M) z
  omega⟩⟩
 have hms':=nW.mk C;have hp0:=hpp;have hks':=nW.mk hks;clear hN e hR4 k' J D G R H6 H5 C hks hpp;right;refine⟨a,d,W,eG,many,A.length,P,w,kvs,S,rfl,k.out,hw7.out,gd,hPt,hks'.out,V,lml,Z,zo,hms2.out,λl hl up p hp=>?_⟩;have el:=Oc V hms'.out hl up;subst el;have ec:((CO W eG many A.length).map λm=>AW W (A.length,m,C8 W eG many A.length m))=(C4 W eG many A.length).map (AW W):=by unfold C4;rw[N_];rfl
 rw[ec];have npp:t≠p:=bB gp hp;have gp8:fY H p (.lst ((C4 W eG many A.length).map (AW W))) t=ab (.lst ((Fh W eG many A.length).map (AW W))):=by rw[aF npp];exact gp
 have gc8:fY H p (.lst ((C4 W eG many A.length).map (AW W))) p=ab (.lst ((C4 W eG many A.length).map (AW W))):=aq;have Y:=y.trans (eH.new (o:=.lst ((C4 W eG many A.length).map (AW W))) hp);have cl:(C4 W eG many A.length).length<=256:=by unfold C4;rw[g_];omega
 have cok:nW (∀c∈C4 W eG many A.length,FG W c):=⟨λc hc=>by
  obtain⟨m,M,rfl⟩:=t_.mp hc
  have:=(iQ k.out m M).1
  exact⟨this,yW k.out this⟩⟩
 generalize fY H p (.lst ((C4 W eG many A.length).map (AW W)))=H8 at gp8 gc8 Y |-;generalize C4 W eG many A.length=X at *;generalize Fh W eG many A.length=pc at *;clear ec hp y gp gd hPt hw7 hl up;left;right;refine⟨⟨AD,AD⟩,zo,?_⟩;rw[<- B_];have gp9:fY H8 t (.lst ((pc++X).map (AW W))) t=ab (.lst ((pc++X).map (AW W))):=aq;have gc9:fY H8 t (.lst ((pc++X).map (AW W))) p=ab (.lst (X.map (AW W))):=by rw[aF (a6 npp)];exact gc8
 have sb9:eH U (fY H8 t (.lst ((pc++X).map (AW W)))):=λb u e=>by rw[aF (bB e hp0)];exact Y b u e
 generalize fY H8 t (.lst ((pc++X).map (AW W)))=H9 at gp9 gc9 sb9 |-;clear gp8 gc8 Y;left;lia;refine⟨p,W,X,rfl,k.out,gc9,cl,cok.out,λH' d' kvs' sb' gd' hk'=>?_⟩;exact hN'.out d' _ _ kvs' H' (sb9.trans sb') (sb' _ _ gp9) gd' hk'
noncomputable abbrev jd:ξ aw:=["cases","wanted","stands","done","reason","other"]
theorem N0:gV jd ["cases"] (aB (zw 40)):=aX
theorem mF {f:ae} (g:G3 K mg "dones_wanted" (zw 40) ["cases"] f fd) (B:Bl mg):R7 P w K mg base 1 "dones_wanted" (zw 40) ["cases"] (Q8 P w):=by
 refine c6 g N0 ?_;rintro _ A _ s H E _ H3 _ hr ⟨a,W,cs,rfl,hW,U,cl,G,kk⟩;have t:=xr.u30 hr;refine⟨_,s!"1ñŖ'Õ2ñ(3ñ(4ñ(M..°ºný·ýV5ñ(º:Tŗ%?%,%?ú%$$",?_⟩
 ac_nf;have k':=nW.mk kk;clear kk;have t2:=gU hW;have M:∀A:ξ BC,(∀c∈A,FG W c)->∀B:ξ Nat,(∀o∈B,o<zv W)->(Db B (Db (FX A) [])).length<=256/\∀m∈Db B (Db (FX A) []),m<zv W:=λA O B hB=>by
  obtain⟨n1,m1⟩:=o7 (os:=FX A) (E:=[]) LJ;obtain⟨n2,m2⟩:=o7 (os:=B) n1;have h:∀m∈Db B (Db (FX A) []),m<zv W:=λm hm=>by
   rcases (m2 m).mp hm with z | z
   .exact hB m z
   obtain⟨c,F,D⟩:=F8.mp (((m1 m).mp z).resolve_right Ap);have:=(O c F).2;obtain⟨_,_,r⟩:=c;cases r with
   |ways os=>exact this.1 m D
   |left=>cases D
   |less=>cases D
  refine⟨?_,h⟩;have:=jL n2 (m:=ay (zv W)) λm hm=>Y_.mpr (h m hm);rw[D_] at this;omega
 have L:=nW.mk M;clear M;right;intro p hp;have q:eH H3 (fY H3 p (.dtk P w [])):=eH.new hp;have y:fY H3 p (.dtk P w []) p=ab (.dtk P w []):=aq;have ga:=q _ _ U;generalize fY H3 p (.dtk P w [])=H4 at q y ga |-;left;refine aA λR1 Y=>?_;lia;refine aV (AW W) cs (λA σ H=>Jx4 λx v3 C d=>∃kvs:ξ (TK × T),σ=[ab (.ref a),ab (.ref p),x,v3,C,d]/\eH H3 H/\H p=ab (.dtk P w kvs)/\kvs.map (·.1)=(Db (FX A) []).map (C3 W)) ⟨_,_,_,_,_,rfl,q,y,rfl⟩ ?_ ?_
 .rintro σ H ⟨x,v3,C,d,kvs,rfl,j,u,k⟩;refine⟨.inl (j _ _ U),?_⟩;left;lia;exact My.of eH.refl (k'.out H p kvs j u k)
 rintro A ⟨S,c2,r⟩ B σ H N e ⟨x,v3,C,d,kvs,rfl,j,u,k⟩ hN;refine⟨.inl (j _ _ U),?_⟩;have O:∀c∈A,FG W c:=λc F=>G c (by rw[e];simp [F]);have F:=G (S,c2,r) (by rw[e];simp);have l:nW (∀x v3 C d kvs H',eH H3 H'->H' p=ab (.dtk P w kvs)->kvs.map (·.1)=(Db (NU r) (Db (FX A) [])).map (C3 W)->N [ab (.ref a),ab (.ref p),x,v3,C,d] H'):=⟨λx v3 C d kvs H' X h2 h3=>hN _ _ ⟨x,v3,C,d,kvs,rfl,X,h2,by
  rw[h3,<- Bu]
  unfold FX
  rw[NS,SG]⟩⟩
 clear hN e Y k' y q;simp only[AW];cases r with
 |left n=>simp only[EX];lia;ac_rfl;rw[zD AQ];exact l.out _ _ _ _ _ _ j u k
 |less o=>simp only[EX];lia;ac_rfl;rw[zD AQ];exact l.out _ _ _ _ _ _ j u k
 |ways os =>
 simp only[EX];have D:∀o∈os,o<zv W:=F.2.1;have hol:os.length<=256:=F.2.2;lia;ac_rfl;refine aV (AS W) os (λA2 σ H=>∃(d:ζ T) (kvs:ξ (TK × T)),σ=[ab (.ref a),ab (.ref p),ab (.int (S:Int)),ab (AS W c2),ab (.tup [.str "ways",.tup (os.map (AS W))]),d]/\eH H3 H/\H p=ab (.dtk P w kvs)/\kvs.map (·.1)=(Db A2 (Db (FX A) [])).map (C3 W)) ⟨_,_,rfl,j,u,k⟩ ?_ ?_
 .rintro σ H ⟨d,kvs,rfl,j,u,k⟩;exact⟨AD,l.out _ _ _ _ _ _ j u k⟩
 rintro A2 o B2 σ H N2 R ⟨d,kvs,rfl,j,u,k⟩ I;ac_rfl;have Z:=D o (by rw[R];simp);obtain⟨dl,dm⟩:=L.out A O A2 λz hz=>D z (by rw[R];simp [hz]);have kl:kvs.length<=256:=by have:=U_ a7 k;rw[g_,g_] at this;omega
 have pt:=V3 hW Z dm k (v:=.bl ag);have J:nW (∀H',eH H3 H'->H' p=ab (.dtk P w (jY ((pk W o).map bv) (.bl ag) kvs))->N2 [ab (.ref a),ab (.ref p),ab (.int (S:Int)),ab (AS W c2),ab (.tup [.str "ways",.tup (os.map (AS W))]),ab (AS W o)] H'):=⟨λH' X h2=>I _ _ ⟨_,_,rfl,X,h2,by
  rw[pt,Bu]
  rfl⟩⟩
 clear I l R pt dm;simp only[AS,sT] at J |-;lia;refine⟨zo,J.out _ (λb o hb=>?_) aq⟩;rw[aF (bB hb hp)];exact j b o hb
noncomputable abbrev iR:ξ aw:=["walk","many","stands","dones","rising"]
theorem VQ:gV iR ["walk","many","stands","dones"] (aB (zw 39)):=aX
theorem wY {f:ae} (g:G3 K mg "cases_of" (zw 39) ["walk","many","stands","dones"] f Y) (B:Bl mg) (R:Y.code=.ref c0) (hC:wS base c0 Pt) (X:base.BuiltinsAt mg Pt) (S:bo≠Pt) (q:C7 K c ["works","beat","rules","whole"]) (n:R7 P w K mg base 1 "number_of" (zw 14) ["works","tasks"] j9) (j:R7 P w K mg base 6 "reason_at" (zw 38) ["walk","many","stands","done"] (ZS c)):R7 P w K mg base 7 "cases_of" (zw 39) ["walk","many","stands","dones"] (ZV c Pt o6 mD):=by
 refine⟨f,Y,g,?_⟩;refine z! g.fn R VQ (λts H Q h=>?_) (λA V s H E ts H3 Q L h=>?_)
 .obtain⟨a,d,W,eG,many,s,Pg,wg,kvs,ms,rfl,_⟩:=h;rfl
 obtain⟨a,d,W,eG,many,s,Pg,wg,kvs,ms,rfl,z,hw,hd,gP,u,hnd,h64,O,D,F,kk⟩:=h;refine⟨_,(aj (aD 4 VQ.nd (Ng (y:="done") L rfl B.sorted_ AI (Zh (n0:=(aB (zw 39)).names) (N:=iR) (N':=["done","walk"]) (cap:=[0]) rfl rfl AQ) rfl hC X S (λf cd cl s H L=>(aM n L rfl (aa (di q z5) (aa zI ak)))) (qual:=mD) (hq:=by first | rfl | kernel_rfl)))
   (au (aJ (bx rfl (b6 39 iR ["done","stands","walk","many"] 1 [2,0,1]) (bD AO) (λcl pins s H C0 fp=>⟨(aC 0 (n5 ["done","stands","walk","many"])),bT,(bF (aa z5 (aa zI (aa (aM j L rfl (aa AH (aa AI (aa z5 (aa zI ak))))) ak))))⟩))))),?_⟩
 ac_nf;have k':=nW.mk kk;clear kk;obtain⟨p,g1,g2⟩:=hw.ex;have f1:=iu (W:=W) (eG:=eG) (p:=p);have hq:nU 0 [0] [ab (zl a),ab (zh (many:Int)),ab (zh (s:Int)),ab (zl d),af]=[ab (zl a)]:=rfl;lia;have hkl:kvs.length=ms.length:=by have:=U_ a7 u;simpa using this
 refine DY (t:=zl d) rfl ?_;refine⟨d,Pg,wg,kvs,rfl,hd,zo,gP,UF W,λk hk=>?_,λus hu hp p1 v=>?_⟩
 .rw[u] at hk;obtain⟨m,C,rfl⟩:=t_.mp hk;have I:=(F m C).1;rw[Jt];show nY j9 _ [ab (AS W m),ab (zl a)] H3 _;try lia
  refine⟨W,_,pk W m,rfl,z,.inl rfl,?_⟩;rw[jM z I];exact⟨by rw[yV z I],eH.refl⟩
 rw[u] at hu;obtain⟨l,hl,rfl⟩:=lC hu;have hll:=hl.length_eq;have r:∀m∈l,m<zv W/\(D4 W m<=eG*((many:Int) - (s:Int))->s<W.row.length):=λm C=>F m (hl.mem_iff.mp C);have hs2:l.Pairwise (·<=·):=by rw[NF] at hp;refine (List.pairwise_iff_forall_sublist.mpr λ{x y} h=>?_);have h2:=List.pairwise_iff_forall_sublist.mp hp h;have hx:=h.subset;rw[yV z (r x (hx (.head _))).1,yV z (r y (hx (.tail _ (.head _)))).1] at h2;omega
 rw[show (l.map (C3 W)).map LF=l.map (AS W) by rw[N_];exact Mo λm _=>Jt];have U:a≠p1:=bB g1 v;have g3:fY H3 p1 (.lst (l.map (AS W))) a=ab (.ins c (EJ W eG p)):=by rw[aF U];exact g1
 have g4:fY H3 p1 (.lst (l.map (AS W))) p1=ab (.lst (l.map (AS W))):=aq;have J:CB c W eG (fY H3 p1 (.lst (l.map (AS W)))) a:=hw.sub (eH.new v);have Z:=eH.new (o:=.lst (l.map (AS W))) v;generalize fY H3 p1 (.lst (l.map (AS W)))=H4 at g3 g4 J Z |-;lia;rw[show nU 1 [2,0,1] [ab (zl a),ab (zh (many:Int)),ab (zh (s:Int)),ab (zl d),ab (zl p1)]=[af,ab (zh (s:Int)),ab (zl a),ab (zh (many:Int))] from rfl];refine bA (AS W) (λm=>AW W (s,m,C8 W eG many s m)) l [ab (zh (s:Int)),ab (zl a),ab (zh (many:Int))] (.inl g4) zo (λm C Q' hq=>?_) (λM G=>?_)
 .try lia
  refine⟨a,W,eG,many,s,m,rfl,z,J,(r m C).1,O,D,(r m C).2,?_⟩;exact⟨by first | trivial | decide,hq⟩
 have hn:H3 M=af:=by
  cases e:H3 M with
  |none=>rfl
  |some o=>rw[Z _ _ e] at G;cases G
 refine My.of (λb o e=>?_) (k'.out l hl hs2 M hn);by_cases hb:b=M
 .subst hb;rw[aq] at e |-;exact e
 rw[aF hb] at e |-;exact Z _ _ e
noncomputable abbrev mq:ξ aw:=["walk","many","stands","done","length"]
theorem VU:gV mq ["walk","many","stands","done"] (aB (zw 38)):=aX
theorem t7 {f:ae} (g:G3 K mg "reason_at" (zw 38) ["walk","many","stands","done"] f x) (B:Bl mg) (j:C7 K c ["works","beat","rules","whole"]) (d:R7 P w K mg base 3 "length_left" (zw 29) ["walk","done"] (V0 c)) (b:R7 P w K mg base 5 "dones_behind" (zw 30) ["walk","stand","done"] (V1 c)):R7 P w K mg base 6 "reason_at" (zw 38) ["walk","many","stands","done"] (ZS c):=by
 refine c6 g VU ?_;rintro _ _ _ s _ _ _ _ _ r ⟨a,W,eG,many,s,m,rfl,u,n,y,z,q,C,v⟩;refine⟨_,s!"4{VU.nd}bùX-*'ŋ@léÞ:A))OÐĬE/%,aùXi-*&ĬE/%$$",?_⟩
 ac_nf;have k:=nW.mk v;clear v;obtain⟨p,I,F⟩:=n.ex;have G:=tE (W:=W) (eG:=eG) (p:=p);lia;refine⟨a,W,eG,m,rfl,u,n,y,?_⟩;have t:IX eG ((many:Int) - (s:Int)):=.inr ⟨zo,zo⟩;lia;by_cases l:eG*((many:Int) - (s:Int))<D4 W m
 .rw[z3 (p_ l)];refine⟨by first | trivial | exact t,by first | trivial | decide,?_⟩;have e:C8 W eG many s m=.left (D4 W m):=z3 l;rw[e] at k;exact My.of eH.refl k.out
 rw[zD (by simpa using l)];refine⟨by first | trivial | exact t,a,W,eG,s,m,rfl,u,n,y,C zo,zC,?_⟩;have e:C8 W eG many s m=.ways (DB W eG s m):=zD l;rw[e] at k;exact My.of eH.refl k.out
theorem V' (i:Nat) {x:aw}{b a f:gE}{k v:Expr}{tk c:AF} (h:X.N.Nodup) (g:AA X k tk) (e:AA X v c) (l:X.N[i]?=ab x) (j:HG X.env.scope x) (d:X.fn x=ag\/X.env.scope.names.lookup x=ab .local):EV X (.Assign [.Name x a] (.Dict [ab k] [v] f) b) (uP (sG tk c) (iG i)):=aD _ h (Dk g e) l j rfl d
noncomputable abbrev kE:ξ aw:=["works","beat","many","walk","ways","stand"]
theorem Pd:gV kE ["works","beat","many"] (aB (zw 27)):=aX
theorem qi {f:ae} (g:G3 K mg "dealing_to" (zw 27) ["works","beat","many"] f fd) (B:Bl mg) (l:C7 K c ["works","beat","rules","whole"]) (x:Pw P w K mg base c 5 "Walk" ["self","works","beat"] (NZ c)) (d:R7 P w K mg base 5 "ways_behind" (zw 26) ["walk","stand","ways"] (ZK c)) (k:Ix P w K mg base c 2 "dealing_of" ["self","fillings"] (ZF c)):R7 P w K mg base 7 "dealing_to" (zw 27) ["works","beat","many"] VM:=by
 refine c6 g Pd ?_;rintro _ A _ s H E _ H3 _ V ⟨W,eG,m,rfl,F,hm,kk⟩;have S:=xr.u1 V;refine⟨_,(aj (aD 3 Pd.nd (sI x (V.mono zC) rfl (aa zI (aa z5 ak))))
   (@aj _ _ _ _ _ (@V' _ 4 _ _ _ _ _ _ _ _ Pd.nd ao (bF ak) rfl (by first | exact im rfl | exact e5 rfl) (by first | exact .inl rfl | exact .inr rfl | assumption))
   (aj (bf G_ rfl (cB rfl B.range_ (aa AH ak)) (aC 5 Pd.nd) (au (aD 4 Pd.nd (aM d V rfl (aa AI (aa A6 (aa AO ak)))))))
   (aj (aY (yD S (di l AI) AO) (au (aJ nR)) aN)
   (au (aJ (jX k (V.mono zC) AI (aa (Hz S AO (di l AI)) ak)))))))),?_⟩
 ac_nf;have U:=nW.mk kk;clear kk;have t1:=dj W;have r8:W.row.length<=8:=F.r8;right;intro a ha;refine⟨a,W,eG,rfl,F,aq,λY kp D=>⟨rfl,?_⟩⟩;have n:eH H3 Y:=λb u G=>kp b u (bB G ha) (by rw[aF (bB G ha)];exact G);clear kp ha;left;right;intro M t;refine⟨zC,AD,?_⟩;have e0:([(0,zk [])]:ξ (Int × T))=dI A7 (BY W eG 0):=rfl;rw[e0];have y:eH H3 (fY Y M (.dci (dI A7 (BY W eG 0)))):=n.trans (eH.new t);have C:=D.sub (eH.new (o:=.dci (dI A7 (BY W eG 0))) t);have z:fY Y M (.dci (dI A7 (BY W eG 0))) M=ab (.dci (dI A7 (BY W eG 0))):=aq;have hq3:=cM n t;generalize fY Y M (.dci (dI A7 (BY W eG 0)))=H5 at y z C |-;clear e0 t n D;left;refine aA λR2 hR2=>?_;lia;refine⟨AD,zo,zo,?_⟩;rw[j0];refine aV (λ(j:Nat)=>zh (j:Int)) (ay m) (λA σ H=>∃(q:ae) (v5:ζ T),σ=[ab W.enc,ab (.int eG),ab (.int (m:Int)),ab (.ref a),ab (.ref q),v5]/\eH H3 H/\H3 q=af/\CB c W eG H a/\H q=ab (.dci (dI A7 (BY W eG A.length)))) ⟨M,_,rfl,y,hq3,C,z⟩ ?_ ?_
 .rintro σ H ⟨q,v5,rfl,n,hq,D,R⟩;ac_rfl;rw[D_] at R;left;obtain⟨pw,gw,_⟩:=D.ex;have f4:=o4 (W:=W) (eG:=eG) (p:=pw);have lm:=wH (W:=W) (eG:=eG) (p:=pw) (m:="dealing_of") AQ;have L:=tG A7 (zv W - 1) (BY W eG m);have ec:((zv W - 1:Nat):Int)=(zv W:Int) - 1:=zo
  rw[ec] at L;have J:=U.out;unfold Pi at J;have I:=SH (W:=W) (eG:=eG) F hm;clear y C z;refine aA λR3 hR3=>?_;cases X:cU (zv W - 1) (BY W eG m) with
  |none=>rw[X] at L J;rw[sF] at L;have Z:=nW.mk J;clear U J hR3 I;lia;simp only[Option.isSome_none,I0,if_true];exact My.of n Z.out
  |some v =>
  obtain⟨_,O,hb3⟩:=(I.wok F).lt _ (jn X);have hb4:v.length<=m:=O;clear O;rw[X] at L J;rw[OV] at L;simp only[A7] at L;have Z:=nW.mk J;clear U J I X;generalize BY W eG m=E at *;lia;simp only[io,Fm,u_,W_];left;lia;refine⟨by first | trivial | exact lm,a,W,eG,v,rfl,F,D,zo,hb3,?_⟩;exact My.of n Z.out
 rintro A j B σ H N e ⟨q,v5,rfl,n,hq,D,R⟩ hN;ac_rfl;have hA:A.length<m:=by have:=U_ a7 e;simp only[d_,n_,D_] at this;omega
 have hj:j=A.length:=by
  have h1:(ay m)[A.length]?=ab j:=by rw[e,Z_ (o_ _)];simp
  rw[FR hA] at h1;exact (O_ h1).symm
 subst hj;have hN':=nW.mk hN;clear hN e U hR2 y C z;lia;refine⟨a,q,W,eG,A.length,A.length,BY W eG A.length,rfl,F,D,zo,zo,(SH F zo).wok F,R,λo p2 r=>?_⟩;have nq2:q≠p2:=bB R r;have hwf:=D.frz (o:=.dif o (dI A7 (BY W eG A.length))) R;refine hN'.out _ _ ⟨p2,_,rfl,λb u G=>?_,cM n ?_,hwf.sub (eH.new (by rw[aF (a6 nq2)];exact r)),?_⟩
 .rw[aF (bB (n b u G) ?_),aF (bB G hq)]
  .exact n b u G
  exact r
 .exact r
 rw[aq,d_];rfl
noncomputable abbrev jz:ξ aw:=["walk","stand","ways","behind","done","fillings","filling"]
theorem OR:gV jz ["walk","stand","ways"] (aB (zw 26)):=aX
theorem pF {f:ae} (g:G3 K mg "ways_behind" (zw 26) ["walk","stand","ways"] f fd) (B:Bl mg) (I_Walk:C7 K c ["works","beat","rules","whole"]) (d:Ix P w K mg base c 4 "greatest_at" ["self","stand","done"] (VL c)):R7 P w K mg base 5 "ways_behind" (zw 26) ["walk","stand","ways"] (ZK c):=by
 refine c6 g OR ?_;rintro _ A _ s H E _ H3 _ hr ⟨a,q,W,eG,k,n,E,rfl,hW,hw,hk,hn,hE,hq,kk⟩;refine⟨_,s!"3ė{Hw}'{HJ}A#14ė(5ė(M.®b{hr.mono}{zC}#1ÐIĉm6ė({MN}Dk@^)ÖEĊ#3P%?%?D/%$$",?_⟩
 ac_nf;have k':=nW.mk kk;clear kk;have t2:=gU hW;have hE':=nW.mk hE;clear hE;right;intro l L;have x:q≠l:=bB hq L;left;refine aA λR1 hR1=>?_;have gq:fY H3 l (.dci []) q=ab (.dci (dI A7 E)):=by rw[aF x];exact hq
 lia;intro o;rw[ZG];have hw0:CB c W eG (fY H3 q (.dif o (dI A7 E))) a:=hw.frz hq;have g0:fY H3 q (.dif o (dI A7 E)) q=ab (.dif o (dI A7 E)):=aq;have n0:fY H3 q (.dif o (dI A7 E)) l=af:=by rw[aF (a6 x)];exact L
 have S:FE l (fY H3 q (.dif o (dI A7 E))) (fY (fY H3 l (.dci [])) q (.dif o (dI A7 E))):=λb u hb h=>by
  by_cases e:b=q
  .subst e;rw[aq] at h |-;exact h
  rw[aF e] at h |-;rw[aF hb];exact h
 have J:fY (fY H3 l (.dci [])) q (.dif o (dI A7 E)) l=ab (.dci (dI A7 [])):=by rw[aF (a6 x),aq];rfl
 have k2:=nW.mk (k'.out o l L);generalize fY (fY H3 l (.dci [])) q (.dif o (dI A7 E))=H4 at S J |-;generalize fY H3 q (.dif o (dI A7 E))=H0 at *;clear k' gq hq hw;refine aV SW E (λA σ H=>∃(v4 v5 r:ζ T),σ=[ab (.ref a),ab (.int (k:Int)),ab (.ref q),ab (.ref l),v4,v5,r]/\FE l H0 H/\H l=ab (.dci (dI A7 (A.foldl (Nn W eG k) [])))/\Kt W (n+1) (A.foldl (Nn W eG k) [])) ⟨_,_,_,rfl,S,J,⟨LJ,λ_ z=>(nomatch z)⟩⟩ ?_ ?_
 .rintro σ H ⟨v4,v5,r,rfl,v,G,_⟩;refine⟨v q _ x g0,?_⟩;left;lia;refine My.of (λb u hb=>?_) k2.out;by_cases e:b=l
  .subst e;rw[aq] at hb;rw[G,<- hb];rfl
  rw[aF e] at hb;exact v b u e hb
 rintro A e B σ H N eE ⟨v4,v5,r,rfl,v,G,hB⟩ hN;refine⟨v q _ x g0,?_⟩;obtain⟨ed,el,et⟩:=hE'.out.lt e (by rw[eE];simp);have j:(A++[e]).foldl (Nn W eG k) []=Nn W eG k (A.foldl (Nn W eG k) []) e:=by rw[PR];rfl
 have V:=nW.mk hN;clear hN eE hR1 k2 S J;rw[j] at V;generalize A.foldl (Nn W eG k) []=B0 at *;clear j;simp only[SW];lia;have U:=v.wlk n0 hw0;obtain⟨pw,gw,_⟩:=U.ex;have lm:=wH (W:=W) (eG:=eG) (p:=pw) (m:="greatest_at") AQ;ac_rfl;try rw[gw,QQ]
 refine⟨lm,a,W,eG,k,e.1,rfl,hW,U,hk,ed,λI O=>?_⟩;have npf:l≠I:=bB G O;have flen:(Bz W eG k e.1).length<=256:=by have:=j5 bJ (B6 W eG k e.1);have h2:(B6 W eG k e.1).length<=256:=S_ (E6 _ _) (by rw[D_];exact t2);unfold Bz;rw[IG];omega
 have R:FE l H0 (fY H I (.lst ((Bz W eG k e.1).map aW))):=v.new O;have Y:fY H I (.lst ((Bz W eG k e.1).map aW)) l=ab (.dci (dI A7 B0)):=by rw[aF npf];exact G
 have M:fY H I (.lst ((Bz W eG k e.1).map aW)) I=ab (.lst ((Bz W eG k e.1).map aW)):=aq;generalize fY H I (.lst ((Bz W eG k e.1).map aW))=H5 at R Y M |-;clear v G U gw lm O;try lia
 refine aV aW (Bz W eG k e.1) (λZ σ H=>∃(r:ζ T),σ=[ab (.ref a),ab (.int (k:Int)),ab (.ref q),ab (.ref l),ab (.int (e.1:Int)),ab (A7 e.2),r]/\FE l H0 H/\H I=ab (.lst ((Bz W eG k e.1).map aW))/\H l=ab (.dci (dI A7 (Z.foldl (jw e.1 e.2) B0)))/\Kt W (n+1) (Z.foldl (jw e.1 e.2) B0)) ⟨_,rfl,R,M,Y,hB⟩ ?_ ?_
 .rintro σ H ⟨r,rfl,v,gf,G,F⟩;refine⟨.inl gf,?_⟩;exact V.out _ _ ⟨_,_,_,rfl,v,G,F⟩
 rintro Z f B2 σ H N eF ⟨r,rfl,v,gf,G,F⟩ D?;refine⟨.inl gf,?_⟩;have hf:f∈B6 W eG k e.1:=jo (by rw[eF];simp);have j:(Z++[f]).foldl (jw e.1 e.2) B0=jw e.1 e.2 (Z.foldl (jw e.1 e.2) B0) f:=by rw[PR];rfl
 have hB3:=F.stp hW ed el et hf;have hlen:=F.len;have y:=nW.mk D?;clear D? eF V R M Y hB;rw[j] at y;generalize Z.foldl (jw e.1 e.2) B0=D at *;clear j;have C:nW (∀(r:ζ T) (H':lq),FE l H0 H'->H' I=ab (.lst ((Bz W eG k e.1).map aW))->H' l=ab (.dci (dI A7 (jw e.1 e.2 D f)))->N [ab (.ref a),ab (.int (k:Int)),ab (.ref q),ab (.ref l),ab (.int (e.1:Int)),ab (A7 e.2),r] H'):=⟨λr H' h1 h2 h3=>y.out _ _ ⟨r,rfl,h1,h2,h3,hB3⟩⟩;clear y hB3;have lk:=tG A7 (e.1+f) D;have pt:=VJ A7 (e.1+f) (e.2++[f]) D;have dl:=VH A7 D;have X:A7 (e.2++[f])=.tup (e.2.map aW++[.int (f:Int)]):=by unfold A7;rw[B_];rfl
 have ec:((e.1+f:Nat):Int)=(e.1:Int)+(f:Int):=by push_cast;rfl
 rw[X,ec] at pt;rw[ec] at lk;have hst:jw e.1 e.2 D f=match cU (e.1+f) D with
   |none=>BH (e.1+f) (e.2++[f]) D
   |some _=>D:=rfl
 have t:=nW.mk hst;clear hst;try simp only[A7,aW] at pt
 simp only[A7,aW];cases el2:cU (e.1+f) D with
 |none =>
  rw[el2] at lk t;rw[sF] at lk;have yes:=nW.mk (λr=>C.out r _ v.put (by rw[aF (a6 npf)];exact gf) (by rw[aq,t.out,<- pt]));try simp only[A7,aW] at yes
  clear C pt X;lia;exact⟨AD,zo,zo,zo,yes.out _⟩
 |some u =>
 rw[el2] at lk t;rw[OV] at lk;have no:=nW.mk (λr=>C.out r H v gf (by rw[t.out];exact G));try simp only[A7,aW] at no
 clear C pt X;lia;exact⟨AD,zo,zo,zo,no.out _⟩
noncomputable abbrev jN:ξ aw:=[BU,BO,F7,FO,"_law_whole_here",B7,"_law_less",BS]
theorem OX:gV jN [BU,BO,F7,FO] (aB (zw 61)):=aX
theorem wZ {f:ae} (g:G3 K mg "_law_greatest" (zw 61) [BU,BO,F7,FO] f fd) (B:Bl mg) (v:R7 P w K mg base 1 "_law_fits" (zw 60) [BU,BO,F7,FO,BS] Z7):R7 P w K mg base 2 "_law_greatest" (zw 61) [BU,BO,F7,FO] Z8:=by
 refine c6 g OX ?_;rintro _ A _ s H _ _ H3 _ X ⟨W,p,eG,k,d,rfl,R,h32,hp,hd,kk⟩;have r:=xr.u30 X;have V:=xr.u1 X;refine⟨_,s!"4Ęõ>`S)Ą'5ĘZ'k@>)&y6Ę(7ĘÞ@^)'ĭvfD)pĭ{61}{jN}{[EE,BS]}1{[7]}HTm{[EE,BS]}=CĭvB:):OoB!JZO¢¡Lőğ¼¯iI-*G|¨©ªT¼qP%,%,%$?{Nm}ğ#1łŊä¶/%$$$",?_⟩
 ac_nf;have k':=nW.mk kk;clear kk;have t8:=R.t8;have tp:=dj W;have tl:=gU R;have pll:(GU W).length=W.tasks.length:=g_ _;right;have O:(1:Int)*2^W.tasks.length - 1=((zv W - 1:Nat):Int):=by
  rw[js];have:((zv W:Nat):Int)=2^W.tasks.length:=by unfold zv;push_cast;rfl
  rw[<- this];omega
 rw[O];refine⟨⟨zo,zo,zC⟩,?_⟩;clear O;left;right;refine⟨zC,λq hq=>?_⟩;have C:fY H3 q (.lst []) q=ab (.lst ((C2 W eG k d 0).map aW)):=aq;have D:fY H3 q (.lst []) p=_ := IH hp hq;have I:eH H3 (fY H3 q (.lst [])):=eH.new hq;generalize fY H3 q (.lst [])=H4 at C D I |-;left;refine aA λR2 hR2=>?_;have e1:((zv W - 1:Nat):Int)+1=((zv W:Nat):Int):=zo
 lia;refine⟨AD,zo,zo,?_⟩;rw[j0];refine aV (λ(i:Nat)=>zh (i:Int)) (ay (zv W)) (λA σ H=>∃n l:ζ T,σ=[ab (.ref p),ab (.int eG),ab (.str (W.row.getD k "")),ab (.int (d:Int)),ab (.int (((zv W - 1:Nat)):Int)),ab (.ref q),n,l]/\eH H3 H/\H p=ab (.lst (GU W))/\H q=ab (.lst ((C2 W eG k d A.length).map aW))) ⟨_,_,rfl,I,D,C⟩ ?_ ?_
 .rintro σ H ⟨n,l,rfl,I,D,C⟩;rw[D_] at C;ac_rfl;left;lia;have gl:=tR (W:=W) (eG:=eG) (k:=k) (d:=d) (j:=zv W);refine⟨(C2 W eG k d (zv W)).map λ(i:Nat)=>(i:Int),by rw[N_];rfl,by rw[g_];exact Ox h32,λus V hu2 p1 G=>?_⟩;rw[Ot V hu2,N_];have s1:=I.trans (eH.new (o:=.lst ((Bz W eG k d).map aW)) G);exact My.of eH.refl (k'.out _ p1 s1 aq)
 rintro A j B σ H N e ⟨n,l,rfl,I,D,C⟩ hN;ac_rfl;have hA:A.length<zv W:=by have:=U_ a7 e;simp only[d_,n_,D_] at this;omega
 have hj:j=A.length:=by
  have y:(ay (zv W))[A.length]?=ab j:=by rw[e,Z_ (o_ _)];simp
  rw[FR hA] at y;exact (O_ y).symm
 subst hj;have hi:zv W - 1 - A.length<zv W:=zo
 have ei:((zv W - 1:Nat):Int) - ((A.length:Nat):Int)=((zv W - 1 - A.length:Nat):Int):=zo
 have es:=wM (W:=W) (eG:=eG) (k:=k) (d:=d) hA;have gl:=tR (W:=W) (eG:=eG) (k:=k) (d:=d) (j:=A.length);have c:nW (∀n l H',eH H3 H'->H' p=ab (.lst (GU W))->H' q=ab (.lst ((if FF W eG k d (zv W - 1 - A.length)=ag/\(C2 W eG k d A.length).any (λg=>bJ g (zv W - 1 - A.length))=ai then C2 W eG k d A.length++[zv W - 1 - A.length] else C2 W eG k d A.length).map aW))->N [ab (.ref p),ab (.int eG),ab (.str (W.row.getD k "")),ab (.int (d:Int)),ab (.int (((zv W - 1:Nat)):Int)),ab (.ref q),n,l] H'):=⟨λn l H' y S h3=>hN _ _ ⟨n,l,rfl,y,S,by rw[d_,z_,es];exact h3⟩⟩;have hdj:=Wh R hi hd;have U:FF W eG k d (zv W - 1 - A.length)=qb W eG (W.row.getD k "") (pk W d) (pk W (zv W - 1 - A.length)):=rfl;clear hN e k' hR2 es;generalize zv W - 1 - A.length=i at *;generalize C2 W eG k d A.length=a at *;lia;have L:nW (¬(FF W eG k d i=ag/\a.any (λg=>bJ g i)=ai)->∀n l H',eH H H'->N [ab (.ref p),ab (.int eG),ab (.str (W.row.getD k "")),ab (.int (d:Int)),ab (.int (((zv W - 1:Nat)):Int)),ab (.ref q),n,l] H'):=⟨λz n l H' y=>c.out n l H' (I.trans y) (y _ _ D) (by rw[zD z];exact y _ _ C)⟩;by_cases Y:∀x∈pk W i,x∉pk W d
 .rw[z3 (p_ Y)];walk_at "c";have hff:=Oo (eG:=eG) (kind:=W.row.getD k "") R Y;refine cg aW aW (λg=>bJ g i) a [ab (.int (i:Int))] (.inl C) zo (λg hg Q' m=>?_) (λg hg hpg Q' m=>?_) (λp1 G=>⟨zC,λp2 M=>?_⟩)
  .have S:=nW.mk m;clear m L c;simp only[aW];lia;exact S.out
  .have S:=nW.mk m;clear m L c;simp only[aW];lia;exact S.out
  have J:p1≠p2:=bB aq M;rw[aF J,aq,oE];have sp:eH H (fY (fY H p1 (.lst ((a.filter λg=>bJ g i).map aW))) p2 (.lst [])):=(eH.new G).trans (eH.new M);have eA:decide ((a.filter λg=>bJ g i).map aW=[])=!(a.any λg=>bJ g i):=by rw[CC,h_,Pl,LP,NO,qr]
  refine⟨J,by rw[V_];intro t ht;obtain⟨x,_,rfl⟩:=t_.mp ht;rfl,rfl,?_⟩;generalize fY (fY H p1 (.lst ((a.filter λg=>bJ g i).map aW))) p2 (.lst [])=H5 at sp |-;simp only[u_,W_,dz];rw[eA];cases c1:a.any λg=>bJ g i with
  |true=>rw[zD zC];exact L.out (λz=>by rw[c1] at z;cases z.2) _ _ _ sp
  |false =>
  rw[z3 zC];refine⟨W,p,eG,W.row.getD k "",d,i,rfl,R,sp _ _ D,hd,hi,?_⟩;rw[hff,<- U];try dsimp only
  rw[dz];cases c2:FF W eG k d i with
  |true =>
   rw[z3 rfl];have Z:=sp _ _ C;rw[c1,c2,z3 ⟨rfl,rfl⟩] at c;rw[Z];refine⟨⟨AD,AD⟩,?_⟩;have e3:(a++[i]).map aW=a.map aW++[zh (i:Int)]:=by rw[B_];rfl
   rw[e3] at c;refine⟨by rw[g_];omega,c.out _ _ _ ?_ ?_ aq⟩
   .exact λb u hb=>by
     by_cases z:b=q
     .subst z;rw[hb] at hq;cases hq
     rw[aF z];exact sp _ _ (I _ _ hb)
   rw[aF (bB hp hq)];exact sp _ _ D
  |false =>
  rw[zD zC];exact L.out (λz=>by rw[c2] at z;cases z.1) _ _ _ sp
 rw[zD (by rw[q_ Y];decide)];refine L.out (λz=>Y ?_) _ _ _ eH.refl;have F:=QN.mp (U▸z.1);exact λx hx=>F.apart (fU hx) hx
noncomputable abbrev pG:ξ aw:=[AK,Ch,"_law_led","_law_groups_here",BU,C6,"_law_group","_law_own","_law_ahead","_law_foes","_law_word_here",EE,"_law_other"]
theorem FC:gV pG [AK] (aB (zw 57)):=aX
theorem O4 {f:ae} (g:G3 K mg "_law_plan" (zw 57) [AK] f fd) (B:Bl mg) (a:R7 P w K mg base 1 MQ (zw 58) [Ch,B7] Ow) (D:R7 P w K mg base 2 "_law_groups" (zw 56) [AK] Z3) (v:R7 P w K mg base 1 "_law_chained" (zw 55) [AK] Wf):R7 P w K mg base 3 "_law_plan" (zw 57) [AK] Z6:=by
 refine c6 g FC ?_;rintro _ A _ s H _ _ H3 _ V ⟨W,rfl,hW,kk⟩;have X:=xr.u30 V;have y:=xr.u31 V;have hu1:=xr.u1 V;refine⟨_,s!"1r{[EU]}{[]}Į<V{[EU]}=CU<!J'2rő{V}`*'3rŒ{V}`*'4rZ'QS&y5r(6r{[EE,Ch,C6]}{[1,5]}ĮDm{[EE,Ch,C6]}=Cį:AKBzoB!J£'7rÖIİ'8r{[GW,"_law_group",Ch,C6,"_law_led"]}{[6,1,5,2]}ĮÅ{[GW,"_law_group",Ch,C6,"_law_led"]}=CįADK{hu1}@B½z{y}ċB:z¢¡LoB!J&Iİ'9r>'<VÂr(Ìr(ßr(M..°ğnY·į:TKe²&+Ez¢¡L9rĝ¹e²&+_ũŃōğne:TK[&ıK&_&Iİ)'%,%?|¨©ª@õ>T)g<TK£<TK£&+Ă+Č+E&qP%$$$$$?@/%$$$$$",?_⟩
 ac_nf;have Z:=nW.mk kk;clear kk;have t8:=hW.t8;have p12:=hW.ps;have nl:(nm W).length=W.tasks.length:=d8 W;have hW':=nW.mk hW;clear hW;right;walk_at "c";refine bA AY (λt=>zi t.1) W.tasks [] trivial zo ?c1 ?c2
 case c1 =>
  intro t ht Q' hq
  clear Z
  simp only[AY]
  lia
  try exact hq
 intro C hpn;have e1:W.tasks.map (λt=>zi t.1)=(nm W).map zi:=by unfold nm;rw[N_];rfl
 rw[e1];have sb0:eH H3 (fY H3 C (.lst ((nm W).map zi))):=eH.new hpn;have O:fY H3 C (.lst ((nm W).map zi)) C=ab (.lst ((nm W).map zi)):=aq;generalize fY H3 C (.lst ((nm W).map zi))=H4 at sb0 O |-;clear e1 hpn;left;right;refine⟨W,rfl,hW'.out,λH5 pf kd K2 s5 gf ga hK=>?_⟩;try dsimp only
 left;right;refine⟨W,rfl,hW'.out,λH6 pg U gg=>?_⟩;try dsimp only
 left;right;refine⟨zC,λJ hpp=>?_⟩;have h0:=cM (sb0.trans (s5.trans U)) hpp;have R:eH H6 (fY H6 J (.lst [])):=eH.new hpp;have L:fY H6 J (.lst []) J=ab (.lst ((W.tasks.take 0).map (Fa W))):=aq;generalize fY H6 J (.lst [])=H7 at R L |-;left;refine aA λR4 hR4=>?_;have gn7:=R _ _ (U _ _ (s5 _ _ O));lia;refine⟨AD,zo,zo,?_⟩;rw[j0];refine aV (λ(i:Nat)=>zh (i:Int)) (ay W.tasks.length) (λA σ H=>Jx8 λv5 v6 v7 v8 v9 k d l=>σ=[ab W.enc,ab (.ref C),ab (.ref pf),ab (.ref pg),ab (.ref J),v5,v6,v7,v8,v9,k,d,l]/\eH H6 H/\H J=ab (.lst ((W.tasks.take A.length).map (Fa W)))) ⟨_,_,_,_,_,_,_,_,rfl,R,L⟩ ?_ ?_
 .rintro σ H ⟨v5,v6,v7,v8,v9,k,d,l,rfl,I,L⟩;rw[D_,OK] at L;ac_rfl;have fin:=nW.mk (Z.out H J ((sb0.trans (s5.trans U)).trans I) L);clear Z;left;lia;exact My.of eH.refl fin.out
 rintro A i B σ H N e ⟨v5,v6,v7,v8,v9,k,d,l,rfl,I,L⟩ hN;ac_rfl;have hA:A.length<W.tasks.length:=by have:=U_ a7 e;simp only[d_,n_,D_] at this;omega
 have hi:i=A.length:=by
  have h1:(ay W.tasks.length)[A.length]?=ab i:=by rw[e,Z_ (o_ _)];simp
  rw[FR hA] at h1;exact (O_ h1).symm
 subst hi;have ht:=e_ hA;have a1:=JG ht;have hbit:=By (ns:=nm W) (i:=A.length) (x:=W.tasks[A.length].1) hW'.out.nd (by unfold nm;rw[C_,ht];rfl);have a2:AR ((nm W).map zi) ((A.length:Nat):Int)=ab (zi W.tasks[A.length].1):=cA (by unfold nm;rw[C_,C_,ht];rfl);have G:nW (∀v5 v6 v7 v8 v9 k d l H',eH H6 H'->H' J=ab (.lst ((W.tasks.take A.length).map (Fa W)++[Fa W W.tasks[A.length]]))->N [ab W.enc,ab (.ref C),ab (.ref pf),ab (.ref pg),ab (.ref J),v5,v6,v7,v8,v9,k,d,l] H'):=⟨λv5 v6 v7 v8 v9 k d l H' h1 h2=>hN _ _ ⟨v5,v6,v7,v8,v9,k,d,l,rfl,h1,by rw[d_,z_,UE hA,B_];exact h2⟩⟩;have htm:W.tasks[A.length].1∈nm W:=t_.mpr ⟨_,FI hA,rfl⟩;clear hN e hR4;generalize W.tasks[A.length]=t at *;have Y:=I _ _ (U _ _ (s5 _ _ O));have gd:=I _ _ (U _ _ gf);have gg':=I _ _ gg;have gl:=Wj W;obtain⟨r,hr2⟩:=Wi htm;have hgl:=Jf W t.1;have cur8:((W.tasks.take A.length).map (Fa W)).length<=8:=by rw[g_,F3];omega
 simp only[AY] at a1;clear ht R;generalize (W.tasks.take A.length).map (Fa W)=cur at *;right;walk_at "c";refine cg sT sT (λg=>decide (t.1∈g)) (wB W) [ab (.ref C),ab (.int ((A.length:Nat):Int))] (.inl gg') zo (λg hg Q' hq=>?_) (λg hg hpg Q' hq=>?_) (λp1 hp1=>?_)
 .have b:=nW.mk hq;have pg':=cT g;clear hq Z G;simp only[sT];lia;rw[BP];exact⟨rfl,AD,b.out⟩
 .have b:=nW.mk hq;clear hq Z G;lia;exact b.out
 rw[hr2,show AR (e6 sT (bu W t.1::r)) 0=ab (sT (bu W t.1)) from cA (j:=0) rfl,eY];have F:=I.trans (eH.new (o:=.lst (e6 sT (bu W t.1::r))) hp1);have gp8:=(eH.new (o:=.lst (e6 sT (bu W t.1::r))) hp1) _ _ L;generalize fY H p1 (.lst (e6 sT (bu W t.1::r)))=H8 at F gp8 |-;clear Y gd gg' hr2 L I hp1;have Y:=F _ _ (U _ _ (s5 _ _ O));have gd:=F _ _ (U _ _ gf);left;right;refine⟨C,_,nm W,bu W t.1,rfl,Y,zo,.inl rfl,?_⟩;try dsimp only
 left;right;walk_at "c";refine cg zi zi (λx=>decide (t.1∈K2 x)&&!decide (x∈bu W t.1)) (nm W) [ab (sT (bu W t.1)),ab (.ref C),ab (.int ((A.length:Nat):Int)),ab (.ref pf)] (.inl Y) zo (λx hx Q' hq=>?_) (λx hx hpx Q' hq=>?_) (λp2 S=>?_)
 .have lkx:=gW (g:=kd) hx;have gax:=F _ _ (U _ _ (ga x hx));have p1:=cT (K2 x);have p2:=cT (bu W t.1);have b:=nW.mk hq;clear hq Z G hK ga;simp only[sT];lia;rw[BP,Z4];refine⟨rfl,AD,?_⟩;by_cases c:t.1∈K2 x
  .rw[p_ c,Lu] at b;rw[z3 (p_ c)];exact⟨rfl,AD,b.out⟩
  rw[q_ c,LZ] at b;rw[zD (by rw[q_ c];decide)];exact b.out
 .have b:=nW.mk hq;clear hq Z G;lia;exact b.out
 rw[Ou hK];have sb9:=F.trans (eH.new (o:=.lst (e6 zi (dM W t.1))) S);have gp9:=(eH.new (o:=.lst (e6 zi (dM W t.1))) S) _ _ gp8;have gn9:=(eH.new (o:=.lst (e6 zi (dM W t.1))) S) _ _ Y;refine⟨C,_,nm W,dM W t.1,rfl,gn9,zo,.inr ⟨p2,rfl,aq⟩,?_⟩;try dsimp only
 generalize fY H8 p2 (.lst (e6 zi (dM W t.1)))=H9 at sb9 gp9 gn9 |-;clear Y gp8 F S gd;left;right;left;right;refine aV prT W.pairs (λB1 σ H=>∃u q m:ζ T,σ=[ab W.enc,ab (.ref C),ab (.ref pf),ab (.ref pg),ab (.ref J),ab (.int ((A.length:Nat):Int)),ab (sT (bu W t.1)),ab (.int (zt (nm W) (bu W t.1))),ab (.int (zt (nm W) (dM W t.1))),ab (.int (zt (nm W) (B1.flatMap (lF t.1)))),u,q,m]/\eH H6 H/\H J=ab (.lst cur)) ⟨k,d,l,by rw[show zt (nm W) (([]:ξ (aw × aw × aw)).flatMap (lF t.1))=0 by rw[bO];exact U_ sf (il _)],sb9,gp9⟩ ?_ ?_
 .rintro σ H' ⟨u,q,m,rfl,I,L⟩;ac_rfl;left;lia;rw[js,<- hbit];refine⟨⟨AD,AD⟩,⟨zo,zo,zC⟩,zC,zo,G.out _ _ _ _ _ _ _ _ _ (jb I hpp) aq⟩
 rintro B1 p C1 σ H' N2 e2 ⟨u,q,m,rfl,I,L⟩ D?;ac_rfl;have Y:=I _ _ (U _ _ (s5 _ _ O));have hB:nW (∀z u q m H'',z=cE (zt (nm W) (B1.flatMap (lF t.1))) (zt (nm W) (lF t.1 p))->eH H' H''->N2 [ab W.enc,ab (.ref C),ab (.ref pf),ab (.ref pg),ab (.ref J),ab (.int ((A.length:Nat):Int)),ab (sT (bu W t.1)),ab (.int (zt (nm W) (bu W t.1))),ab (.int (zt (nm W) (dM W t.1))),ab (.int z),u,q,m] H''):=⟨λz u q m H'' hz s'=>by
  subst hz
  exact D? _ _ ⟨u,q,m,by rw[Ov],I.trans s',s' _ _ L⟩⟩
 have h0:zt (nm W) []=0:=by rw[bO];exact U_ sf (il _)
 clear D? e2 G Z;generalize hfo:zt (nm W) (B1.flatMap (lF t.1))=fo at *;simp only[prT];lia;ac_rfl;have hf:lF t.1 p=if p.1="apart"/\(t.1=p.2.1\/t.1=p.2.2) then [if p.2.1=t.1 then p.2.2 else p.2.1] else []:=rfl
 have hno:¬(p.1="apart"/\(t.1=p.2.1\/t.1=p.2.2))->fo=cE fo (zt (nm W) (lF t.1 p)):=λz=>by rw[hf,zD z,h0];have e3:=oV (nm W) (B1.flatMap (lF t.1)) [];rw[h0,C9,hfo] at e3;exact e3.symm
 by_cases c1:p.1="apart"
 .rw[z3 (p_ c1)];refine⟨zC,rfl,rfl,?_⟩;rw[show eQ ai (zi t.1) [zi p.2.1,zi p.2.2]=decide (t.1∈[p.2.1,p.2.2]) from BP t.1 [p.2.1,p.2.2]];by_cases c2:t.1=p.2.1\/t.1=p.2.2
  .rw[z3 (p_ (by simpa using c2))];rw[hf,z3 ⟨c1,c2⟩] at hB;refine⟨zC,λp3 hp3=>?_⟩;have g1:=(eH.new (o:=.lst [zi p.2.1,zi p.2.2]) hp3) _ _ Y;have g3:fY H' p3 (.lst [zi p.2.1,zi p.2.2]) p3=ab (.lst [zi p.2.1,zi p.2.2]):=aq;have sb3:eH H' (fY H' p3 (.lst [zi p.2.1,zi p.2.2])):=eH.new hp3;generalize fY H' p3 (.lst [zi p.2.1,zi p.2.2])=H10 at g1 g3 sb3 |-;have x0:AR [zi p.2.1,zi p.2.2] 0=ab (zi p.2.1):=cA (j:=0) rfl;have x1:AR [zi p.2.1,zi p.2.2] 1=ab (zi p.2.2):=cA (j:=1) rfl;clear hno hf;lia;by_cases c3:p.2.1=t.1
   .rw[z3 c3] at hB;rw[p_ c3];simp only[if_true,u_,W_];rw[x1,eY];refine⟨zC,λp4 M=>⟨C,_,nm W,[p.2.2],rfl,(eH.new M) _ _ g1,zo,.inr ⟨p4,rfl,aq⟩,?_⟩⟩;exact hB.out _ _ _ _ _ rfl (sb3.trans (eH.new M))
   rw[zD c3] at hB;rw[q_ c3];simp only[if_true,u_,W_];rw[x0,eY];refine⟨zC,λp4 M=>⟨C,_,nm W,[p.2.1],rfl,(eH.new M) _ _ g1,zo,.inr ⟨p4,rfl,aq⟩,?_⟩⟩;exact hB.out _ _ _ _ _ rfl (sb3.trans (eH.new M))
  rw[zD (by rw[q_ (by simpa using c2)];decide)];exact hB.out _ _ _ _ _ (hno λz=>c2 z.2) eH.refl
 rw[zD (by rw[q_ c1];decide)];exact hB.out _ _ _ _ _ (hno λz=>c1 z.1) eH.refl
noncomputable abbrev lG:ξ aw:=[BU,BS]
theorem O5:gV lG lG (aB (zw 62)):=aX
theorem O6 {f:ae} (g:G3 K mg "_law_load" (zw 62) lG f l) (B:Bl mg):R7 P w K mg base 1 "_law_load" (zw 62) lG Ri:=by
 refine c6 g O5 ?_;rintro q _ c s H _ _ _ _ _ ⟨W,p,i,rfl,j,o,n,k⟩;refine⟨_,s!"ŚŞŪ{62}{lG}{[EE,BS]}1{[1]}HÕ{[EE,BS]}=Cv:<)ćo<!J&¶/%",?_⟩;ac_nf;have b:=nW.mk k;clear k;have y:=j.t8;lia;walk_at "c";refine cg (Fa W) (λt=>zh t.2.1) (λt=>decide (t.1∈pk W i)) W.tasks [ab (.int (i:Int))] (.inl o) zo (λt e m hq=>?_) (λt e r m hq=>?_) (λp1 d=>?_)
 .have x:=yZ j n e;have a:=nW.mk hq;clear hq b;simp only[Fa];lia;exact a.out
 .have a:=nW.mk hq;clear hq b;simp only[Fa];lia;exact a.out
 rw[show ((W.tasks.filter λt=>decide (t.1∈pk W i)).map λt=>zh t.2.1)=((W.tasks.filter λt=>decide (t.1∈pk W i)).map (·.2.1)).map zh by rw[N_];rfl,ig,eY];exact My.of (eH.new d) b.out
noncomputable abbrev JT:ξ aw:=[BU,BO,F7,FO,BS,"_law_load_here","_law_bit","_law_own","_law_ahead","_law_foes","_law_length","_law_kinds"]
theorem Kb:gV JT [BU,BO,F7,FO,BS] (aB (zw 60)):=aX
theorem O7 {f:ae} (g:G3 K mg "_law_fits" (zw 60) [BU,BO,F7,FO,BS] f fd) (B:Bl mg):R7 P w K mg base 1 "_law_fits" (zw 60) [BU,BO,F7,FO,BS] Z7:=by
 refine c6 g Kb ?_;rintro _ A _ s H _ _ H3 Q hr ⟨W,p,eG,kind,d,i,rfl,U,hp,hd,R,kk⟩;have k:=xr.u30 hr;have C:=xr.u31 hr;refine⟨_,s!"5¿>'Õ6¿(7¿(8¿(9¿(Â¿(Ì¿(M.....Ćv@^)ć5¿YĊ'Ĳvf@)fOĲvgĝD@))gOv¹@)ćd]]LF%,ĲeàEO{C}ċAez¢¡LF%,%$$,%?ŎT:[/%$$",?_⟩
 ac_nf;have D:=nW.mk kk;clear kk;right;left;refine aA λR1 hR1=>?_;lia;have j:JD W eG kind d i=(@decide (∀t∈W.tasks,No W kind d i t) (ap _)&&decide (cX W.tasks (pk W i)<=eG)):=rfl;refine aV (Fa W) W.tasks (λA σ H=>Jx6 λo l m r c b=>σ=[ab (.ref p),ab (.int eG),ab (.str kind),ab (.int (d:Int)),ab (.int (i:Int)),ab (.int (cX A (pk W i))),o,l,m,r,c,b]/\H=H3/\∀t∈A,No W kind d i t) ⟨_,_,_,_,_,_,rfl,rfl,λ_ h=>nomatch h⟩ ?_ ?_
 .rintro σ H ⟨o,l,m,r,c,b,rfl,rfl,O⟩;refine⟨.inl hp,?_⟩;left;lia;rw[@p_ _ (ap _) O,Lu] at j;rw[j] at D;exact My.of eH.refl D.out
 rintro A t B σ H N e ⟨o,l,m,r,c,b,rfl,rfl,O⟩ hN;refine⟨.inl hp,?_⟩;have ht:t∈W.tasks:=by rw[e];simp
 have v:nW (¬No W kind d i t->My Q (.bl ai) H):=⟨λz=>by
  rw[@q_ _ (ap _) λq=>z (q t ht),LZ] at j
  rw[j] at D
  exact My.of eH.refl D.out⟩
 have a:nW (No W kind d i t->∀z o l m r c b,z=cX A (pk W i)+(if t.1∈pk W i then t.2.1 else 0)->N [ab (.ref p),ab (.int eG),ab (.str kind),ab (.int (d:Int)),ab (.int (i:Int)),ab (.int z),o,l,m,r,c,b] H):=⟨λz y o l m r c b hy=>by
  subst hy
  exact hN _ H ⟨o,l,m,r,c,b,by rw[oX],rfl,λu J=>by
   rcases x_.mp J with J | J
   ·
    exact O u J
   ·
    rw[j_.mp J];exact z⟩⟩
 clear hN e O hR1 D j;have b1:=yZ U R ht;have b2:=za (A:=bu W t.1) U R λx Y=>(L_.mp Y).1;have b3:=Om (A:=dM W t.1) U R hd λx Y=>(L_.mp Y).1;have b4:=Wg (A:=wL W t.1) U R;generalize cX A (pk W i)=ld at *;have L:No W kind d i t=(t.1∈pk W i->sZ t.2.2 kind=ag/\(∀x∈bu W t.1,x∈pk W i)/\(∀x∈dM W t.1,x∈pk W i\/x∈pk W d)/\∀x∈wL W t.1,x∉pk W i):=rfl;rw[L] at a v;clear L;simp only[Fa,sT];lia;ac_rfl;by_cases c0:t.1∈pk W i
 .simp only[c0,Fu,if_true,true_implies] at a v |-;by_cases F:∀x∈bu W t.1,x∈pk W i
  .rw[zD (by rw[p_ F];decide)];by_cases M:∀x∈dM W t.1,x∈pk W i\/x∈pk W d
   .rw[zD (by rw[p_ M];decide)];by_cases S:∃x,x∈wL W t.1/\x∈pk W i
    .rw[z3 (p_ S)];obtain⟨x,h1,h2⟩:=S;exact v.out λz=>z.2.2.2 x h1 h2
    rw[zD (by rw[q_ S];decide)];have I:∀x∈wL W t.1,x∉pk W i:=λx h1 h2=>S ⟨x,h1,h2⟩;have G:=cT t.2.2;refine⟨zC,G,rfl,?_⟩;rw[show eQ ag (zi kind) (t.2.2.map zi)=!decide (kind∈t.2.2) by unfold eQ;simp only[Vr];rfl];have em:sZ t.2.2 kind=(decide (t.2.2=[])||decide (kind∈t.2.2)):=rfl;rw[em] at a v;by_cases X:t.2.2=[]
    .rw[zD (by simp [X])];exact a.out ⟨by simp [X],F,M,I⟩ _ _ _ _ _ _ _ rfl
    rw[z3 (by simp [X])];refine⟨rfl,G,?_⟩;by_cases V:kind∈t.2.2
    .rw[zD (by simp [V])];exact a.out ⟨by simp [V],F,M,I⟩ _ _ _ _ _ _ _ rfl
    rw[z3 (by simp [V])];exact v.out λz=>by have:=z.1;simp [X,V] at this
   rw[z3 (by rw[q_ M];rfl)];exact v.out λz=>M z.2.2.1
  rw[z3 (by rw[q_ F];rfl)];exact v.out λz=>F z.2.1
 simp only[c0,ED,u_,W_,false_implies,true_implies] at a |-;exact a.out _ _ _ _ _ _ _ (by rw[kU])
noncomputable abbrev jr:ξ aw:=[AK,BS]
theorem JV:gV jr jr (aB (zw 59)):=aX
theorem JW {f:ae} (g:G3 K mg "_law_tasks" (zw 59) jr f G) (B:Bl mg):R7 P w K mg base 1 "_law_tasks" (zw 59) jr Rh:=by
 refine c6 g JV ?_;rintro _ A _ s H _ _ H3 _ J ⟨W,m,rfl,q,X,F⟩;have j:=xr.u30 J;refine⟨_,s!"{59}{jr}{[C6,AK,BS]}1{[0,1]}H<&S&y{[C6,AK,BS]}=C«n¦Aõ>B))¤pocBK£!J&x/%",?_⟩;ac_nf;have C:=nW.mk F;clear F;have S:=q.t8;have d:=nW.mk q;clear q;lia;refine⟨AD,zo,zo,?_⟩;rw[j0];walk_at "c";refine ik (λ(i:Nat)=>zh (i:Int)) (ay W.tasks.length) (λA o σ H=>∃v:ζ T,σ=[v,ab W.enc,ab (.int (m:Int))]/\o=(((nm W).take A.length).filter λx=>decide (x∈pk W m)).map zi/\H=H3) ⟨_,rfl,rfl,rfl⟩ ?_ ?_
 .rintro o σ H ⟨v,rfl,rfl,rfl⟩;rw[D_];have I:(nm W).take W.tasks.length=nm W:=NY (gS (d8 W));rw[I];have Z:((nm W).filter λx=>decide (x∈pk W m))=pk W m:=by have:=Jl d.out (pk W m);rw[cW d.out X] at this;exact this.symm
  rw[Z];have h8:(pk W m).length<=8:=S_ (mY _ _) (by rw[d8];exact S);refine⟨AD,by rw[g_];omega,λp O=>?_⟩;lia;exact My.of (eH.new O) C.out
 rintro A i B o σ H N e ⟨v,rfl,rfl,rfl⟩ u;ac_rfl;have l:A.length<W.tasks.length:=by have:=U_ a7 e;simp only[d_,n_,D_] at this;omega
 have M:i=A.length:=by
  have D:(ay W.tasks.length)[A.length]?=ab i:=by rw[e,Z_ (o_ _)];simp
  rw[FR l] at D;exact (O_ D).symm
 subst M;have k:=e_ l;have Y:=JG k;have R:=Z5 (b:=m) d.out k;have I:(((nm W).take A.length).filter λx=>decide (x∈pk W m)).length<=8:=S_ (E6 _ _) (by rw[F3];omega);have y:A.length<(nm W).length:=by rw[d8];exact l
 have en:(nm W)[A.length]=W.tasks[A.length].1:=IN _;have a:(nm W).take (A.length+1)=(nm W).take A.length++[W.tasks[A.length].1]:=by rw[UE y,en]
 generalize W.tasks[A.length]=t at *;have r:nW (t.1∈pk W m->N ((((nm W).take A.length).filter λx=>decide (x∈pk W m)).map zi++[zi t.1]) [ab (.int ((A.length:Nat):Int)),ab W.enc,ab (.int (m:Int))] H):=⟨λz=>u _ _ _ ⟨_,rfl,by rw[d_,z_,a,LH,B_,KS,z3 (p_ z)];rfl,rfl⟩⟩;have L:nW (t.1∉pk W m->N ((((nm W).take A.length).filter λx=>decide (x∈pk W m)).map zi) [ab (.int ((A.length:Nat):Int)),ab W.enc,ab (.int (m:Int))] H):=⟨λz=>u _ _ _ ⟨_,rfl,by rw[d_,z_,a,LH,KS,zD (vG z),List.filter_nil,C9],rfl⟩⟩;clear u e C k a en;simp only[AY] at Y;generalize ((nm W).take A.length).filter (λx=>decide (x∈pk W m))=V at *;lia;have p0:(0:Int)<2^A.length:=Int.pow_pos zC;have p1:(2:Int)^A.length<=128:=by
  have:(2:Nat)^A.length<=2^7:=OF zC zo
  exact_mod_cast this
 refine⟨⟨zo,zo,zC⟩,?_⟩;rw[js];refine⟨⟨zo,JU (ME _) zo⟩,zC,?_⟩;rw[R];by_cases c:t.1∈pk W m
 .rw[z3 (p_ c)];exact⟨zo,r.out c⟩
 rw[zD (vG c)];exact L.out c
noncomputable abbrev w5:ξ aw:=[Ch,B7,"_law_total",C6]
theorem RO:gV w5 [Ch,B7] (aB (zw 58)):=aX
theorem Ed {f:ae} (g:G3 K mg MQ (zw 58) [Ch,B7] f q) (B:Bl mg):R7 P w K mg base 1 MQ (zw 58) [Ch,B7] Ow:=by
 refine c6 g RO ?_;rintro _ A _ s H _ _ H3 _ t ⟨a,x,ns,d,rfl,I,L,u,p⟩;have j:=xr.u31 t;refine⟨_,s!"2Ņ>'`S&y3Ņ(«µBDKħ2Ņõ>D)ĳ'%,%?Ñ%$$",?_⟩
 ac_nf;have n:=nW.mk p;clear p;right;left;right;refine⟨AD,zo,zo,?_⟩;rw[j0];refine aV (λ(i:Nat)=>zh (i:Int)) (ay ns.length) (λA σ H=>∃v3:ζ T,σ=[ab (.ref a),ab x,ab (.int (zt (ns.take A.length) d)),v3]/\H=H3) ⟨_,rfl,rfl⟩ ?_ ?_
 .rintro σ H ⟨v3,rfl,rfl⟩;rw[D_,OK];ac_rfl;left;lia;exact My.of eH.refl n.out
 rintro A i B σ H N e ⟨v3,rfl,rfl⟩ r;ac_rfl;have k:A.length<ns.length:=by have:=U_ a7 e;simp only[d_,n_,D_] at this;omega
 have v:i=A.length:=by
  have o:(ay ns.length)[A.length]?=ab i:=by rw[e,Z_ (o_ _)];simp
  rw[FR k] at o;exact (O_ o).symm
 subst v;have O:AR (ns.map zi) ((A.length:Nat):Int)=ab (zi ns[A.length]):=cA (by rw[C_,e_ k];rfl);have m:zt (ns.take (A.length+1)) d=zt (ns.take A.length) d+2^A.length*(if ns[A.length]∈d then 1 else 0):=by rw[UE k,jK,F3,lh zo]
 have b:nW (∀z,z=zt (ns.take A.length) d+2^A.length*(if ns[A.length]∈d then 1 else 0)->N [ab (.ref a),ab x,ab (.int z),ab (.int ((A.length:Nat):Int))] H):=⟨λz G=>by subst G;exact r _ _ ⟨_,by rw[d_,z_,m],rfl⟩⟩;clear r e n m;generalize ns[A.length]=y at *;lia;refine Bj u ?_;simp only[dz,u_,W_];by_cases c:y∈d
 .simp only[c,Fu,if_true] at b |-;refine⟨⟨zo,zo,zC⟩,b.out _ ?_⟩;rw[js,sx]
 simp only[c,ED,u_,W_] at b |-;exact b.out _ (by rw[qB,kU])
noncomputable abbrev jO:ξ aw:=["works","beat","many","paper","walk","cases","stands","done","reason"]
theorem Nc:gV jO ["works","beat","many","paper"] (aB (zw 37)):=aX
theorem w6 {f:ae} (g:G3 K mg "is_paper" (zw 37) ["works","beat","many","paper"] f fd) (B:Bl mg) (I_Walk:C7 K d ["works","beat","rules","whole"]) (r:Pw P w K mg base d 5 "Walk" ["self","works","beat"] (NZ d)) (j:R7 P w K mg base 2 "are_sorted" (zw 36) ["works","paper"] Q6) (l:R7 P w K mg base 2 "is_done" (zw 31) ["walk","done"] (Q5 d)) (k:R7 P w K mg base 7 "is_reason" (zw 35) ["walk","many","cases","stands","done","reason"] (ZQ w d)):R7 P w K mg base 8 "is_paper" (zw 37) ["works","beat","many","paper"] ZR:=by
 refine c6 g Nc ?_;rintro _ A _ s H _ _ H3 _ L ⟨W,eG,many,m,rfl,V,hm,u,cl,D,kk⟩;have X:=xr.u30 L;refine⟨_,s!"4ò{sI}ù{L.mono}{zC}#1{rfl}Q-#4'5ò{ZU}Ï#1Ź{B.dict_}{NQ}{37}{jO}{["stands","done","reason"]}3{[]}Hĩ{["stands","done","reason"]}=C{["stands","done","reason"]}=Ò{["stands","done","reason"]}=ĨM..°UQ-Eŉà++E!J&ı'àE&~Eź«ÏX-*GNd]LF%,ĩ6ò(7ò(8ò(M..°^řNwÏ¼h*GNd]LF%,³Ïgà+ČāĴih*GNF%,%$?F%$$$$",?_⟩
 ac_nf;have k':=nW.mk kk;clear kk;unfold LN at D;rw[F_,F_,V_,h_] at D;obtain⟨h00,U,t⟩:=D;have z:=nW.mk t;have Z:=nW.mk u;have q:∀c∈m,FG W c:=λc hc=>(u c hc).1;clear t u;right;intro a ha;refine⟨a,W,eG,rfl,V,aq,λH4 kp hw=>⟨rfl,?_⟩⟩;have sb:eH H3 H4:=λb o e=>kp b o (bB e ha) (by rw[aF (bB e ha)];exact e);clear kp ha;left;right;walk_at "c";refine ik (AW W) m (λA ys σ H=>∃x F v:ζ T,σ=[x,F,v]/\H=H4/\ys=A.map λc=>zk [.tup [.int (c.1:Int),.tup ((pk W c.2.1).map zi)],.bl ag]) ⟨_,_,_,rfl,rfl,rfl⟩ ?_ ?_;rotate_left
 .rintro A c B ys σ H N e ⟨x,F,v,rfl,rfl,rfl⟩ hN;ac_rfl;have hA:A.length<4096:=by have:=U_ a7 e;simp only[d_,n_] at this;omega
  have y:nW (∀x F v,N ((A.map λc=>zk [.tup [.int (c.1:Int),.tup ((pk W c.2.1).map zi)],.bl ag])++[.tup [.tup [.int (c.1:Int),.tup ((pk W c.2.1).map zi)],.bl ag]]) [x,F,v] H):=⟨λx F v=>hN _ _ _ ⟨x,F,v,rfl,rfl,by rw[B_];rfl⟩⟩;clear hN e k';simp only[AW,AS,sT];lia;exact⟨AD,zC,zC,zo,y.out _ _ _⟩
 rintro ys σ H ⟨x,F,v,rfl,rfl,rfl⟩;refine⟨AD,by rw[g_];omega,λp hp=>?_⟩;rw[vO (λc:BC=>((c.1:Int),pk W c.2.1)) (λ_=>T.bl ag) m,eY];intro p1 I;have s1:eH H (fY H p (.lst (m.map λc=>zk [.tup [.int (c.1:Int),.tup ((pk W c.2.1).map zi)],.bl ag]))):=eH.new hp;generalize fY H p (.lst (m.map λc=>zk [.tup [.int (c.1:Int),.tup ((pk W c.2.1).map zi)],.bl ag]))=H5 at s1 I |-;have hks:=OT.of V q;generalize KI [] (m.map λc:BC=>(((c.1:Int),pk W c.2.1),T.bl ag))=kvs at *;have g1:fY H5 p1 (.dcn w kvs) p1=ab (.dcn w kvs):=aq;have s2:eH H5 (fY H5 p1 (.dcn w kvs)):=eH.new I;have C:=hw.sub (s1.trans s2);have s3:=sb.trans (s1.trans s2);generalize fY H5 p1 (.dcn w kvs)=H6 at g1 s2 C s3 |-;clear s1 s2 hp I sb hw;left;refine aA λR2 hR2=>?_;have e00:zk [zh 0,zk []]=zk [zh 0,zk (([]:ξ aw).map zi)]:=rfl;have J:=hks 0 0 (dj W);rw[jm,p_ h00] at J;have e02:(bU (0,[]) kvs).isSome=ag:=J;clear J;lia;refine⟨zC,zC,W,m,rfl,V,q,cl,?_⟩;try dsimp only
 rw[U,dz,zD zC];clear e00 e02 h00 U q;left;refine aA λR3 hR3=>?_;lia;refine aV (AW W) m (λA σ H=>∃S M O:ζ T,σ=[ab W.enc,ab (.int eG),ab (.int (many:Int)),ab (.tup (m.map (AW W))),ab (.ref a),ab (.ref p1),S,M,O]/\H=H6) ⟨_,_,_,rfl,rfl⟩ ?_ ?_
 .rintro σ H ⟨S,M,O,rfl,rfl⟩;ac_rfl;left;lia;exact My.of s3 k'.out
 rintro A c B σ H N e ⟨S,M,O,rfl,rfl⟩ hN;ac_rfl;have G:c∈m:=by rw[e];simp
 obtain⟨hc,nlc⟩:=Z.out c G;have hb:=z.out c G;unfold RA at hb;rw[F_,F_,h_,tL] at hb;obtain⟨hb1,R,hb3⟩:=hb;have Y:=nW.mk R;have hb3':=nW.mk hb3;have y:=nW.mk λS M O=>hN _ H ⟨S,M,O,rfl,rfl⟩;clear hN e hR3 k' G R hb3;simp only[AW];lia;ac_rfl;rw[z3 (p_ (KU _)),zD (by rw[p_ (show (c.1:Int)<=(many:Int) by omega)];decide)];refine⟨a,W,eG,c.2.1,rfl,V,C,hc.1,Y.out,?_⟩;try dsimp only
 rw[dz,zD zC];refine⟨a,p1,W,eG,many,kvs,m.map BM,c.1,c.2.1,c.2.2,rfl,V,C,hm,hb1,g1,hks,hc.1,nlc,hb3'.out,?_⟩;try dsimp only
 rw[dz,zD zC];exact y.out _ _ _
noncomputable abbrev f9:ξ aw:=["works","paper","places"]
theorem Wp:gV f9 ["works","paper"] (aB (zw 36)):=aX
theorem qj {f:ae} (g:G3 K mg "are_sorted" (zw 36) ["works","paper"] f R) (B:Bl mg) (b:R7 P w K mg base 1 "number_of" (zw 14) ["works","tasks"] j9):R7 P w K mg base 2 "are_sorted" (zw 36) ["works","paper"] Q6:=by
 refine c6 g Wp ?_;rintro _ A _ s H _ _ H3 _ G ⟨W,a,rfl,M,x,V,O⟩;have m:=xr.u30 G;refine⟨_,s!"2{Wp.nd}ūŬ{["stands","done","reason","works"]}3{[0]}HĪ{["stands","done","reason","works"]}=C{["stands","done","reason","works"]}=Ò{["stands","done","reason","works"]}=ĨM..°Ua{G}Q¯*&-E!»śşŭūŬ{["one","other"]}2{[]}HAĵÃê&iŜ{["one","other"]}=C{["one","other"]}=ÒM.®U{Vf}÷#1B:[!J&¶/%$",?_⟩
 ac_nf;have u:=nW.mk O;clear O;right;walk_at "c";refine ik (AW W) a (λA D σ H=>∃j k d:ζ T,σ=[j,k,d,ab W.enc]/\H=H3/\D=A.map AZ) ⟨_,_,_,rfl,rfl,rfl⟩ ?_ ?_;rotate_left
 .rintro A c B D σ H N e ⟨j,k,d,rfl,rfl,rfl⟩ U;ac_rfl;have hA:A.length<4096:=by have:=U_ a7 e;simp only[d_,n_] at this;omega
  have hc:=x c (by rw[e];simp);have z:nW (∀j k d,N (A.map AZ++[AZ c]) [j,k,d,ab W.enc] H):=⟨λj k d=>U _ _ _ ⟨j,k,d,rfl,rfl,by rw[B_];rfl⟩⟩;clear U e u;simp only[AW];lia;refine⟨AD,W,_,pk W c.2.1,rfl,M,.inl rfl,?_⟩;rw[jM M hc.1];exact⟨zC,zo,z.out _ _ _⟩
 rintro D σ H ⟨j,k,d,rfl,rfl,rfl⟩;refine⟨AD,by rw[g_];omega,λp Z=>?_⟩;have v:fY H p (.lst (a.map AZ)) p=ab (.lst (a.map AZ)):=aq;have X:eH H (fY H p (.lst (a.map AZ))):=eH.new Z;generalize fY H p (.lst (a.map AZ))=F at v X |-;left;lia;intro p1 t;have Y:p≠p1:=bB v t;have J:fB (a.map AZ) (eU (a.map AZ) (ab 1) af)=(a.zip (a.drop 1)).map (λq=>.tup [AZ q.1,AZ q.2]):=N8 a;rw[aF Y,v,QT,J];have I:fY F p1 (.lst (eU (a.map AZ) (ab 1) af)) p=ab (.lst (a.map AZ)):=by rw[aF Y];exact v
 have S:fY F p1 (.lst (eU (a.map AZ) (ab 1) af)) p1=ab (.lst (eU (a.map AZ) (ab 1) af)):=aq;have r:=X.trans (eH.new (o:=.lst (eU (a.map AZ) (ab 1) af)) t);generalize fY F p1 (.lst (eU (a.map AZ) (ab 1) af))=H5 at I S r |-;walk_at "c";have ll:(a.zip (a.drop 1)).length<=am:=by rw[sP];omega
 rw[V2] at u;generalize a.zip (a.drop 1)=L at *;refine lR (λq:BC × BC=>AZ q.1) (λq=>AZ q.2) (λq=>T.bl (C5 (BM q.1) (BM q.2))) L [] ⟨.inl I,.inl S⟩ ll (λq hq Q' l=>?_) (λp2 y=>?_)
 .simp only[AZ];have h2:=nW.mk l;clear l u J;lia;have e:(if (q.1.1:Int)=(q.2.1:Int) then decide ((q.1.2.1:Int)<(q.2.2.1:Int)) else decide ((q.1.1:Int)<(q.2.1:Int)))=C5 (BM q.1) (BM q.2):=by unfold C5 BM;simp only[OI,Int.ofNat_lt]
  rw[e];exact h2.out
 have eb:cF (L.map λq=>T.bl (C5 (BM q.1) (BM q.2)))=ab (L.map λq=>C5 (BM q.1) (BM q.2)):=by rw[<- iI,N_];rfl
 rw[eb,eY,qs];exact My.of (r.trans (eH.new y)) u.out
noncomputable abbrev fM:ξ aw:=["walk","many","cases","stands","done","reason"]
theorem ue:gV fM fM (aB (zw 35)):=aX
theorem uf {f:ae} (g:G3 K mg "is_reason" (zw 35) fM f D) (B:Bl mg) (q:C7 K b ["works","beat","rules","whole"]) (e:R7 P w K mg base 4 "is_left" (zw 32) ["walk","left","done","length"] (ZL b)) (d:R7 P w K mg base 1 "is_less" (zw 33) ["cases","stands","done","other"] ZM) (i:R7 P w K mg base 6 "is_ways" (zw 34) ["walk","cases","stands","done","others"] (ZP w b)):R7 P w K mg base 7 "is_reason" (zw 35) fM (ZQ w b):=by
 refine c6 g ue ?_;rintro _ _ _ s _ _ _ _ _ p ⟨a,c,W,eG,many,kvs,ks,s,m,r,rfl,v,y,L,I,J,x,F,t,j,C⟩;have k:=xr.u30 p;refine⟨_,s!"³n×·ÍœÞ:D)×&h+-*/%,³n×·bœ×&h¯i*/%,{XD}D:[Ŕœ×&h¯i-*ÓÔ/%$$",?_⟩
 ac_nf;have z:=nW.mk C;clear C;have R:=v.r8;cases r with
 |less o=>exact t.elim
 |left n =>
  have l:(decide (n=D4 W m)&&decide (eG*((many:Int) - s)<n))=ag:=j
  rw[F_,h_,h_] at l
  obtain⟨rfl,l⟩:=l
  clear j
  simp only[EX]
  lia
  exact⟨a,W,eG,(many:Int) - s,m,rfl,v,y,F,zo,zo,l,My.of eH.refl z.out⟩
 |ways os =>
  have l:(decide (s<many)&&(decide (os=DB W eG s m)&&os.all λo=>decide ((s+1,o)∈ks)))=ag:=j
  rw[F_,F_,h_,h_,V_] at l
  obtain⟨O,rfl,G⟩:=l
  clear j
  simp only[EX]
  lia
  rw[zD AQ,zD AQ,z3 (p_ zo)]
  exact⟨a,c,W,eG,kvs,ks,s,m,rfl,v,y,J,x,F,zo,λo M=>MU (G o M),My.of eH.refl z.out⟩
noncomputable abbrev gA:ξ aw:=["walk","cases","stands","done","others"]
theorem zr:gV gA gA (aB (zw 34)):=aX
theorem zu {f:ae} (g:G3 K mg "is_ways" (zw 34) gA f F) (B:Bl mg) (n:C7 K d ["works","beat","rules","whole"]) (b:R7 P w K mg base 5 "dones_behind" (zw 30) ["walk","stand","done"] (V1 d)):R7 P w K mg base 6 "is_ways" (zw 34) gA (ZP w d):=by
 refine c6 g zr ?_;rintro _ _ _ s H _ _ _ _ y ⟨a,c,W,eG,kvs,ks,s,m,rfl,t,J,V,u,I,M,k,C⟩;have e:=xr.u30 y;refine⟨_,s!"Í±@a{y}Xi-*OF%,śşŭ{34}{gA}{["other","cases","stands"]}1{[1,2]}H@V{["other","cases","stands"]}=CUkA>)`+EŻ!J&¶/%$",?_⟩
 ac_nf;have x:=nW.mk C;clear C;have v:=yU (eG:=eG) (s:=s) t I;have D:(DB W eG s m).length<=256:=by unfold DB;rw[g_];exact mZ t
 have l:=nW.mk k;clear k;right;refine⟨a,W,eG,s,m,rfl,t,J,I,M,?_⟩;try dsimp only
 generalize DB W eG s m=os at *;rw[z8];have j:(os.map (AS W)).all (pl 20)=ag:=by have:=Jg (os.map (pk W));rw[N_] at this;exact this
 refine⟨j,j,?_⟩;rw[p_ rfl,dz,zD zC];left;lia;walk_at "c";refine bA (AS W) (λ_=>T.bl ag) os [ab (.ref c),ab (.int (s:Int))] trivial zo (λo z X hq=>?_) (λp L=>?_)
 .have G:=u (s+1) o (v o z);rw[p_ (l.out o z)] at G;have R:((s+1:Nat):Int)=(s:Int)+1:=rfl;rw[R] at G;have q:=nW.mk hq;clear hq x;simp only[AS,sT];lia;exact⟨zC,q.out⟩
 have U:cF (os.map λ_=>T.bl ag)=ab (os.map λ_=>ag):=by rw[<- iI,N_];rfl
 rw[U,eY,qs,show os.all (id ∘ λ_=>ag)=ag from V_.mpr λ_ _=>rfl];exact My.of (eH.new L) x.out
theorem zx {f:ae} (g:G3 K mg "is_less" (zw 33) ["cases","stands","done","other"] f a) (B:Bl mg):R7 P w K mg base 1 "is_less" (zw 33) ["cases","stands","done","other"] ZM:=⟨f,a,g,vg λ_ _ _ h=>h⟩
noncomputable abbrev iy:ξ aw:=["walk","left","done","length"]
theorem zy:gV iy iy (aB (zw 32)):=aX
theorem zz {f:ae} (g:G3 K mg "is_left" (zw 32) iy f n) (B:Bl mg) (d:C7 K c ["works","beat","rules","whole"]) (b:R7 P w K mg base 3 "length_left" (zw 29) ["walk","done"] (V0 c)):R7 P w K mg base 4 "is_left" (zw 32) iy (ZL c):=by refine c6 g zy ?_;rintro _ _ _ _ _ _ _ _ _ k ⟨a,W,eG,left,m,rfl,t,j,u,y,x,D,l⟩;have e:=xr.u30 k;refine⟨_,s!"ÍnDa³W-*[ŋDlbBč:)[ÓÔ/%",?_⟩;ac_nf;have o:=nW.mk l;clear l;obtain⟨p,C,v⟩:=j.ex;have z:=tE (W:=W) (eG:=eG) (p:=p);lia;refine⟨a,W,eG,m,rfl,t,j,u,?_⟩;have q:IX eG left:=.inr ⟨zo,zo⟩;lia;exact⟨by first | trivial | exact q,My.of eH.refl o.out⟩
noncomputable abbrev rB:ξ aw:=["walk","done","number","own","length","kinds","group","ahead","apart"]
theorem KO:gV rB ["walk","done"] (aB (zw 31)):=aX
theorem zA {f:ae} (g:G3 K mg "is_done" (zw 31) ["walk","done"] f U) (B:Bl mg) (j:C7 K l ["works","beat","rules","whole"]) (d:R7 P w K mg base 1 "number_of" (zw 14) ["works","tasks"] j9) (k:R7 P w K mg base 1 "tasks_of" (zw 15) ["works","number"] Ce) (b:R7 P w K mg base 1 "has_all" (zw 19) ["number","part"] rA):R7 P w K mg base 2 "is_done" (zw 31) ["walk","done"] (Q5 l):=by
 refine c6 g KO ?_;rintro _ A _ s H _ _ H3 _ q ⟨a,W,eG,m,rfl,L,Z,X,R,S⟩;have C:=xr.u30 q;refine⟨_,s!"2ÊbĠéQ+*'{C}±³ĠéW+*:OF%,ém3Ê(4Ê(5Ê(6Ê(7Ê(8Ê(M.....ĆaĠXi*GaĠĝ^f)&i*GN¢¡LF%,%?F%$$$",?_⟩
 ac_nf;have k':=nW.mk S;clear S;obtain⟨p,g1,M⟩:=Z.ex;have f1:=iu (W:=W) (eG:=eG) (p:=p);have f3:=oZ (W:=W) (eG:=eG) (p:=p);have G:=nW.mk R;clear R;right;refine⟨W,_,pk W m,rfl,L,.inl rfl,?_⟩;left;right;refine⟨W,(m:Int),by rw[<- jM L X],L,zo,by have:=X;unfold zv at this;exact_mod_cast this,?_⟩;have e0:sT (AN (W.tasks.map (·.1)) (m:Int))=AS W m:=rfl;try dsimp only
 rw[e0];simp only[AS,sT];rw[z8];refine⟨cT _,cT _,?_⟩;rw[p_ rfl,dz];rw[zD zC];left;refine aA λR2 I=>?_;lia;refine aV (Ct W (W.tasks.map (·.1))) W.tasks (λA σ H=>Jx6 λv3 D y u o r=>σ=[ab (.ref a),ab (AS W m),ab (.int (zt (W.tasks.map (·.1)) (pk W m))),v3,D,y,u,o,r]/\H=H3) ⟨_,_,_,_,_,_,rfl,rfl⟩ ?_ ?_
 .rintro σ H ⟨v3,D,y,u,o,r,rfl,rfl⟩;refine⟨.inl M,?_⟩;left;lia;exact My.of eH.refl k'.out
 rintro A t B σ H N e ⟨v3,D,y,u,o,r,rfl,rfl⟩ V;refine⟨.inl M,?_⟩;have F:t.1∈W.tasks.map (·.1):=t_.mpr ⟨t,by rw[e];simp,rfl⟩;have O:=mX (A:=pk W m) F;have Y:=dH (W.tasks.map (·.1)) (pk W m) (bu W t.1++dM W t.1);have b3:=oV (W.tasks.map (·.1)) (bu W t.1) (dM W t.1);have v:=nW.mk λv3 D y u o r=>V _ H ⟨v3,D,y,u,o,r,rfl,rfl⟩;clear V e I;simp only[Ct];lia;refine⟨AD,_,_,rfl,?_⟩;by_cases c:t.1∈pk W m
 .rw[p_ (O.mpr c)];try dsimp only
  rw[dz,z3 rfl];refine⟨_,_,rfl,?_⟩;rw[p_ (Y.mpr λx _ hx=>G.out _ c x (x_.mp hx))];try dsimp only
  rw[dz,zD zC];exact v.out _ _ _ _ _ _
 rw[q_ (λz=>c (O.mp z))];try dsimp only
 rw[dz,zD zC];exact v.out _ _ _ _ _ _
noncomputable abbrev gK:ξ aw:=["walk","stand","done","number"]
theorem YA:gV gK ["walk","stand","done"] (aB (zw 30)):=aX
theorem mG {f:ae} (g:G3 K mg "dones_behind" (zw 30) ["walk","stand","done"] f J) (B:Bl mg) (j:C7 K b ["works","beat","rules","whole"]) (d:R7 P w K mg base 1 "number_of" (zw 14) ["works","tasks"] j9) (e:R7 P w K mg base 1 "tasks_of" (zw 15) ["works","number"] Ce) (c:Ix P w K mg base b 4 "greatest_at" ["self","stand","done"] (VL b)):R7 P w K mg base 5 "dones_behind" (zw 30) ["walk","stand","done"] (V1 b):=by
 refine c6 g YA ?_;rintro _ _ _ s H _ _ H3 _ u ⟨a,W,eG,s,m,rfl,l,F,D,O,G⟩;refine⟨_,s!"3{YA.nd}bÎéW+*'{30}{gK}{["filling","walk","number"]}1{[0,3]}H¬{u.mono}{zC}#1XIĉm{["filling","walk","number"]}=CUÍÎ«:čkAB)&+*!J&x/%$",?_⟩
 ac_nf;have t:=nW.mk G;clear G;obtain⟨p,L,g2⟩:=F.ex;have f1:=iu (W:=W) (eG:=eG) (p:=p);have Y:=wH (W:=W) (eG:=eG) (p:=p) (m:="greatest_at") AQ;right;refine⟨W,_,pk W m,rfl,l,.inl rfl,?_⟩;rw[jM l D];left;have Z:=mZ (eG:=eG) (s:=s) (m:=m) l;lia;refine⟨by first | trivial | exact Y,a,W,eG,s,m,rfl,l,F,O,D,λk n=>?_⟩;have x:a≠k:=bB L n;have U:fY H3 k (.lst ((Bz W eG s m).map aW)) a=ab (.ins b (EJ W eG p)):=by rw[aF x];exact L
 have y:fY H3 k (.lst ((Bz W eG s m).map aW)) k=ab (.lst ((Bz W eG s m).map aW)):=aq;have M:eH H3 (fY H3 k (.lst ((Bz W eG s m).map aW))):=eH.new n;generalize fY H3 k (.lst ((Bz W eG s m).map aW))=H4 at U y M |-;try dsimp only
 rw[Ab,y,oF];walk_at "c";have o:∀f∈Bz W eG s m,m+f<zv W:=λf C=>tH l D (jo C);have I:(DB W eG s m).map (AS W)=(Bz W eG s m).map λf=>AS W (m+f):=N_;rw[I] at t;generalize Bz W eG s m=V at *;refine bA aW (λf=>AS W (m+f)) V [ab (.ref a),ab (.int (m:Int))] (.inl y) zo (λf C Q' hq=>?_) (λq hq=>?_)
 .have r:=o f C;have v:=nW.mk hq;clear hq o t I;simp only[aW];lia;have S:(m:Int)+(f:Int)=((m+f:Nat):Int):=zo
  rw[S];refine⟨W,((m+f:Nat):Int),Ap,l,zo,by unfold zv at r;exact_mod_cast r,v.out⟩
 exact My.of (M.trans (eH.new hq)) t.out
noncomputable abbrev dY:ξ aw:=["walk","done"]
theorem pH:gV dY dY (aB (zw 29)):=aX
theorem pI {f:ae} (g:G3 K mg "length_left" (zw 29) dY f o) (B:Bl mg) (e:C7 K b ["works","beat","rules","whole"]) (c:R7 P w K mg base 1 "number_of" (zw 14) ["works","tasks"] j9) (d:Ix P w K mg base b 2 "load_at" ["self","number"] (Q4 b)):R7 P w K mg base 3 "length_left" (zw 29) dY (V0 b):=by refine c6 g pH ?_;rintro _ _ _ _ _ _ _ _ _ l ⟨a,W,eG,m,rfl,j,k,t,n⟩;refine⟨_,s!"b{l.mono}{zC}#1ÞÍBč¬wÍBčQ+*)&ĉ/%",?_⟩;ac_nf;have q:=nW.mk n;clear n;obtain⟨p,z,u⟩:=k.ex;have C:=iu (W:=W) (eG:=eG) (p:=p);have v:=o4 (W:=W) (eG:=eG) (p:=p);have y:=wH (W:=W) (eG:=eG) (p:=p) (m:="load_at") AQ;lia;refine⟨AD,W,_,pk W m,rfl,j,.inl rfl,?_⟩;rw[jM j t];have x:=dj W;refine⟨a,W,eG,zv W - 1 - m,by show [zl a,zh ((zv W:Int) - 1 - (m:Int))]=_;rw[show (zv W:Int) - 1 - (m:Int)=((zv W - 1 - m:Nat):Int) by omega],j,k,zo,?_⟩;exact My.of eH.refl q.out
noncomputable abbrev lH:ξ aw:=[AK,Ch,"_law_led",GW,EE,"_law_other","_law_word_here",KP,"_law_waiting",Iq,"_law_here"]
theorem Fc:gV lH [AK] (aB (zw 55)):=aX
theorem zB {f:ae} (g:G3 K mg "_law_chained" (zw 55) [AK] f fd) (B:Bl mg):R7 P w K mg base 1 "_law_chained" (zw 55) [AK] Wf:=by
 refine c6 g Fc ?_;rintro _ A _ s H _ _ H3 _ hr ⟨W,rfl,hW,kk⟩;have hu30:=xr.u30 hr;have hu31:=xr.u31 hr;have S:=xr.u1 hr;refine⟨_,s!"1s{55}{lH}{[EU]}1{[]}H<V{[EU]}=CU<!»2sŮ'Å3s(´ADZĤ%?<V4s(5s(M.®´A@½äĎP%?<V6s(4s(5s(M..°ňn^ËO´A@½äĎP´AT½ÐĎP%$,%?7sŮ'Å3s(8s´AD½&Ģ'9sZ'ň±gZOÂs{PySem.F.slot_list_pop}{PySem.F.type_list_pop}{VF}gĶ'ĜċY¹z|¨©ª¹Y&qP|{kb}{ka}{qO}g´AY½&qP%$,%$û´fD¹Ĥ%$$$?f/%$$$$$$$",?_⟩
 ac_nf;have k':=nW.mk kk;clear kk;have t8:=hW.t8;have o28:=hW.os;have p12:=hW.ps;have nl:(nm W).length=W.tasks.length:=d8 W;have J:=nW.mk hW;clear hW;right;walk_at "c";refine bA AY (λt=>zi t.1) W.tasks [] trivial zo ?c1 ?c2
 case c1 =>
  intro t ht Q' hq
  clear k'
  simp only[AY]
  lia
  try exact hq
 intro Y hpn;have e1:W.tasks.map (λt=>zi t.1)=(nm W).map zi:=by unfold nm;rw[N_];rfl
 rw[e1];have sb0:eH H3 (fY H3 Y (.lst ((nm W).map zi))):=eH.new hpn;have gn0:fY H3 Y (.lst ((nm W).map zi)) Y=ab (.lst ((nm W).map zi)):=aq;generalize fY H3 Y (.lst ((nm W).map zi))=H4 at sb0 gn0 |-;clear e1 hpn;left;right;intro M hpd;have l0:EL H4 (fY H4 M (.dct [])) M [] (λ_=>0) (λ_=>[]):=⟨eH.new hpd,aq,(λ_ h=>nomatch h),(λ_ h=>nomatch h),(λ_ h=>nomatch h),hpd⟩;generalize fY H4 M (.dct [])=H5 at l0 |-;clear hpd;left;refine aA λR2 hR2=>?_;have gn5:=l0.sb _ _ gn0;lia;refine aV zi (nm W) (λA σ H=>∃(R:aw->ae),Jx8 λv3 I O G U v C c=>σ=[ab W.enc,ab (.ref Y),ab (.ref M),v3,I,O,G,U,v,C,c]/\EL H4 H M A R (λ_=>[])) ⟨_,_,_,_,_,_,_,_,_,rfl,l0⟩ ?_ ?_;rotate_left
 .rintro A n B σ H N e ⟨R,v3,I,O,G,U,v,C,c,rfl,d⟩ X;refine⟨.inl (d.sb _ _ gn0),?_⟩;have hnA:n∉A:=λz=>by have:=J.out.nd;unfold nm at e;rw[e,qo] at this;exact this.2.2 n z n A_ rfl
  have hAl:A.length<9:=by have:=U_ a7 e;rw[nl,d_,n_] at this;omega
  have dcg:=d.dc;have lgl:(dG R A).length=A.length:=g_ _;have j:=nW.mk X;clear X e k' hR2;lia;refine⟨zC,λp hp=>?_⟩;have np:M≠p:=bB dcg hp;have l2:=(d.more (eH.new (o:=.lst []) hp)).put (K:=[]) hnA aq (λm r=>bB (d.at_ m r) hp) (cM d.sb hp);have g2:fY H p (.lst []) M=ab (.dct (dG R A)):=by rw[aF np];exact dcg
  lia;refine⟨zo,j.out _ _ ⟨D6 n p R,_,_,_,_,_,_,_,_,rfl,?_⟩⟩;rw[show (λ_=>[]:aw->ξ aw)=D6 n [] λ_=>[] from by funext m;unfold D6;split <;> rfl];exact l2
 rintro σ H ⟨R,v3,I,O,G,U,v,C,c,rfl,d⟩;refine⟨.inl (d.sb _ _ gn0),?_⟩;clear l0 gn5;left;refine aA λR3 hR3=>?_;lia;refine aV A9 W.orders (λA σ H=>∃(L:aw->ξ aw),Jx8 λv3 I O G U v C c=>σ=[ab W.enc,ab (.ref Y),ab (.ref M),v3,I,O,G,U,v,C,c]/\EL H4 H M (nm W) R L/\(∀n x,x∈L n↔(n,x)∈A)/\∀n,(L n).length<=A.length) ⟨_,_,_,_,_,_,_,_,_,rfl,d,(λn x=>by simp),λn=>B8 _⟩ ?_ ?_;rotate_left
 .rintro A ⟨a,b⟩ B σ H N e ⟨L,v3,I,O,G,U,v,C,c,rfl,d,hL,hl⟩ X;ac_rfl;have hA:A.length<73:=by have:=U_ a7 e;rw[d_,n_] at this;omega
  have r:a≠b/\a∈nm W/\b∈nm W:=J.out.oo (a,b) (by rw[e];simp);have dcg:=d.dc;have lk:=gW (g:=R) r.2.1;have ga:=d.at_ a r.2.1;have hla:=hl a;have l2:=d.app r.2.1 b;have j:nW (N [ab W.enc,ab (.ref Y),ab (.ref M),v3,ab (.str a),ab (.str b),G,U,v,C,c] (fY H (R a) (.lst ((L a).map zi++[zi b])))):=⟨X _ _ ⟨_,_,_,_,_,_,_,_,_,rfl,l2,λn x=>by
   rw[x_,j_,kc,<- hL]
   unfold D6
   split
   ·
    rename_i z;subst z;rw[x_,j_];exact or_congr_right ⟨λq=>⟨rfl,q⟩,λq=>q.2⟩
   ·
    rename_i z;exact⟨.inl,λq=>q.resolve_right λq=>z q.1⟩,λn=>by
   rw[d_,z_]
   have:=hl n
   unfold D6
   split
   ·
    rw[d_,z_];omega
   ·
    omega⟩⟩
  clear X e k' hR3 hL hl l2 r;simp only[A9];lia;exact⟨AD,⟨AD,AD⟩,zo,j.out⟩
 rintro σ H ⟨L,v3,I,O,G,U,v,C,c,rfl,lg1,hL,hl⟩;ac_rfl;clear d;left;refine aA λR4 hR4=>?_;lia;refine aV prT W.pairs (λA σ H=>∃(L:aw->ξ aw),Jx8 λv3 I O G U v C c=>σ=[ab W.enc,ab (.ref Y),ab (.ref M),v3,I,O,G,U,v,C,c]/\EL H4 H M (nm W) R L/\(∀n x,x∈L n↔(n,x)∈W.orders++A.flatMap (DO ["with"]))/\∀n,(L n).length<=W.orders.length+2*A.length) ⟨_,_,_,_,_,_,_,_,_,rfl,lg1,(λn x=>by rw[hL];simp),λn=>by have:=hl n;simp;omega⟩ ?_ ?_;rotate_left
 .rintro A ⟨wd,a,b⟩ B σ H N e ⟨L,v3,I,O,G,U,v,C,c,rfl,d,hL,hl⟩ X;ac_rfl;have hA:A.length<13:=by have:=U_ a7 e;rw[d_,n_] at this;omega
  have r:a≠b/\a∈nm W/\b∈nm W:=(J.out.pp (wd,a,b) (by rw[e];simp)).2;have dcg:=d.dc;have lk:=gW (g:=R) r.2.1;have lk2:=gW (g:=R) r.2.2;have ga:=d.at_ a r.2.1;have hla:=hl a;have hlb:=hl b;by_cases c1:wd="with"
  .subst c1;have l2:=d.app r.2.1 b;have gb:=l2.at_ b r.2.2;rw[fV (a6 r.1)] at gb;have dcg2:=l2.dc;have l3:=l2.app r.2.2 a;rw[fV (a6 r.1)] at l3;have j:nW (N [ab W.enc,ab (.ref Y),ab (.ref M),v3,ab (.str a),ab (.str b),ab (.str "with"),U,v,C,c] (fY (fY H (R a) (.lst ((L a).map zi++[zi b]))) (R b) (.lst ((L b).map zi++[zi a])))):=⟨X _ _ ⟨_,_,_,_,_,_,_,_,_,rfl,l3,λn x=>by
    rw[NS,<- N4,x_,<- hL,SG,Z2,kc,kc]
    unfold D6
    by_cases z:n=b
    ·
     subst z
     rw[z3 rfl,x_,j_]
     exact or_congr_right ⟨λq=>.inr ⟨rfl,q⟩,λq=>q.elim (λq=>AL q.1.symm r.1) λq=>q.2⟩
    ·
     rw[zD z]
     by_cases z2:n=a
     ·
      subst z2
      rw[z3 rfl,x_,j_]
      exact or_congr_right ⟨λq=>.inl ⟨rfl,q⟩,λq=>q.elim (λq=>q.2) λq=>AL q.1 z⟩
     ·
      rw[zD z2]
      exact⟨.inl,λq=>q.resolve_right λq=>q.elim (λq=>z2 q.1) λq=>z q.1⟩,λn=>by
    rw[d_,z_]
    have:=hl n
    unfold D6
    split
    ·
     rw[d_,z_];omega
    ·
     split
     ·
      rw[d_,z_];omega
     ·
      omega⟩⟩
   clear X e k' hR4 hL hl l2 l3 r d;simp only[prT];lia;exact⟨AD,⟨AD,AD⟩,zo,⟨AD,AD⟩,zo,j.out⟩
  have j:nW (N [ab W.enc,ab (.ref Y),ab (.ref M),v3,ab (.str a),ab (.str b),ab (.str wd),U,v,C,c] H):=⟨X _ _ ⟨_,_,_,_,_,_,_,_,_,rfl,d,λn x=>by
   rw[NS,<- N4,x_,<- hL,SG]
   unfold DO
   rw[zD (by simpa using c1)]
   simp,λn=>by
   rw[d_,z_]
   have:=hl n
   omega⟩⟩
  clear X e k' hR4 hL hl r d;simp only[prT];lia;try simp only[c1,ED,u_,W_]
  exact⟨AD,j.out⟩
 rintro σ Hx ⟨L,v3,I,O,G,U,v,C,c,rfl,d,hL2,hl2⟩;ac_rfl;clear lg1 hL hl;have V:nW (∀n x,x∈L n↔Dx ["with"] W n x):=⟨hL2⟩;have hLl:∀n,(L n).length<=96:=λn=>by have:=hl2 n;omega
 clear hL2 hl2;left;right;intro pf hpf;have l0:EL Hx (fY Hx pf (.dct [])) pf [] (λ_=>0) (λ_=>[]):=⟨eH.new hpf,aq,(λ_ h=>nomatch h),(λ_ h=>nomatch h),(λ_ h=>nomatch h),hpf⟩;generalize fY Hx pf (.dct [])=H6 at l0 |-;clear hpf;have gnx:=d.sb _ _ gn0;have dcx:=d.dc;have atx:=nW.mk d.at_;have sbx:=(sb0.trans d.sb);clear d gn0 sb0;left;refine aA λR6 hR6=>?_;have gn6:=l0.sb _ _ gnx;lia;refine aV zi (nm W) (λA σ H=>∃(kd:aw->ae) (K:aw->ξ aw),Jx7 λv3 I O G v C c=>σ=[ab W.enc,ab (.ref Y),ab (.ref M),v3,I,O,G,ab (.ref pf),v,C,c]/\EL Hx H pf A kd K/\∀n∈A,∀x,x∈K n↔Kx W n x) ⟨_,_,_,_,_,_,_,_,_,rfl,l0,(λ_ h=>nomatch h)⟩ ?_ ?_
 .rintro σ H ⟨kd,K2,v3,I,O,G,v,C,c,rfl,l,hK⟩;refine⟨.inl (l.sb _ _ gnx),?_⟩;have fin:=nW.mk (k'.out H pf kd K2 (sbx.trans l.sb) l.dc l.at_ hK);clear k' l hK;left;lia;exact My.of eH.refl fin.out
 rintro A t B σ Hb N e ⟨kd,K2,v3,I,O,G,v,C,c,rfl,l,hK⟩ X;refine⟨.inl (l.sb _ _ gnx),?_⟩;have ht:t∈nm W:=by rw[e];simp
 have hnA:t∉A:=λz=>by have:=J.out.nd;unfold nm at e;rw[e,qo] at this;exact this.2.2 t z t A_ rfl
 have hAl:A.length<9:=by have:=U_ a7 e;rw[nl,d_,n_] at this;omega
 have gd:=l.sb _ _ dcx;have lk:=gW (g:=R) ht;have ga:=l.sb _ _ (atx.out t ht);have lt:=hLl t;have j:nW (∀(H2:lq) (ks:ξ aw) (D pk:ae) (c:ζ T),eH Hb H2->Hb pk=af->H2 pk=ab (.lst (ks.map zi))->(∀x,x∈ks↔Kx W t x)->N [ab W.enc,ab (.ref Y),ab (.ref M),ab (.str t),I,O,G,ab (.ref pf),ab (.ref D),ab (.ref pk),c] (fY H2 pf (.dct (BD t (zl pk) (dG kd A))))):=⟨λH2 ks D pk c s2 hk gk hks=>X _ _ ⟨D6 t pk kd,D6 t ks K2,_,_,_,_,_,_,_,rfl,(l.more s2).put hnA gk (λm r=>bB (l.at_ m r) hk) (cM l.sb hk),λn hn x=>by
  rcases x_.mp hn with hn | hn
  ·
   rw[show D6 t ks K2 n=K2 n from fV λz=>hnA (z▸hn)];exact hK n hn x
  ·
   rw[j_.mp hn,fL];exact hks x⟩⟩
 clear X e k' hR6 hK l0 gn6;right;intro D hpw;left;right;refine⟨zC,λpk hpk=>?_⟩;have hk0:=cV hpk;have sw:eH Hb (fY (fY Hb D (.lst ((L t).map zi))) pk (.lst (([]:ξ aw).map zi))):=(eH.new hpw).trans (eH.new hpk);have gw:fY (fY Hb D (.lst ((L t).map zi))) pk (.lst (([]:ξ aw).map zi)) D=ab (.lst ((L t).map zi)):=by rw[aF (a6 hk0.1)];exact aq
 have gk:fY (fY Hb D (.lst ((L t).map zi))) pk (.lst (([]:ξ aw).map zi)) pk=ab (.lst (([]:ξ aw).map zi)):=aq;rw[show (.lst []:O3)=.lst (([]:ξ aw).map zi) from rfl];generalize fY (fY Hb D (.lst ((L t).map zi))) pk (.lst (([]:ξ aw).map zi))=H7 at sw gw gk |-;clear hpk;left;refine aA λR9 hR9=>?_;have gt0:HE W t (L t) []:=⟨λx h=>⟨x,(V.out t x).mp (h.resolve_right Ap),.refl⟩,λx h=>.inl ((V.out t x).mpr h),(λ_ _ h=>nomatch h),LJ⟩;have kle:nW (∀ws ks,HE W t ws ks->ks.length<=8):=⟨λws ks g=>by
  have:=jL (l:=ks) (m:=nm W) g.nd λx hx=>by
   obtain⟨y,h1,h2⟩:=g.fr x (.inr hx)
   cases h2 with
   |refl=>exact (Bx J.out h1).2
   |step _ h=>exact (Bx J.out h).2
  omega⟩
 lia;refine⟨λm σ H=>∃(ws ks:ξ aw) (c:ζ T),σ=[ab W.enc,ab (.ref Y),ab (.ref M),ab (.str t),I,O,G,ab (.ref pf),ab (.ref D),ab (.ref pk),c]/\eH Hb H/\H D=ab (.lst (ws.map zi))/\H pk=ab (.lst (ks.map zi))/\HE W t ws ks/\ws.length<=96*(ks.length+1)/\m=(9 - ks.length)*100+ws.length,⟨_,L t,[],_,rfl,sw,gw,gk,gt0,by simp;exact lt,rfl⟩,?_⟩;rintro m σ H ⟨ws,ks,c,rfl,sb,gw,gk,gt,hwl,rfl⟩;have k8:=kle.out ws ks gt;have dr:=sb _ _ gd;clear gt0 sw;lia;refine⟨zC,λp hp=>?_⟩;have np:D≠p:=bB gw hp;have gw1:fY H p (.lst []) D=ab (.lst (ws.map zi)):=by rw[aF np];exact gw
 have gk1:fY H p (.lst []) pk=_ := IH gk hp;have sb1:eH Hb (fY H p (.lst [])):=sb.trans (eH.new hp);have gp1:fY H p (.lst []) p=ab (.lst []):=aq;generalize fY H p (.lst [])=H8 at gw1 gk1 sb1 gp1 |-;clear gw gk sb dr hp;have plw:=cT ws;have plk:=cT ks;have pln:([]:ξ T).all (pl 20)=ag:=rfl;rcases List.eq_nil_or_concat ws with k | ⟨u,x,k⟩
 .have x3:decide (ws.map zi=[])=ag:=by rw[k];rfl
  rw[k] at gt;have fin:=nW.mk (j.out H8 ks D pk c sb1 hk0.2 gk1 gt.fin);have gf:=sb1 _ _ l.dc;have lgl:(dG kd A).length=A.length:=g_ _;clear gt j kle V k atx;lia;left;lia;exact⟨AD,AD,AD,zo,fin.out⟩
 have x1:(ws.map zi)[ws.length - 1]?=ab (zi x):=by rw[k];simp
 have x2:(ws.map zi).dropLast=u.map zi:=by rw[k];simp
 have x3:decide (ws.map zi=[])=ai:=by rw[k];simp
 have xl:nW (ws.length=u.length+1):=⟨by rw[k];simp⟩;have plx:pl 20 (zi x)=ag:=rfl;rw[k,List.concat_eq_append] at gt;have hxn:x∈nm W:=by
  obtain⟨y,h1,h2⟩:=gt.fr x (.inl Ap);cases h2 with
  |refl=>exact (Bx J.out h1).2
  |step _ h=>exact (Bx J.out h).2
 have npk:D≠pk:=a6 hk0.1;have sb2:eH Hb (fY H8 D (.lst (u.map zi))):=jb sb1 hpw;by_cases hx:x∈ks
 .have x4:eQ ag (zi x) (ks.map zi)=ai:=by unfold eQ;rw[z3 rfl,Bool.not_eq_false',h_];exact t_.mpr ⟨x,hx,rfl⟩
  have g2:=nW.mk (gt.old hx);have Z:=nW.mk sb2;clear gt j kle V k atx hx sb2 hxn;lia;have xl':=xl.out;refine⟨AD,AD,AD,⟨AD,AD⟩,AD,AD,_,?_,u,ks,_,rfl,Z.out,rfl,rfl,g2.out,zo,rfl⟩;omega
 have x4:eQ ag (zi x) (ks.map zi)=ag:=by unfold eQ;rw[z3 rfl,NO,Mc];intro z;obtain⟨y,hy,e⟩:=t_.mp z;cases e;exact hx hy
 have g2:=nW.mk (gt.new hx (V.out x));have Z:eH Hb (fY (fY H8 D (.lst (u.map zi))) pk (.lst (ks.map zi++[zi x]))):=jb sb2 hk0.2;have gdx:=Z _ _ gd;have lkx:=gW (g:=R) hxn;have gax:=Z _ _ (l.sb _ _ (atx.out x hxn));have gwx:fY (fY H8 D (.lst (u.map zi))) pk (.lst (ks.map zi++[zi x])) D=ab (.lst (u.map zi)):=by rw[aF npk];exact aq
 have lx:=hLl x;have sb4:=nW.mk (jb (o:=.lst (u.map zi++(L x).map zi)) Z hpw);have k7:=(kle.out _ _ g2.out);rw[d_,z_] at k7;clear gt j kle V k atx hx sb2 hxn Z;lia;have xl':=xl.out;refine⟨AD,AD,AD,⟨AD,AD⟩,AD,AD,⟨AD,AD⟩,zo,⟨AD,AD⟩,zo,_,?_,u++L x,ks++[x],_,rfl,sb4.out,by rw[B_],by rw[B_];rfl,g2.out,?_,rfl⟩
 .rw[d_,d_,z_];omega
 rw[d_,d_,z_];omega
noncomputable abbrev kI:ξ aw:=[AK,Ch,"_law_led","_law_groups_here",GW,"_law_group"]
theorem NH:gV kI [AK] (aB (zw 56)):=aX
theorem Ef {f:ae} (g:G3 K mg "_law_groups" (zw 56) [AK] f fd) (B:Bl mg) (b:R7 P w K mg base 1 "_law_chained" (zw 55) [AK] Wf):R7 P w K mg base 2 "_law_groups" (zw 56) [AK] Z3:=by
 refine c6 g NH ?_;rintro _ A _ s H _ _ H3 _ X ⟨W,rfl,hW,kk⟩;have l:=xr.u30 X;have m:=xr.u31 X;have O:=xr.u1 X;refine⟨_,s!"1óůŰ{[EU]}1{[]}H<V{[EU]}=CU<!»2óağ`*'3óZ'Å4ó(5óůŰ{["_law_other",GW,"_law_led"]}1{[4,2]}HÅ{["_law_other",GW,"_law_led"]}=CķB:O÷µBöA:½z÷µ:öAB½z¢¡Ld]LoB!»ķ×@O|¨©ªDäx&qP%,%$?D/%$$$$",?_⟩
 ac_nf;have Z:=nW.mk kk;clear kk;have t8:=hW.t8;have nl:(nm W).length=W.tasks.length:=d8 W;have hW':=nW.mk hW;clear hW;right;walk_at "c";refine bA AY (λt=>zi t.1) W.tasks [] trivial zo ?c1 ?S
 case c1 =>
  intro t R Q' hq
  clear Z
  simp only[AY]
  lia
  try exact hq
 intro F L;have e1:W.tasks.map (λt=>zi t.1)=(nm W).map zi:=by unfold nm;rw[N_];rfl
 rw[e1];have q:eH H3 (fY H3 F (.lst ((nm W).map zi))):=eH.new L;have j:fY H3 F (.lst ((nm W).map zi)) F=ab (.lst ((nm W).map zi)):=aq;generalize fY H3 F (.lst ((nm W).map zi))=H4 at q j |-;clear e1 L;left;right;refine⟨W,rfl,hW'.out,λp pf kd K2 D gf M Y=>?_⟩;try dsimp only
 left;right;refine⟨zC,λd o=>?_⟩;have h0:=cM (q.trans D) o;have u:eH p (fY p d (.lst [])):=eH.new o;have n:fY p d (.lst []) d=ab (.lst ((([]:ξ aw).map (bu W)).map sT)):=aq;generalize fY p d (.lst [])=H6 at u n |-;left;refine aA λR3 hR3=>?_;have gn6:=u _ _ (D _ _ j);lia;refine aV zi (nm W) (λA σ H=>∃(C G:ζ T),σ=[ab W.enc,ab (.ref F),ab (.ref pf),ab (.ref d),C,G]/\eH p H/\H d=ab (.lst (((A.filter λt=>decide ((bu W t).head?=ab t)).map (bu W)).map sT))) ⟨_,_,rfl,u,n⟩ ?_ ?_
 .rintro σ H ⟨C,G,rfl,k,n⟩;refine⟨.inl (k _ _ (D _ _ j)),?_⟩;have fin:=nW.mk (Z.out H d ((q.trans D).trans k) n);clear Z;left;lia;exact My.of eH.refl fin.out
 rintro A t B σ H N e ⟨C,G,rfl,k,n⟩ hN;refine⟨.inl (k _ _ (D _ _ j)),?_⟩;have R:t∈nm W:=by rw[e];simp
 have hAl:A.length<9:=by have:=U_ a7 e;rw[nl,d_,n_] at this;omega
 have hfl:((A.filter λt=>decide ((bu W t).head?=ab t)).map (bu W)).length<=A.length:=by rw[g_];exact E6 _ _
 have gd:=k _ _ gf;have gn:=k _ _ (D _ _ j);have lkt:=gW (g:=kd) R;have gat:=k _ _ (M t R);have c:nW (∀C G H',eH p H'->H' d=ab (.lst (((A.filter λt=>decide ((bu W t).head?=ab t)).map (bu W)).map sT++if (bu W t).head?=ab t then [sT (bu W t)] else []))->N [ab W.enc,ab (.ref F),ab (.ref pf),ab (.ref d),C,G] H'):=⟨λC G H' s' g'=>hN _ _ ⟨_,_,rfl,s',by
  rw[g',LH,B_,B_]
  by_cases h:(bu W t).head?=ab t
  ·
   simp [h]
  ·
   simp [h]⟩⟩
 have I:=qZ (W:=W) R;clear hN e Z hR3;refine aA λR4 U=>?_;lia;walk_at "c";refine cg zi zi (λx=>decide (x=t)||(decide (x∈K2 t)&&decide (t∈K2 x))) (nm W) [ab (.str t),ab (.ref pf)] (.inl gn) zo (λx hx Q' hq=>?_) (λx hx hpx Q' hq=>?_) (λp1 v=>?_)
 .have lkx:=gW (g:=kd) hx;have gax:=k _ _ (M x hx);have m1:=j6 (x:=x) (xs:=K2 t);have m2:=j6 (x:=t) (xs:=K2 x);have p1:=cT (K2 t);have p2:=cT (K2 x);have q1:pl 20 (zi x)=ag:=rfl;have q2:pl 20 (zi t)=ag:=rfl;have a:=nW.mk hq;clear hq c U Y M I;lia;by_cases c1:x=t
  .have J:decide (x=t)=ag:=p_ c1;rw[J,rb] at a;simp only[J,if_true];exact a.out
  have J:decide (x=t)=ai:=q_ c1;rw[J,ON] at a;simp only[J,u_,W_];by_cases S:x∈K2 t
  .rw[p_ S,Lu] at a;simp only[S,Fu,if_true];exact⟨AD,AD,AD,AD,a.out⟩
  rw[q_ S,LZ] at a;simp only[S,ED,u_,W_];exact⟨AD,AD,a.out⟩
 .clear c U Y M I;lia;try exact hq
 rw[Ol Y R];clear Y M;have np:d≠p1:=bB n v;have s1:eH p (fY H p1 (.lst ((bu W t).map zi))):=k.trans (eH.new v);have g1:fY H p1 (.lst ((bu W t).map zi)) p1=ab (.lst ((bu W t).map zi)):=aq;have g2:fY H p1 (.lst ((bu W t).map zi)) d=ab (.lst (((A.filter λt=>decide ((bu W t).head?=ab t)).map (bu W)).map sT)):=by rw[aF np];exact n
 generalize fY H p1 (.lst ((bu W t).map zi))=H7 at s1 g1 g2 |-;generalize (A.filter λt=>decide ((bu W t).head?=ab t)).map (bu W)=cur at *;clear gd gn gat n v lkt;left;cases eg:bu W t with
 |nil=>rw[eg] at I;cases I
 |cons y r =>
 rw[eg] at c g1;clear I;simp only[sT,I_,List.head?_cons] at c g1;lia;by_cases V:y=t
 .rw[z3 (p_ V)];refine⟨⟨AD,AD⟩,zo,c.out _ _ _ (jb s1 o) ?_⟩;rw[aq,z3 (by rw[V])]
 rw[zD (vG V)];exact c.out _ _ _ s1 (by rw[g2,zD λz=>V (O_ z),C9])
noncomputable abbrev Cg:ξ aw:=[AK,BE,"_law_row","_law_at"]
theorem Pf:gV Cg [AK,BE] (aB (zw 53)):=aX
theorem JX {f:ae} (g:G3 K mg "_law_moved" (zw 53) [AK,BE] f z) (B:Bl mg):R7 P w K mg base 1 "_law_moved" (zw 53) [AK,BE] VY:=by
 refine c6 g Pf ?_;rintro _ _ _ s _ _ ts H3 Q D ⟨W,c,rfl,v,y⟩;have d:=xr.u30 D;refine⟨_,s!"<ĸ3{Pf.nd}¦:>)WSØ'bnu:>)pADÙÃĹAÃDÙĹÆĸbn¦:>)¤p{Mv}AĺÙ#2ĸ%,%$,BÃĵĹWEÆ/%$$$",?_⟩
 ac_nf;have n:=nW.mk y;clear y;have S:=v.r8;have V:=v.r1;have a:∀(r:ξ aw) (σ:ξ (ζ T)),r.length=W.row.length->(∀x∈r,x∈W.row)->My Q (.tup ([.tup (W.tasks.map AY),.tup (W.orders.map A9),.tup (W.pairs.map prT)]++[.tup (r.map zi)])) H3:=λr _ G M=>My.of eH.refl (n.out r G M);right;left;have Y:=X_ (c / 8) (show (W.row.length:Int)≠0 by omega);have N:=T_ (c / 8) (show (0:Int)<(W.row.length:Int) by omega);obtain⟨j,R⟩:∃j:Nat,c / 8%(W.row.length:Int)=(j:Int):=⟨(c / 8%(W.row.length:Int)).toNat,zo⟩;have O:Gj (c / 8) (W.row.length:Int):=⟨zo,JU (ME _) zo⟩;right;refine⟨⟨zC,AQ⟩,zo,?_⟩;left;refine aA λR2 o=>?_;have key:∀(r:ξ aw),r.length=W.row.length->(∀x∈r,x∈W.row)->R2 { nx:=λ_ H'=>My Q T.non H',rt:=My Q} [ab W.enc,ab (zh c),ab (zk (r.map zi)),ab (zh (j:Int))] H3:=by intro r m l;have f:=a r [] m l;have L:=nW.mk f;clear f a n m l;left;rw[show W.enc=zk [.tup (W.tasks.map AY),.tup (W.orders.map A9),.tup (W.pairs.map prT),.tup (W.row.map zi)] from rfl];lia;rw[show ∀ts:ξ T,eU ts af (ab 3)=ts.take 3 from λts=>rY (k:=3)];exact⟨zC,Ap,L.out⟩
 have b:=nW.mk key;clear key o a n;lia;refine⟨zC,?_⟩;by_cases u:c%4=1
 .rw[z3 (p_ u)];rw[u6,rY,<- kf,<- oa,<- B_];have q:∀x∈W.row.drop j++W.row.take j,x∈W.row:=λx e=>by
   rcases x_.mp e with e | e
   .exact List.mem_of_mem_drop e
   exact fy e
  have t:(W.row.drop j++W.row.take j).length=W.row.length:=by rw[d_,ND,F3];omega
  generalize W.row.drop j++W.row.take j=r at q t |-;refine⟨by rw[g_,g_,ND,F3];omega,⟨zC,AQ⟩,zC,?_⟩;by_cases C:c / 4%2=1
  .rw[z3 (p_ C),<- OA];exact⟨AD,b.out r.reverse (by rw[IG];exact t) λx e=>q x (List.mem_reverse.mp e)⟩
  rw[zD (vG C)];exact b.out r t q
 rw[zD (vG u)];exact b.out W.row rfl λ_ h=>h
noncomputable abbrev JZ:ξ aw:=[Bn,C6,"_law_first",BE,BS,KP,"_law_j"]
theorem Kk:gV JZ [Bn,C6] (aB (zw 43)):=aX
theorem O8 {f:ae} (g:G3 K mg "_law_cell" (zw 43) [Bn,C6] f fd) (B:Bl mg):R7 P w K mg base 1 "_law_cell" (zw 43) [Bn,C6] Oe:=by
 refine c6 g Kk ?_;rintro _ _ _ s H _ _ H3 _ hr ⟨a,ns,k,rfl,G,hl,hk,kk⟩;have u:=xr.u30 hr;refine⟨_,s!"2ôűBR_)£'ÎnuA>)pűBŲR_>)):K/%,3ôBu:`S)K'lļ>)l>:)Æã¤Ļkl@@):)¤Ļ5ô>'Ry6ô(l@>)ã¤Ļ5ôklT>)@)'%$?T/%$$$$$$$",?_⟩
 ac_nf;have L:=nW.mk kk;clear kk;right;refine⟨zC,λp1 m=>?_⟩;have R:a≠p1:=bB G m;lia;refine⟨zo,λV j=>?_⟩;have M:a≠V:=bB G (cV j).2;have D:eH H3 (fY (fY H3 p1 (.lst [zh 0])) V (.lst (ns.map zh++[zh 0]))):=(eH.new m).trans (eH.new j);have e1:ns.map zh++[zh 0]=(ns++[0]).map zh:=by rw[B_];rfl
 obtain⟨I,o⟩:=tQ (ns:=ns++[0]) (i:=0) (by rw[d_];simp);rw[e1] at D |-;have b:AR ((ns++[0]).map zh) 0=ab (zh I):=o;rw[b,eY];have d:I%2≠0->1<=ns.length:=λh=>by
  cases ns with
  |nil =>
   have z:AR (([0]:ξ Int).map zh) 0=ab (zh 0):=rfl
   rw[SV,z] at b
   cases b
   exact AL rfl h
  |cons x r=>simp
 have J:=D _ _ G;generalize fY (fY H3 p1 (.lst [zh 0])) V (.lst ((ns++[0]).map zh))=H4 at D J |-;clear o b e1 R M m j G;left;refine aA λR1 W=>?_;lia;refine⟨zC,?_⟩;by_cases e:I%2=0
 .rw[p_ e,z3 rfl];clear W d;try lia
  refine⟨zC,λq1 F=>⟨⟨zC,zC,zC⟩,λq2 q=>?_⟩⟩;have Z:a≠q1:=bB J F;have n2:a≠q2:=bB J (cV q).2;rw[aF n2,aF Z,J,JB];have e2:(a3 (c_ 64) [zh 0]).flatten=(a3 64 (0:Int)).map zh:=rfl;rw[e2];refine⟨by rw[g_,g_,IQ];omega,λq3 O=>?_⟩;obtain⟨c,ec⟩:=tQ (ns:=ns++a3 64 0) (i:=k) (by rw[d_,IQ];omega);rw[GD,aq,z9,<- B_,ec,eY];exact My.of (D.trans ((eH.new F).trans ((eH.new q).trans (eH.new O)))) (L.out c)
 rw[q_ e,zD M_];have h1:=d e;clear d;left;refine aA λR2 hR2=>?_;obtain⟨p,v⟩:=tQ (ns:=ns) (i:=k%ns.length) (w4 _ zo);have C:AR (ns.map zh) ((k:Int)%(ns.length:Int))=ab (zh p):=v;clear v;lia;refine⟨zo,?_⟩;left;refine aA λR3 hR3=>?_;have z0:=X_ p (show (2147483647:Int)≠0 by decide);have z1:=T_ p (show (0:Int)<2147483647 by decide);clear C;lia;refine⟨zC,.inr ⟨zC,zC⟩,.inl ⟨zC,zC⟩,zC,?_⟩;generalize p%2147483647=z at z0 z1;have y0:=X_ (z*48271+69621*(k:Int)+7919) (show (2147483629:Int)≠0 by decide);have y1:=T_ (z*48271+69621*(k:Int)+7919) (show (0:Int)<2147483629 by decide);generalize (z*48271+69621*(k:Int)+7919)%2147483629=y at y0 y1;left;right;refine⟨.inl ⟨zo,zo⟩,zC,?_⟩;have x0:=X_ (y*y+(k:Int)) (show (2147483587:Int)≠0 by decide);have x1:=T_ (y*y+(k:Int)) (show (0:Int)<2147483587 by decide);generalize (y*y+(k:Int))%2147483587=x at x0 x1;left;right;left;refine aA λR6 Y=>?_;lia;refine⟨by first | trivial | decide,zC,zC,?_⟩;generalize fH 0 (c_ 9)=ts0;refine jh (λr σ H=>∃(n X:Int) (S:ζ T),σ=[ab (.ref a),ab (.int (k:Int)),ab (.int I),ab (.int p),ab (.int n),ab (.int X),S]/\0<=n/\n<2147483629/\eH H3 H) ⟨x,0,_,rfl,x0,zo,D⟩ ?_ ?_
 .rintro σ H ⟨n,X,S,rfl,_,_,l⟩;ac_rfl;left;lia;exact My.of l (L.out _)
 rintro t r σ H N ⟨n,X,S,rfl,n0,Z,l⟩ hN;ac_rfl;have hM:=nW.mk hN;clear hN Y L;lia;refine⟨.inl ⟨zo,zo⟩,zC,.inr ⟨zC,zC⟩,?_⟩;exact hM.out _ _ ⟨_,_,_,rfl,X_ _ zC,Int.lt_trans (T_ _ zC) zC,l⟩
noncomputable abbrev J0:ξ aw:=[BE,"_law_letters","_law_word_here","_law_rest","_law_j"]
theorem MZ:gV J0 [BE] (aB (zw 44)):=aX
theorem O9 {f:ae} (g:G3 K mg "_law_word" (zw 44) [BE] f F) (B:Bl mg):R7 P w K mg base 1 "_law_word" (zw 44) [BE] V9:=by
 refine c6 g MZ ?_;rintro _ _ _ s H _ _ H3 _ _ ⟨c,rfl,C⟩;refine⟨_,s!"1ÝË'2ÝË'3ÝÇ'ďÚ&y4Ý(2ÝļĐĳ'3Ýë'%$?Ñ%$$$$",?_⟩
 ac_nf;have S:(BA oW).length<=am:=by rw[dZ];decide
 have v:=nW.mk C;clear C;have U:("":aw)=BA []:=by decide +kernel
 right;simp only[Jc];left;right;left;right;refine⟨⟨zC,AQ⟩,?_⟩;left;refine aA λR3 p=>?_;lia;have m0:=X_ c (show (8:Int)≠0 by decide);have V:=T_ c (show (0:Int)<8 by decide);refine⟨zC,AD,zo,zo,?_⟩;have j:(fH 0 (1+c%8).toNat).length=(1+c%8).toNat:=by unfold fH;rw[g_,D_]
 generalize fH 0 (1+c%8).toNat=J at j;try rw[U]
 generalize c / 8=q;refine jh (λr σ H=>∃(a:ξ Nat) (d:Int) (t:ζ T),σ=[ab (.int c),ab (.str (BA oW)),ab (.str (BA a)),ab (.int d),t]/\(a.length:Int)+r.length=1+c%8/\(∀x∈a,97<=x/\x<=122)/\H3=H) ⟨[],q,_,rfl,by rw[j,EW];omega,(λ_ z=>nomatch z),rfl⟩ ?_ ?_
 .rintro σ H ⟨a,d,t,rfl,b,m,rfl⟩;ac_rfl;rw[EW] at b;left;lia;exact My.of eH.refl (v.out _ (QX zo zo m))
 rintro x r σ H X ⟨a,d,t,rfl,b,m,rfl⟩ k;ac_rfl;rw[n_] at b;have I:=nW.mk k;have n:=nW.mk m;have D:a.length<8:=zo
 have l:=nW.mk b;have G:=X_ d (show (26:Int)≠0 by decide);have N:=T_ d (show (0:Int)<26 by decide);have u:=Jd (d%26) G N;clear k v p b m;lia;simp only[jl,u,eY];lia;rw[show (⟨#[97+(d%26).toNat]⟩:aw)=BA [97+(d%26).toNat] from rfl];refine⟨zC,S,by rw[dZ,dZ];simp only[z_];omega,⟨zC,AQ⟩,?_⟩;rw[Bg];exact I.out _ _ ⟨_,_,_,rfl,by rw[d_,z_];have:=l.out;push_cast;omega,λy e=>by
  rcases x_.mp e with e | e
  ·
   exact n.out y e
  ·
   rw[j_.mp e];omega,rfl⟩
noncomputable abbrev xf:ξ aw:=[KL,"_law_letters",KP,"_law_word_here"]
theorem PY:gV xf [KL] (aB (zw 45)):=aX
theorem Eg {f:ae} (g:G3 K mg "_law_unlike" (zw 45) [KL] f fd) (B:Bl mg):R7 P w K mg base 1 "_law_unlike" (zw 45) [KL] Wa:=by
 refine c6 g PY ?_;rintro _ A _ s H _ _ H3 _ hr ⟨a,ws,rfl,G,hl,v,Z⟩;have u:=xr.u31 hr;refine⟨_,s!"1ęË'2ęZ'Õ3ę(ÎµDAz3ęDÃĺÙê{PySem.F.plainAttrs_str}{PySem.F.slot_str_index}{PySem.F.type_str_index}{Gv}:ĺĽ&qã¤ĐÆ'%û|¨©ªAXqP%$?Ñ%$$$",?_⟩
 ac_nf;have al:(BA oW).length<=am:=by rw[dZ];decide
 have Y:=nW.mk Z;clear Z;right;simp only[Jc];left;right;refine⟨zC,λn C=>?_⟩;have t:a≠n:=bB G C;left;refine aA λR2 R=>?_;have ga:fY H3 n (.lst []) a=ab (.lst (ws.map zi)):=by rw[aF t];exact G
 lia;have D:=nW.mk v;clear v;refine aV zi ws (λA σ H=>∃(c:ξ aw) (v3:ζ T),σ=[ab (.ref a),ab (.str (BA oW)),ab (.ref n),v3]/\H=fY H3 n (.lst (c.map zi))/\c.length=A.length/\DV c) ⟨[],_,rfl,rfl,rfl,DV.nil⟩ ?_ ?_
 .rintro σ H ⟨c,v3,rfl,rfl,r,J⟩;refine⟨.inl (by rw[aF t];exact G),?_⟩;left;lia;exact My.of eH.refl (Y.out c r J n C)
 rintro A x B σ H N e ⟨c,v3,rfl,rfl,r,J⟩ hN;refine⟨.inl (by rw[aF t];exact G),?_⟩;have hA:A.length+1<=8:=by have:=U_ a7 e;simp only[d_,n_] at this;omega
 obtain⟨b,d,rfl,V,hs0,O⟩:=Oh (D.out x (by rw[e];simp));have M:=nW.mk hN;clear hN e R Y ga;have gf:fY H3 n (.lst (c.map zi)) n=ab (.lst (c.map zi)):=aq;refine aA λR3 U=>?_;lia;refine DN (λm σ H=>∃j:Nat,m+j=8/\σ=[ab (.ref a),ab (.str (BA oW)),ab (.ref n),ab (.str (ER b d j))]/\H=fY H3 n (.lst (c.map zi))/\∀i,i<j->ER b d i∈c) ⟨8,0,rfl,rfl,rfl,(λ_ z=>AL z zo)⟩ ?_;intro m σ H hI WI TB NX l k o;obtain⟨j,hm,rfl,rfl,p⟩:=hI;have hj:j<=c.length:=by
  rcases qf c.length j with z | z
  .exact (UQ c (λi=>ER b d i) (λi i' h1 h2 h=>Og zo zo h) λi hi=>p i zo).elim
  exact z
 lia;refine⟨rfl,cT c,?_⟩;split
 .rename_i q;have L:ER b d j∈c:=PM λh=>AL q (by rw[j6];simp [h]);clear o U;obtain⟨k⟩:=k;subst k;try dsimp only
  lia;have X:=Oi b d j;have md:=w4 (d+j) (show 0<26 by decide);have y:=Vv (97+(d+j)%26) zo zo;refine⟨zo,by first | trivial | omega,zo,?_⟩;rw[Oj,Fb,eY,show (⟨#[97+(d+j)%26]⟩:aw)=BA [97+(d+j)%26] from rfl,y];clear y;lia;have W:=Jd ((((97+(d+j)%26 - 97:Nat):Int)+1)%26) (X_ _ zC) (T_ _ zC);have en:((((97+(d+j)%26 - 97:Nat):Int)+1)%26).toNat=(d+(j+1))%26:=zo
  have sn:gX (ER b d j) af (ab (-1))=BA b:=Wc b _;refine⟨zC,al,?_⟩;rw[jl,W,eY,en,sn,show (⟨#[97+(d+(j+1))%26]⟩:aw)=BA [97+(d+(j+1))%26] from rfl,Bg];obtain⟨l⟩:=l;subst l;refine⟨by rw[dZ,dZ];simp only[z_];omega,m - 1,zo,j+1,zo,rfl,rfl,λi hi=>?_⟩;rcases qf i j with z | z
  .exact p i z
  rw[show i=j by omega];exact L
 rename_i q;have I:ER b d j∉c:=λh=>q (by rw[j6];simp [h]);clear k l;obtain⟨o⟩:=o;subst o;left;try dsimp only
 lia;refine⟨⟨AD,AD⟩,zo,M.out _ _ ⟨c++[ER b d j],ab _,rfl,?_,by rw[d_,d_,r];rfl,J.snoc (Wb V O) I⟩⟩;rw[B_];rfl
noncomputable abbrev J1:ξ aw:=[BE,KL,C6]
theorem Rs:gV J1 [BE] (aB (zw 46)):=aX
theorem Pa {f:ae} (g:G3 K mg "_law_pool" (zw 46) [BE] f I) (B:Bl mg) (d:R7 P w K mg base 1 "_law_word" (zw 44) [BE] V9) (a:R7 P w K mg base 1 "_law_unlike" (zw 45) [KL] Wa):R7 P w K mg base 2 "_law_pool" (zw 46) [BE] Z0:=by
 refine c6 g Rs ?_;rintro _ _ q s H _ _ H3 _ D ⟨c,rfl,G⟩;refine⟨_,s!"1ņZ'Ry2ņ(bŒuBÈì)&*&åP0ņÈìí'%$?øŒQ*/%$$",?_⟩
 ac_nf;have C:=nW.mk G;clear G;right;refine⟨zC,λj t=>?_⟩;left;refine aA λZ u=>?_;lia;refine⟨AD,zC,zC,?_⟩;have F:(fH 0 (c_ 8)).length=8:=by unfold fH;rw[g_,D_];rfl
 generalize fH 0 (c_ 8)=S at F;refine jh (λr σ H=>∃(ws:ξ aw) (c:Int) (m:ζ T),σ=[ab (.int c),ab (.ref j),m]/\H=fY H3 j (.lst (ws.map zi))/\ws.length+r.length=8/\∀x∈ws,A1 x) ⟨[],c,_,rfl,rfl,by rw[F];rfl,(λ_ z=>nomatch z)⟩ ?_ ?_
 .rintro σ H ⟨ws,c,m,rfl,rfl,v,n⟩;ac_rfl;rw[EW] at v;left;lia;refine⟨j,ws,rfl,aq,zo,n,λus X W p M=>?_⟩;refine My.of ?_ (C.out us zo W p (cV M).2);intro b o k;by_cases e:b=p
  .subst e;rw[aq] at k |-;exact k
  rw[aF e] at k |-;rw[aF (bB k t)];exact k
 rintro x r σ H N ⟨ws,c,m,rfl,rfl,v,n⟩ J;ac_rfl;rw[n_] at v;have R:=nW.mk J;clear J u C;have O:fY H3 j (.lst (ws.map zi)) j=ab (.lst (ws.map zi)):=aq;lia;refine⟨⟨AD,AD⟩,⟨zC,zC,zC⟩,.inl ⟨zC,zC⟩,zC,_,rfl,λy L=>?_⟩;dsimp only;rw[O,GF];refine⟨by rw[g_];omega,⟨zC,zC,zC⟩,.inl ⟨zC,zC⟩,⟨zC,AQ⟩,R.out _ _ ⟨ws++[y],_,_,rfl,?_,by rw[d_,z_];omega,λz l=>?_⟩⟩
 .rw[B_];exact mJ
 rcases x_.mp l with l | l
 .exact n z l
 rw[j_.mp l];exact L
noncomputable abbrev J2:ξ aw:=[BE,"_law_row",LO,"_law_unit","_law_stand","_law_turn",B7,"_law_rest",C6,"_law_other","_law_at","_law_digit","_law_length"]
theorem E2:gV J2 [BE,"_law_row",LO,"_law_unit"] (aB (zw 47)):=aX
theorem Pb {f:ae} (g:G3 K mg "_law_task" (zw 47) [BE,"_law_row",LO,"_law_unit"] f fd) (B:Bl mg) (t:R7 P w K mg base 1 "_law_word" (zw 44) [BE] V9):R7 P w K mg base 2 "_law_task" (zw 47) [BE,"_law_row",LO,"_law_unit"] Z1:=by
 refine c6 g E2 ?_;rintro _ _ _ s H _ _ H3 Q hr ⟨c,Y,pp,row,d,a,rfl,R,r1,r8,hrn,hpp,p8,hpn,u1,u2,kk⟩;have hu30:=xr.u30 hr;have hu31:=xr.u31 hr;refine⟨_,s!"4¥uBQS)'5¥QSí¤'0¥QSìí'Zľňnďp:@K&_ľ7¥Ç'Ry8¥(9¥:@K&_ĳuf>)K'7¥¦f>)'Ĝċ¹^z|¨©ª^ĿqP%,%$$?Â¥uf>)ÖSØ'^YÙÃê^ÃYÙêÆľ%$$$$,0¥ll>>)>)í'Ì¥Ç¤Ú'ß¥elDe)Ç¤ÆÇÈĄØÚ&++_ďK'²Öxº§Èìí&*&++ĴhE/%$$$$$$$$",?_⟩
 ac_nf;have k':=nW.mk kk;clear kk;have hrn':=nW.mk hrn;have hpn':=nW.mk hpn;clear hrn hpn;right;have b0:=X_ c (show (row.length:Int)≠0 by omega);have b1:=T_ c (show (0:Int)<(row.length:Int) by omega);refine⟨zo,?_⟩;obtain⟨s,hs⟩:∃s:Nat,c%(row.length:Int)=(s:Int):=⟨(c%(row.length:Int)).toNat,zo⟩;rw[hs] at b0 b1 |-;have D:s<row.length:=zo
 have lg:(row.length:Int).natAbs.log2<9000:=JU (ME _) zo;have lg8:(8*(row.length:Int)).natAbs.log2<9000:=JU (ME _) zo;clear hs;left;right;refine⟨⟨zo,lg⟩,zC,?_⟩;have t0:=X_ (c / (row.length:Int)) (show (8:Int)≠0 by decide);have t1:=T_ (c / (row.length:Int)) (show (0:Int)<8 by decide);generalize c / (row.length:Int)%8=tn at t0 t1;left;right;refine⟨.inl ⟨zC,zC⟩,⟨zo,lg8⟩,?_⟩;generalize c / (8*(row.length:Int))=c2;left;right;refine⟨zC,λX C=>?_⟩;left;refine aA λR4 hR4=>?_;have key:nW (∀(p:ae) (ks:ξ aw) (v7 V W v10:ζ T) (I:lq),eH H3 I->I p=ab (.lst (ks.map zi))->DV ks->ks.length<=4->R4 { nx:=λx H'=>My Q T.non H',rt:=My Q} [ab (.int c2),ab (.ref Y),ab (.ref pp),ab (.int a),ab (.int (s:Int)),ab (.int tn),ab (.ref p),v7,V,W,v10,af,af] I):=by
  refine⟨λp ks v7 V W v10 I u gp O hk4=>?_⟩;clear R hpp C;left;refine aA λR5 hR5=>?_;lia;refine⟨.inl ⟨zC,zC⟩,.inl ⟨zC,zC⟩,⟨zC,AQ⟩,?_⟩;generalize c2 / (4*729*4)=k;left;right;refine⟨⟨zC,AQ⟩,zC,?_⟩;have d0:=X_ (k / 3) (show (9:Int)≠0 by decide);have d1:=T_ (k / 3) (show (0:Int)<9 by decide);generalize k / 3%9=dg at d0 d1;left;right;refine⟨.inr ⟨zo,zo⟩,⟨zC,AQ⟩,zC,⟨zC,AQ⟩,⟨zC,zC,zC⟩,AQ,zC,λM e=>⟨zC,?_⟩⟩;have i0:=X_ k (show (3:Int)≠0 by decide);have i1:=T_ k (show (0:Int)<3 by decide);have e0:=X_ (k / 27) (show (2:Int)≠0 by decide);have e1:=T_ (k / 27) (show (0:Int)<2 by decide);have f0:=X_ (k / 3) (show ((10:Int)^c_ 60 - 1)≠0 by decide +kernel);have f1:=T_ (k / 3) (show (0:Int)<(10:Int)^c_ 60 - 1 by decide +kernel);have m1:a*(1+dg)<=10^57*9:=xc u2 zo zo AQ;have m0:1*1<=a*(1+dg):=xc u1 zo zC zo;have p60:(10:Int)^c_ 60=10^60:=rfl;rw[p60] at f0 f1 |-;have sb7:=u.trans (eH.new (o:=.lst [zh (1+dg),zh (a*(1+dg)+k / 27%2),zh (1+k / 3%(10^60 - 1))]) e);have gp7:fY I M (.lst [zh (1+dg),zh (a*(1+dg)+k / 27%2),zh (1+k / 3%(10^60 - 1))]) p=_ := IH gp e;generalize fY I M (.lst [zh (1+dg),zh (a*(1+dg)+k / 27%2),zh (1+k / 3%(10^60 - 1))])=H5 at sb7 gp7 |-;generalize a*(1+dg)=ud at *;generalize k / 27%2=e27 at *;generalize k / 3%(10^60 - 1)=e3 at *;obtain⟨q,J,l1,l2⟩:∃q:Int,AR [zh (1+dg),zh (ud+e27),zh (1+e3)] (k%3)=ab (zh q)/\1<=q/\q<10^60:=by
   rcases (show k%3=0\/k%3=1\/k%3=2 by omega) with h | h | h
   .rw[h];exact⟨_,rfl,zo,zo⟩
   .rw[h];exact⟨_,rfl,zo,zo⟩
   rw[h];exact⟨_,rfl,zo,zo⟩
  rw[J,eY];clear J gp u e;left;lia;refine⟨⟨zC,zC,zC⟩,.inl ⟨zC,zC⟩,⟨AQ,AQ⟩,_,rfl,λy hy=>⟨zC,?_⟩⟩;exact My.of sb7 (k'.out s tn q ks y D t0 t1 l1 l2 O hk4 hy)
 have n:fY H3 X (.lst []) Y=_ := IH R C;have v:fY H3 X (.lst []) X=ab (.lst (([]:ξ aw).map zi)):=aq;have F:eH H3 (fY H3 X (.lst [])):=eH.new C;generalize fY H3 X (.lst [])=I at n v F |-;clear C hR4 k';lia;refine⟨zC,?_⟩;by_cases h4:c2%4=1
 .rw[p_ h4,z3 rfl];try rw[n,z9]
  rw[m5 D,eY];refine⟨zC,λpf hpf=>⟨⟨zC,AQ⟩,by first | trivial | decide,zC,zC,?_⟩⟩;have f0:=cM F hpf;have rl:(fH 0 (c_ 3)).length=3:=by unfold fH;rw[g_,D_];rfl
  generalize fH 0 (c_ 3)=ts0 at rl;have hxs:=hrn'.out _ (Cc D);have Z:=nW.mk hxs;clear hxs;refine jh (λr σ H=>∃(l:ξ aw) (AB:Int) (V W:ζ T),σ=[ab (.int c2),ab (.ref Y),ab (.ref pp),ab (.int a),ab (.int (s:Int)),ab (.int tn),ab (.ref pf),ab (.int AB),V,W,af,af,af]/\eH H3 H/\H pf=ab (.lst (l.map zi))/\DV l/\l.length+r.length<=4/\1<=l.length) ⟨[row.getD s ""],c2 / 4,_,_,rfl,F.trans (eH.new hpf),aq,DV.nil.snoc Z.out (λz=>nomatch z),by rw[rl];exact o_ 4,o_ 1⟩ ?_ ?_
  .rintro σ H ⟨l,AB,V,W,rfl,u,U,O,hl,hm⟩;ac_rfl;clear n v;lia;have fl:=hm;have a0:=X_ (AB%4) (show (l.length:Int)≠0 by omega);have a1:=T_ (AB%4) (show (0:Int)<(l.length:Int) by omega);obtain⟨j,hj⟩:∃j:Nat,AB%4%(l.length:Int)=(j:Int):=⟨(AB%4%(l.length:Int)).toNat,zo⟩;refine⟨zC,zo,λM e=>?_⟩;rw[hj,aF (bB U e),U,Qo,u6,rY];intro q2 m;have n12:M≠q2:=bB aq m;rw[Gz,aF n12,aq,aq,lw];refine⟨by rw[ND,F3,g_];omega,λq3 hq3=>?_⟩;have pm:(l.drop j++l.take j).Perm l:=List.perm_append_comm.trans (by rw[List.take_append_drop]);refine key.out q3 (l.drop j++l.take j) _ _ _ _ _ (u.trans ((eH.new e).trans ((eH.new m).trans (eH.new hq3)))) (by rw[aq,B_,kf,oa]) ⟨λx hx=>O.nm x (pm.mem_iff.mp hx),pm.nodup_iff.mpr O.nd⟩ (by rw[pm.length_eq];simpa using hl)
  rintro x r σ H N ⟨l,AB,V,W,rfl,u,U,O,hl,hm⟩ hN;ac_rfl;rw[n_] at hl;have hM:=nW.mk hN;clear hN n v key;have n:=u _ _ R;have L:=u _ _ hpp;right;try rw[m5 D,eY]
  refine⟨zC,λM e=>?_⟩;rw[aF (bB L e),L,lw];refine⟨by rw[g_,z_];omega,λq2 m=>?_⟩;have S:=u.trans ((eH.new (o:=.lst [zi (row.getD s "")]) e).trans (eH.new (o:=.lst (d.map zi++[zi (row.getD s "")])) m));have gf5:fY (fY H M (.lst [zi (row.getD s "")])) q2 (.lst (d.map zi++[zi (row.getD s "")])) pf=ab (.lst (l.map zi)):=by rw[aF (bB (eH.new e _ _ U) m),aF (bB U e)];exact U
  have h0:=X_ AB (show (9:Int)≠0 by decide);have h1:=T_ AB (show (0:Int)<9 by decide);obtain⟨j,hj⟩:∃j:Nat,AB%9=(j:Int):=⟨(AB%9).toNat,zo⟩;have hat:AR (d.map zi++[zi (row.getD s "")]) (j:Int)=ab (zi ((d++[row.getD s ""]).getD j "")):=by have:=m5 (ns:=d++[row.getD s ""]) (i:=j) (by rw[d_,z_];omega);rw[B_] at this;exact this
  have G:A1 ((d++[row.getD s ""]).getD j ""):=by
   have:=Cc (ns:=d++[row.getD s ""]) (i:=j) (by rw[d_,z_];omega);rcases x_.mp this with z | z
   .exact hpn'.out _ z
   rw[j_.mp z];exact Z.out
  refine⟨zC,?_⟩;rw[hj,GD,aq,z9,hat,eY];generalize fY (fY H M (.lst [zi (row.getD s "")])) q2 (.lst (d.map zi++[zi (row.getD s "")]))=H5 at S gf5 |-;generalize (d++[row.getD s ""]).getD j ""=oth at G |-;clear hat e m n L u U;left;lia;refine⟨⟨zC,AQ⟩,rfl,cT l,?_⟩;split
  .rename_i hm1;have hni:=(ZO mU (x:=oth)).mp hm1;try lia
   refine⟨⟨AD,AD⟩,zo,hM.out _ _ ⟨l++[oth],_,_,_,rfl,?_,?_,O.snoc G hni,by rw[d_,z_];omega,by rw[d_];omega⟩⟩
   .intro b o hb;rw[aF (bB hb f0)];exact S b o hb
   rw[aq,B_];rfl
  exact hM.out _ _ ⟨l,_,_,_,rfl,S,gf5,O,zo,hm⟩
 rw[q_ h4,zD M_];exact key.out X [] _ _ _ _ I F v DV.nil zC
noncomputable abbrev ug:ξ aw:=[Bn,Ch,B7,"_law_rank","_law_base","_law_ahead","_law_beside","_law_orders","_law_pairs","_law_p","_law_q",EE,"_law_other","_law_word_here"]
theorem FA:gV ug [Bn,Ch,B7] (aB (zw 48)):=aX
theorem J3 {f:ae} (g:G3 K mg "_law_links" (zw 48) [Bn,Ch,B7] f fd) (B:Bl mg) (r:R7 P w K mg base 1 "_law_cell" (zw 43) [Bn,C6] Oe):R7 P w K mg base 2 "_law_links" (zw 48) [Bn,Ch,B7] U1:=by
 refine c6 g FA ?_;rintro _ A _ s H _ _ H3 _ hr ⟨a,pn,ps,sc,ns,c,rfl,ha,hsc,hpn,hnn,hn8,hps,hsl,kk⟩;have I:=xr.u30 hr;have hu31:=xr.u31 hr;refine⟨_,s!"3t{Np}łŊ{48}{ug}{[C6,B7]}1{[2]}HQS&y{[C6,B7]}=CU:BK£:BK£`++E!J&¶'4tR~~_¦R-Ā>)¤K'5tR-Ā'6tR-Ā'7tZ'8tZ'XS&y9t({CZ}{rfl}{B.range_}k¹>)XS&+#3Ât(ÌtD¹K£Đ'ßtYĽ£Đ'đuT@)p|¨©ªfe²&+E&qP%,ŌtËà+Ĭ_ũŃōđD¹K£YĽ£[&ıK'ĜµŀR~Ez|¨©ªgçe²&++E&qP%,ĜµŀR~Ez|¨©ªgç²e&++E&qP%,5t¦T@)'6t¦^>)'%$$$$$$$?%?đuT>)pųŴŵfĶP%,đŀpųŴŵgĶP%,¼xgÃĵê&x&+E/%$$$$$$$$$",?_⟩
 ac_nf;have k':=nW.mk kk;clear kk;refine aA λR0 hR0=>?_;lia;refine⟨AD,zo,zo,?_⟩;rw[j0];walk_at "c";refine bA (λ(k:Nat)=>zh (k:Int)) (λk=>D1 ((((c.map (·.1)).getD k 0:Nat):Int),(c.map (·.2.1)).getD k 0,(k:Int))) (ay ns.length) [ab (.ref ps)] trivial (by rw[D_];omega) (λk hk Q' hq=>?_) (λp1 hp1=>?_)
 .have hk':k<c.length:=by have:=Y_.mp hk;omega
  have x1:AR (c.map GY) (k:Int)=ab (.tup [.int ((c[k]).1:Int),.int (c[k]).2.1,.int (c[k]).2.2.1,sT (c[k]).2.2.2.1,.str (c[k]).2.2.2.2]):=cA (by rw[C_,e_ hk'];rfl);have y1:(c.map (·.1)).getD k 0=(c[k]).1:=by rw[k_,C_,e_ hk'];rfl
  have y2:(c.map (·.2.1)).getD k 0=(c[k]).2.1:=by rw[k_,C_,e_ hk'];rfl
  rw[y1,y2] at hq;generalize c[k]=tk at x1 hq;have hq':=nW.mk hq;clear hq k' hR0 y1 y2;lia;exact⟨zC,hq'.out⟩
 refine⟨(ay ns.length).map λk=>((((c.map (·.1)).getD k 0:Nat):Int),(c.map (·.2.1)).getD k 0,(k:Int)),by rw[N_];rfl,by rw[g_,D_];omega,λus Y hpw pk hpk=>?_⟩;obtain⟨ul,S,hx1,hx2⟩:=Wn hsl Y;have sb:eH H3 (fY (fY H3 p1 (.lst ((ay ns.length).map λk=>D1 ((((c.map (·.1)).getD k 0:Nat):Int),(c.map (·.2.1)).getD k 0,(k:Int))))) pk (.lst (us.map D1))):=(eH.new hp1).trans (eH.new hpk);have U:fY (fY H3 p1 (.lst ((ay ns.length).map λk=>D1 ((((c.map (·.1)).getD k 0:Nat):Int),(c.map (·.2.1)).getD k 0,(k:Int))))) pk (.lst (us.map D1)) pk=ab (.lst (us.map D1)):=aq;generalize fY (fY H3 p1 (.lst ((ay ns.length).map λk=>D1 ((((c.map (·.1)).getD k 0:Nat):Int),(c.map (·.2.1)).getD k 0,(k:Int))))) pk (.lst (us.map D1))=H4 at sb U |-;clear Y hpw hpk hp1;have G:=nW.mk hx1;have hx2':=nW.mk hx2;clear hx1 hx2;left;right;refine⟨zC,λq1 x=>?_⟩;have v:=sb.trans (eH.new (o:=.lst [zh 2,zh 4,zh 8]) x);have V:fY H4 q1 (.lst [zh 2,zh 4,zh 8]) pk=_ := IH U x;have W:fY H4 q1 (.lst [zh 2,zh 4,zh 8]) q1=ab (.lst [zh 2,zh 4,zh 8]):=aq;generalize fY H4 q1 (.lst [zh 2,zh 4,zh 8])=H5 at v V W |-;clear sb U x;refine⟨a,sc,0,rfl,v _ _ ha,hsc,zC,λc0=>?_⟩;dsimp only;obtain⟨bs,eb,hbs⟩:∃bs:Int,AR [zh 2,zh 4,zh 8] (c0 / 2048%3)=ab (zh bs)/\(bs=2\/bs=4\/bs=8):=by
  have i0:=X_ (c0 / 2048) (show (3:Int)≠0 by decide);have i1:=T_ (c0 / 2048) (show (0:Int)<3 by decide);rcases (show c0 / 2048%3=0\/c0 / 2048%3=1\/c0 / 2048%3=2 by omega) with h | h | h
  .rw[h];exact⟨2,rfl,.inl rfl⟩
  .rw[h];exact⟨4,rfl,.inr (.inl rfl)⟩
  rw[h];exact⟨8,rfl,.inr (.inr rfl)⟩
 lia;refine⟨⟨zC,AQ⟩,zC,?_⟩;have lgb:bs.natAbs.log2<9000:=JU (ME _) zo;clear eb W;left;right;refine⟨a,sc,12,rfl,v _ _ ha,hsc,zC,λc1=>?_⟩;left;right;refine⟨a,sc,13,rfl,v _ _ ha,hsc,zC,λc2=>?_⟩;left;right;refine⟨zC,λJ C=>?_⟩;left;right;refine⟨zC,λpq D=>?_⟩;have Z:D5 H3 (fY (fY H5 J (.lst [])) pq (.lst [])) pk J pq us [] [] :=
  ⟨(v.trans (eH.new C)).trans (eH.new D),eH.new D _ _ (eH.new C _ _ V),by rw[aF (bB aq D)];exact aq,aq,cM v C,cM (v.trans (eH.new C)) D,bB V C,bB (eH.new C _ _ V) D,bB aq D⟩
 generalize fY (fY H5 J (.lst [])) pq (.lst [])=H6 at Z |-;clear v V C D;left;refine aA λR6 hR6=>?_;have gk0:=Z.k;lia;refine⟨by first | trivial | omega,zo,zo,?_⟩;try rw[ul]
 rw[j0];have M:∃b:Nat->aw,∀p<ns.length,ns[S p]?=ab (b p):=⟨λp=>ns.getD (S p) "",λp hp=>by
  have:=(G.out p hp).1
  dsimp only
  rw[k_,e_ this]
  rfl⟩
 obtain⟨b,M⟩:=M;obtain⟨L,hwd⟩:∃L:Nat->Nat->aw,∀p q,L p q=if (c.map (·.1)).getD (S p) 0=(c.map (·.1)).getD (S q) 0 then "with" else "apart":=⟨_,λ_ _=>rfl⟩
 have hwd':=nW.mk hwd;clear hwd;have hinj:nW (∀i j,i<j->j<ns.length->b i≠b j/\b i∈ns/\b j∈ns):=⟨λi j hij hj=>by
  have h1:=M i zo
  have h2:=M j hj
  refine⟨λe=>?_,E5 h1,E5 h2⟩
  rw[e,<- h2] at h1
  exact hx2'.out i j hij hj ((List.getElem?_inj (G.out i zo).1 hnn.nd).mp h1)⟩
 have hww:nW (∀p q,L p q="with"\/L p q="apart"):=⟨λp q=>by rw[hwd'.out];split <;> simp⟩;refine aV (λ(k:Nat)=>zh (k:Int)) (ay ns.length) (λA σ H=>∃(O:ξ (aw × aw)) (P:ξ (aw × aw × aw)) (ah be:Int),Jx5 λv9 l d n m=>σ=[ab (.ref a),ab (.ref pn),ab (.ref ps),ab (.ref pk),ab (.int bs),ab (.int ah),ab (.int be),ab (.ref J),ab (.ref pq),v9,l,d,n,m]/\D5 H3 H pk J pq us O P/\IS ns (9*A.length) O P) ⟨[],[],_,_,_,_,_,_,_,rfl,Z,⟨(λ_ z=>nomatch z),(λ_ z=>nomatch z),B8 _,B8 _⟩⟩ ?_ ?_
 .rintro σ H ⟨O,P,ah,be,v9,l,d,n,m,rfl,t,l1⟩;ac_rfl;have U:=t.k;have go:=t.o;have gp:=t.p;clear Z gk0;left;right;refine⟨zC,?_⟩;refine JK ⟨AD,AD⟩ λb7 H7 e7=>?_;obtain⟨O',pO,lh7⟩:∃O':ξ (aw × aw),O'.Perm O/\D5 H3 H7 pk J pq us O' P:=by
   cases b7
   .rw[e7];exact⟨O,.refl _,t⟩
   refine⟨O.reverse,i9 O,?_⟩;rw[e7,<- OA];exact t.putO
  have gp7:=lh7.p;clear e7 t U go gp;left;right;refine⟨zC,?_⟩;refine JK ⟨AD,AD⟩ λb8 H8 e8=>?_;obtain⟨P',pP,lh8⟩:∃P':ξ (aw × aw × aw),P'.Perm P/\D5 H3 H8 pk J pq us O' P':=by
   cases b8
   .rw[e8];exact⟨P,.refl _,lh7⟩
   refine⟨P.reverse,i9 P,?_⟩;rw[e8,<- OA];exact lh7.putP
  have gp8:=lh8.p;have go8:=lh8.o;clear e8 lh7 gp7;left;lia;intro q1 x;refine⟨zC,?_⟩;rw[show (12:Int)=((12:Nat):Int) from rfl,rY,<- oa];exact My.of (lh8.sb.trans (eH.new x)) (k'.out O' (P'.take 12) (Wo l1 (by rw[D_];omega) pO pP))
 rintro A p B σ H N e ⟨O,P,ah,be,v9,l,d,n,m,rfl,t,l1⟩ hN;ac_rfl;have hA:A.length<ns.length:=by have:=U_ a7 e;simp only[d_,n_,D_] at this;omega
 have hj:p=A.length:=by
  have h1:(ay ns.length)[A.length]?=ab p:=by rw[e,Z_ (o_ _)];simp
  rw[FR hA] at h1;exact (O_ h1).symm
 have U:=t.k;have hN':=nW.mk hN;clear hN e k' hR6 Z gk0;subst hj;lia;refine⟨by first | trivial | omega,⟨zo,zo,zo,zo⟩,?_⟩;rw[show fH ((A.length:Int)+1) ((ns.length:Int) - ((A.length:Int)+1)).toNat=(ay (ns.length - (A.length+1))).map (λ(i:Nat)=>zh ((A.length:Int)+1+(i:Int))) by unfold fH;rw[show ((ns.length:Int) - ((A.length:Int)+1)).toNat=ns.length - (A.length+1) by omega]];refine aV (λ(i:Nat)=>zh ((A.length:Int)+1+(i:Int))) (ay (ns.length - (A.length+1))) (λy σ H=>∃(O:ξ (aw × aw)) (P:ξ (aw × aw × aw)) (ah be:Int),Jx4 λl d n m=>σ=[ab (.ref a),ab (.ref pn),ab (.ref ps),ab (.ref pk),ab (.int bs),ab (.int ah),ab (.int be),ab (.ref J),ab (.ref pq),ab (.int (A.length:Int)),l,d,n,m]/\D5 H3 H pk J pq us O P/\IS ns (9*A.length+(A.length+1+y.length)) O P) ⟨O,P,_,_,_,_,_,_,rfl,t,l1.mono zo⟩ ?_ ?_
 .rintro σ H ⟨O,P,ah,be,l,d,n,m,rfl,t,l1⟩;ac_rfl;rw[D_] at l1;exact hN'.out _ _ ⟨O,P,_,_,_,_,_,_,_,rfl,t,l1.mono (by rw[d_,z_];omega)⟩
 rintro y i B2 σ H N2 e2 ⟨O,P,ah,be,l,d,n,m,rfl,t,l1⟩ D?;ac_rfl;have hA2:y.length<ns.length - (A.length+1):=by have:=U_ a7 e2;simp only[d_,n_,D_] at this;omega
 have hi2:i=y.length:=by
  have h1:(ay (ns.length - (A.length+1)))[y.length]?=ab i:=by rw[e2,Z_ (o_ _)];simp
  rw[FR hA2] at h1;exact (O_ h1).symm
 subst hi2;have hst:=hinj.out A.length (A.length+1+y.length) zo zo;have hM:nW (∀(b1 X b3:Bool) (ah be:Int) (l d n m:ζ T) (H':lq),D5 H3 H' pk J pq us (bif b1 then O++[(b A.length,b (A.length+1+y.length))] else O) (bif b3 then (bif X then P++[(L A.length (A.length+1+y.length),b A.length,b (A.length+1+y.length))] else P)++[(L A.length (A.length+1+y.length),b (A.length+1+y.length),b A.length)] else (bif X then P++[(L A.length (A.length+1+y.length),b A.length,b (A.length+1+y.length))] else P))->N2 [ab (.ref a),ab (.ref pn),ab (.ref ps),ab (.ref pk),ab (.int bs),ab (.int ah),ab (.int be),ab (.ref J),ab (.ref pq),ab (.int (A.length:Int)),l,d,n,m] H'):=⟨λb1 X b3 ah be l d n m H' hl=>D? _ _ ⟨_,_,_,_,_,_,_,_,rfl,hl,by
  rw[d_,z_]
  exact (l1.step hst.1 hst.2.1 hst.2.2 (hww.out _ _) b1 X b3).mono zo⟩⟩
 clear hst;have ol:=l1.ol;have pl_:=l1.pl;clear D? e2 hN' l1;obtain⟨q,hq⟩:∃q,q=A.length+1+y.length:=⟨_,rfl⟩;have hqm:q<ns.length:=zo
 have eqI:(A.length:Int)+1+(y.length:Int)=(q:Int):=zo
 rw[<- hq] at hM ol pl_;obtain⟨ip,up⟩:=G.out A.length hA;obtain⟨iq,uq⟩:=G.out q hqm;have u1:AR (us.map D1) (A.length:Int)=ab (.tup [.int (((c.map (·.1)).getD (S A.length) 0:Nat):Int),.int (us.getD A.length (0,0,0)).2.1,.int (S A.length:Int)]):=cA (by rw[C_,up];rfl);have u2:AR (us.map D1) (q:Int)=ab (.tup [.int (((c.map (·.1)).getD (S q) 0:Nat):Int),.int (us.getD q (0,0,0)).2.1,.int (S q:Int)]):=cA (by rw[C_,uq];rfl);have n1:AR (ns.map zi) (S A.length:Int)=ab (.str (b A.length)):=cA (by rw[C_,M _ hA];rfl);have n2:AR (ns.map zi) (S q:Int)=ab (.str (b q)):=cA (by rw[C_,M _ hqm];rfl);have hw:=hwd'.out A.length q;have U:=t.k;have gn:=t.sb _ _ hpn;have go:=t.o;dsimp only;rw[eqI];clear eqI hq;generalize (c.map (·.1)).getD (S A.length) 0=s1 at *;generalize (c.map (·.1)).getD (S q) 0=s2 at *;refine aA λRa hRa=>?_;lia;obtain⟨hRa⟩:=hRa;subst hRa;refine aA λRb hRb=>?_;lia;obtain⟨hRb⟩:=hRb;subst hRb;refine aA λRc hRc=>?_;lia;refine⟨zo,?_⟩;refine zf (p1:=True/\True) ⟨AD,AD⟩ zC zo λb1 Hb eb=>?_;have lhb:D5 H3 Hb pk J pq us (bif b1 then O++[(b A.length,b q)] else O) P:=by
  cases b1
  .rw[eb];exact t
  have:=t.putO (O':=O++[(b A.length,b q)]);rw[B_] at this;rw[eb];exact this
 clear eb U gn go t;have U:=lhb.k;obtain⟨hRc⟩:=hRc;subst hRc;refine aA λRd hRd=>?_;lia;refine⟨zC,λq1 x=>?_⟩;have R:=lhb.new (u:=.lst [zi "apart",zi "with"]) x;have W:fY Hb q1 (.lst [zi "apart",zi "with"]) q1=ab (.lst [zi "apart",zi "with"]):=aq;generalize fY Hb q1 (.lst [zi "apart",zi "with"])=Hc at R W |-;clear lhb U x;have U:=R.k;lia;have hwd2:AR [zi "apart",zi "with"] (if decide ((s1:Int)=(s2:Int))=ag then 1 else 0)=ab (zi (L A.length q)):=by
  by_cases z:s1=s2
  .rw[hw,z3 z,p_ (by rw[z]),z3 rfl];rfl
  rw[hw,zD z,q_ zo,zD M_];rfl
 rw[hwd2,eY];clear hwd2 hw W U;obtain⟨hRd⟩:=hRd;subst hRd;have gp:=R.p;refine aA λRe hRe=>?_;lia;refine⟨zC,zC,rfl,rfl,?_⟩;refine zf (p1:=True/\True) ⟨AD,AD⟩ zC zo λX Hd ed=>?_;have lhd:D5 H3 Hd pk J pq us (bif b1 then O++[(b A.length,b q)] else O) (bif X then P++[(L A.length q,b A.length,b q)] else P):=by
  cases X
  .rw[ed];exact R
  have:=R.putP (P':=P++[(L A.length q,b A.length,b q)]);rw[B_] at this;rw[ed];exact this
 have hP1:(bif X then P++[(L A.length q,b A.length,b q)] else P).length<=2*(9*A.length+q)+1:=by
  cases X
  .exact Nat.le_succ_of_le pl_
  show (P++[_]).length<=_;rw[d_];simp;exact pl_
 have hM2:=nW.mk (hM.out b1 X);clear ed R gp hM;generalize (bif X then P++[(L A.length q,b A.length,b q)] else P)=P1 at *;obtain⟨hRe⟩:=hRe;subst hRe;have gp:=lhd.p;refine aA λRf hRf=>?_;lia;refine⟨zC,zC,rfl,rfl,?_⟩;refine zf (p1:=True/\True) ⟨AD,AD⟩ zC zo λb3 He ee=>?_;have lhe:D5 H3 He pk J pq us (bif b1 then O++[(b A.length,b q)] else O) (bif b3 then P1++[(L A.length q,b q,b A.length)] else P1):=by
  cases b3
  .rw[ee];exact lhd
  have:=lhd.putP (P':=P1++[(L A.length q,b q,b A.length)]);rw[B_] at this;rw[ee];exact this
 clear ee lhd gp;obtain⟨hRf⟩:=hRf;subst hRf;lia;exact⟨⟨zo,lgb⟩,⟨zC,AQ⟩,hM2.out b3 _ _ _ _ _ _ _ lhe⟩
noncomputable abbrev kJ:ξ aw:=[Bn,F2,F9,"_law_first",LO,"_law_spread","_law_kinds","_law_row",C6,"_law_unit",B7,Ch,"_law_tasks_here","_law_orders","_law_pairs"]
theorem EQ:gV kJ [Bn,F2,F9] (aB (zw 49)):=aX
theorem J4 {f:ae} (g:G3 K mg "_law_works" (zw 49) [Bn,F2,F9] f fd) (B:Bl mg) (l:R7 P w K mg base 1 "_law_cell" (zw 43) [Bn,C6] Oe) (F_pool:R7 P w K mg base 2 "_law_pool" (zw 46) [BE] Z0) (F_task:R7 P w K mg base 2 "_law_task" (zw 47) [BE,"_law_row",LO,"_law_unit"] Z1) (L:R7 P w K mg base 1 "_law_unlike" (zw 45) [KL] Wa) (W:R7 P w K mg base 2 "_law_links" (zw 48) [Bn,Ch,B7] U1):R7 P w K mg base 3 "_law_works" (zw 49) [Bn,F2,F9] WU:=by
 refine c6 g EQ ?_;rintro _ A _ s H _ _ H3 _ hr ⟨a,sc,k,c,rfl,ha,I,m1,m8,w1,w8,kk⟩;refine⟨_,s!"3jR-î'4j{F_pool}§R-î&*'5jR~~~_ë¤K'6jR-î'7jZ'uëA)Ú&y8j(|¨©ªf@u^T)K&qP6j¦^T)'%$?9jR-îÈØÚ'ÂjZ'uë:)Ú&y8j(Y{F_task}§k>g)&-îĿhČ+*&ĎP%?ÌjÏ§ŏŐ{[EE]}1{[]}HYm{[EE]}=CU<!J&*'ßjŏŐ{[GW,EE]}2{[]}HeY&+Ŝ{[GW,EE]}=C{[GW,EE]}=ÒM.®Ucc&+-E!»{W}§eY&+-*Ōj(Ŷj(M.®â²&xç{v3}Ŷ#1¼x&+++EŏŐ{[EE]}1{[]}HYm{[EE]}=CU<!J&+E/%$$$$$$$$$$$$",?_⟩
 ac_nf;have k':=nW.mk kk;clear kk;right;refine⟨a,sc,0,rfl,ha,I,zC,λq=>?_⟩;left;right;refine⟨a,sc,2,rfl,ha,I,zC,λc1=>⟨c1,rfl,λd hpl J G hpp=>?_⟩⟩;have sb1:eH H3 (fY H3 G (.lst (d.map zi))):=eH.new hpp;have gp1:fY H3 G (.lst (d.map zi)) G=ab (.lst (d.map zi)):=aq;generalize fY H3 G (.lst (d.map zi))=H4 at sb1 gp1 |-;clear hpp;left;refine aA λR2 hR2=>?_;obtain⟨sp,eb,hsp⟩:∃sp:Int,AR [zh 1,zh 2,zh 3,zh 8] (q / 512%4)=ab (zh sp)/\1<=sp/\sp<=8:=by
  have i0:=X_ (q / 512) (show (4:Int)≠0 by decide);have i1:=T_ (q / 512) (show (0:Int)<4 by decide);rcases (show q / 512%4=0\/q / 512%4=1\/q / 512%4=2\/q / 512%4=3 by omega) with h | h | h | h
  .rw[h];exact⟨1,rfl,zC⟩
  .rw[h];exact⟨2,rfl,zC⟩
  .rw[h];exact⟨3,rfl,zC⟩
  rw[h];exact⟨8,rfl,zC⟩
 lia;refine⟨zC,λq1 v=>⟨⟨zC,AQ⟩,zC,?_⟩⟩;try rw[eb,eY]
 have V:=sb1.trans (eH.new (o:=.lst [zh 1,zh 2,zh 3,zh 8]) v);have gp2:fY H4 q1 (.lst [zh 1,zh 2,zh 3,zh 8]) G=_ := IH gp1 v;generalize fY H4 q1 (.lst [zh 1,zh 2,zh 3,zh 8])=H5 at V gp2 |-;have lgs:sp.natAbs.log2<9000:=JU (ME _) zo;clear sb1 gp1 v eb;left;right;refine⟨a,sc,1,rfl,V _ _ ha,I,zC,λc2=>?_⟩;left;right;refine⟨zC,λS Y=>?_⟩;have sb3:=V.trans (eH.new (o:=.lst []) Y);have f0:=cM V Y;have gp3:fY H5 S (.lst []) G=_ := IH gp2 Y;have npr:G≠S:=bB gp2 Y;have gr3:fY H5 S (.lst []) S=ab (.lst (([]:ξ aw).map zi)):=aq;generalize fY H5 S (.lst [])=H6 at sb3 gp3 gr3 |-;clear V gp2 Y;left;refine aA λR5 hR5=>?_;lia;have w0:=X_ (q / 2) (show c≠0 by omega);have w2:=T_ (q / 2) (show 0<c by omega);refine⟨⟨zC,AQ⟩,zo,by first | trivial | omega,zo,zo,?_⟩;have rl:(fH 0 (1+q / 2%c).toNat).length=(1+q / 2%c).toNat:=by unfold fH;rw[g_,D_]
 generalize fH 0 (1+q / 2%c).toNat=ts0 at rl;have hpn':=nW.mk J;clear J;refine jh (λr σ H=>∃(row:ξ aw) (c2:Int) (v8:ζ T),σ=[ab (.ref a),ab (.int k),ab (.int c),ab (.int q),ab (.ref G),ab (.int sp),ab (.int c2),ab (.ref S),v8,af,af,af,af,af,af]/\eH H3 H/\H G=ab (.lst (d.map zi))/\H S=ab (.lst (row.map zi))/\(row.length:Int)+r.length=1+q / 2%c/\∀x∈row,A1 x) ⟨[],c2,_,rfl,sb3,gp3,gr3,by rw[rl,EW];omega,(λ_ z=>nomatch z)⟩ ?_ ?_
 .rintro σ H ⟨row,c3,v8,rfl,M,gp,gr,hrl,X⟩;ac_rfl;rw[EW] at hrl;have r1:1<=row.length:=zo
  have r8:row.length<=8:=zo
  have rw_:(row.length:Int)<=c:=zo
  have D:=nW.mk X;clear X sb3 gp3 gr3 hrl rl w0 w2;left;right;refine⟨a,sc,3,rfl,M _ _ ha,I,zC,λc4=>⟨⟨zC,zC,zC⟩,?_⟩⟩;lia;refine⟨AQ,?_⟩;have p57:(10:Int)^c_ 57=10^57:=rfl;rw[p57];have u0:=X_ c4 (show ((10:Int)^57)≠0 by decide +kernel);have u9:=T_ c4 (show (0:Int)<(10:Int)^57 by decide +kernel);obtain⟨p,hu⟩:∃p:Int,1+c4%10^57=p:=⟨_,rfl⟩;have u1:1<=p:=zo
  have u2:p<=10^57:=zo
  rw[hu];clear hu u0 u9 p57;left;right;refine⟨zC,λps C=>?_⟩;have sb4:=M.trans (eH.new (o:=.lst []) C);have g0:=cM M C;have gp4:fY H ps (.lst []) G=_ := IH gp C;have gr4:fY H ps (.lst []) S=_ := IH gr C;have gs4:fY H ps (.lst []) ps=ab (.lst (([]:ξ MX).map GY)):=aq;have nps1:G≠ps:=bB gp C;have nps2:S≠ps:=bB gr C;generalize fY H ps (.lst [])=H7 at sb4 gp4 gr4 gs4 |-;clear M gp gr C;left;refine aA λR8 hR8=>?_;lia;have t0:=X_ (q / 64) (show k≠0 by omega);have t2:=T_ (q / 64) (show 0<k by omega);refine⟨⟨zC,AQ⟩,zo,by first | trivial | omega,zo,zo,?_⟩;obtain⟨n,hn⟩:∃n:Nat,(1+q / 64%k).toNat=n:=⟨_,rfl⟩;have n1:1<=n:=zo
  have n8:n<=8:=zo
  have nm_:(n:Int)<=k:=zo
  rw[hn,j0];clear hn t0 t2;refine aV (λ(i:Nat)=>zh (i:Int)) (ay n) (λA σ H=>∃(m:ξ MX) (v8:ζ T),σ=[ab (.ref a),ab (.int k),ab (.int c),ab (.int q),ab (.ref G),ab (.int sp),ab (.int c3),ab (.ref S),v8,ab (.int p),ab (.ref ps),af,af,af,af]/\eH H3 H/\H G=ab (.lst (d.map zi))/\H S=ab (.lst (row.map zi))/\H ps=ab (.lst (m.map GY))/\m.length=A.length/\∀t∈m,VO row t) ⟨[],_,rfl,sb4,gp4,gr4,gs4,rfl,(λ_ z=>nomatch z)⟩ ?_ ?_
  .rintro σ H ⟨m,v8,rfl,M,gp,gr,gs,hsl,hss⟩;ac_rfl;rw[D_] at hsl;have F:=nW.mk hss;clear hss sb4 gp4 gr4 gs4;left;refine aA λR9 hR9=>?_;lia;walk_at "c";refine bA GY (λt=>zi t.2.2.2.2) m [] (.inl gs) zo (λt ht Q' hq=>?_) (λq1 v=>?_)
   .have x1:AR [zh (t.1:Int),zh t.2.1,zh t.2.2.1,sT t.2.2.2.1,zi t.2.2.2.2] 4=ab (zi t.2.2.2.2):=rfl;have Z:=nW.mk hq;clear hq k' hR9;simp only[GY];lia;exact Z.out
   rw[show (m.map λt=>zi t.2.2.2.2)=(m.map (·.2.2.2.2)).map zi by rw[N_];rfl];refine⟨q1,m.map (·.2.2.2.2),rfl,aq,by rw[g_];omega,λx hx=>?_,λns hnl hnn pn J=>?_⟩
   .obtain⟨t,ht,rfl⟩:=t_.mp hx;exact (F.out t ht).nm
   rw[g_] at hnl;have sb5:=M.trans ((eH.new v).trans (eH.new (o:=.lst (ns.map zi)) J));have st5:=(eH.new v).trans (eH.new (o:=.lst (ns.map zi)) J);have gr5:=st5 _ _ gr;have gs5:=st5 _ _ gs;have gn5:fY (fY H q1 (.lst ((m.map (·.2.2.2.2)).map zi))) pn (.lst (ns.map zi)) pn=ab (.lst (ns.map zi)):=aq;try dsimp only
   generalize fY (fY H q1 (.lst ((m.map (·.2.2.2.2)).map zi))) pn (.lst (ns.map zi))=H8 at sb5 gr5 gs5 gn5 |-;clear st5 M gp gr gs v J;left;refine aA λR10 hR10=>?_;lia;rw[o8,show ∀x0 x1 x2 x3 x4 x5 x6 x7 x8 x9 x10 x11 x12 x13 x14,nU 2 [] [x0,x1,x2,x3,x4,x5,x6,x7,x8,x9,x10,x11,x12,x13,x14]=[af,af] from λ_ _ _ _ _ _ _ _ _ _ _ _ _ _ _=>rfl];refine lR (λz=>zi z.1) (λz=>GY z.2) (λz=>.tup [.str z.1,.int z.2.2.2.1,sT z.2.2.2.2.1]) (ns.zip m) [] (still:=λH'=>bK pn (ns.map zi) H'/\bK ps (m.map GY) H') (H:=H8) ⟨.inl gn5,.inl gs5⟩ (by rw[sP];omega) (λz R Q' hq=>?_) ?_
   .obtain⟨zn,U⟩:=z;have x2:AR [zh (U.1:Int),zh U.2.1,zh U.2.2.1,sT U.2.2.2.1,zi U.2.2.2.2] 2=ab (zh U.2.2.1):=rfl;have x3:AR [zh (U.1:Int),zh U.2.1,zh U.2.2.1,sT U.2.2.2.1,zi U.2.2.2.2] 3=ab (sT U.2.2.2.1):=rfl;have Z:=nW.mk hq;clear hq k' hR10;simp only[GY];lia;exact⟨zC,Z.out⟩
   try dsimp only
   intro pt hpt;have st6:=eH.new (o:=.lst ((ns.zip m).map λz=>zk [.str z.1,.int z.2.2.2.1,sT z.2.2.2.2.1])) hpt;have gr6:=st6 _ _ gr5;have gs6:=st6 _ _ gs5;have gn6:=st6 _ _ gn5;have gt6:fY H8 pt (.lst ((ns.zip m).map λz=>zk [.str z.1,.int z.2.2.2.1,sT z.2.2.2.2.1])) pt=ab (.lst ((ns.zip m).map λz=>zk [.str z.1,.int z.2.2.2.1,sT z.2.2.2.2.1])):=aq;have sb6:eH H3 (fY H8 pt (.lst ((ns.zip m).map λz=>zk [.str z.1,.int z.2.2.2.1,sT z.2.2.2.2.1]))):=sb5.trans st6;try dsimp only
   generalize fY H8 pt (.lst ((ns.zip m).map λz=>zk [.str z.1,.int z.2.2.2.1,sT z.2.2.2.2.1]))=H9 at sb6 gr6 gs6 gn6 gt6 |-;clear st6 sb5 gr5 gs5 gn5 hpt;left;right;refine⟨a,pn,ps,sc,ns,m,rfl,sb6 _ _ ha,I,gn6,hnn,zo,gs6,zo,λO P lk=>?_⟩;try lia
   left;lia;refine⟨AD,zC,?_⟩;walk_at "c";refine bA GY (λt=>zh (t.1:Int)) m [] (.inl gs6) zo (λt ht Q' hq=>?_) (λpz hpz=>?_)
   .have x0:AR [zh (t.1:Int),zh t.2.1,zh t.2.2.1,sT t.2.2.2.1,zi t.2.2.2.2] 0=ab (zh (t.1:Int)):=rfl;have Z:=nW.mk hq;clear hq k';simp only[GY];lia;exact Z.out
   obtain⟨ok,ft,el⟩:=Wq hnn zo zo zo F.out r1 r8 D.out lk;refine⟨zC,?_⟩;have ee:(m.map λt=>zh (t.1:Int))=(m.map (·.1)).map λ(s:Nat)=>zh (s:Int):=by rw[N_];rfl
   have ew:zk [zk ((ns.zip m).map λz=>zk [zi z.1,zh z.2.2.2.1,sT z.2.2.2.2.1]),zk (O.map A9),zk (P.map prT),zk (row.map zi)]=(JO ns m O P row).enc:=by unfold Wk.enc JO;rw[N_];rfl
   rw[ee,ew];refine My.of ?_ (k'.out (JO ns m O P row) (m.map (·.1)) ok (by rw[el];omega) rw_ ft pz (cM sb6 hpz));intro b o hb;by_cases e:b=pz
   .subst e;rw[aq] at hb |-;exact hb
   rw[aF e] at hb |-;exact sb6 b o hb
  rintro A i B σ H N e ⟨m,v8,rfl,M,gp,gr,gs,hsl,hss⟩ hN;ac_rfl;have hA:A.length<n:=by have:=U_ a7 e;simp only[d_,n_,D_] at this;omega
  have hi:i<n:=Y_.mp (by rw[e];simp);have hM:=nW.mk hN;have F:=nW.mk hss;clear hN hss e sb4 gp4 gr4 gs4 k' hR8;lia;refine⟨⟨AD,AD⟩,a,sc,4+i,by rw[show (4:Int)+(i:Int)=((4+i:Nat):Int) by push_cast;rfl],M _ _ ha,I,zo,λc5=>⟨c5,S,G,row,d,p,rfl,gr,r1,r8,D.out,gp,hpl,hpn'.out.nm,u1,u2,λs tn len ks nam h1 h2 h3 h4 h5 h6 h7 h8=>?_⟩⟩;dsimp only;rw[gs,GF];refine⟨by rw[g_];omega,hM.out _ _ ⟨m++[(s,tn,len,ks,nam)],_,rfl,λb u hb=>?_,?_,?_,?_,by rw[d_,d_,hsl];rfl,λz R=>?_⟩⟩
  .rw[aF (bB hb g0)];exact M b u hb
  .rw[aF nps1];exact gp
  .rw[aF nps2];exact gr
  .rw[aq,B_];rfl
  rcases x_.mp R with R | R
  .exact F.out z R
  rw[j_.mp R];exact⟨h1,h4,h5,h6,h7,h8⟩
 rintro x r σ H N ⟨row,c3,v8,rfl,M,gp,gr,hrl,X⟩ hN;ac_rfl;rw[n_] at hrl;have hM:=nW.mk hN;have D:=nW.mk X;have hj0:=X_ c3 (show sp≠0 by omega);have hj1:=T_ c3 (show 0<sp by omega);obtain⟨j,hj⟩:∃j:Nat,c3%sp=(j:Int):=⟨(c3%sp).toNat,zo⟩;have hat:=m5 (ns:=d) (i:=j) zo;have hnx:=hpn'.out.nm _ (Cc (ns:=d) (i:=j) zo);generalize d.getD j ""=y at hat hnx;clear hN X sb3 gp3 gr3 k' hR5;lia;refine⟨⟨AD,AD⟩,zo,zo,⟨zo,lgs⟩,hM.out _ _ ⟨row++[y],_,_,rfl,λb u hb=>?_,?_,?_,by rw[d_,z_];push_cast;push_cast at hrl;omega,λz R=>?_⟩⟩
 .rw[aF (bB hb f0)];exact M b u hb
 .rw[aF npr];exact gp
 .rw[aq,B_];rfl
 rcases x_.mp R with R | R
 .exact D.out z R
 rw[j_.mp R];exact hnx
noncomputable abbrev Ci:ξ aw:=[AK,D8,KP,EU,"_law_stand"]
theorem Se:gV Ci [AK,D8] (aB (zw 50)):=aX
theorem J5 {f:ae} (g:G3 K mg "_law_loads" (zw 50) [AK,D8] f S) (B:Bl mg):R7 P w K mg base 1 "_law_loads" (zw 50) [AK,D8] X0:=by
 refine c6 g Se ?_;rintro _ A _ s H _ _ H3 _ _ ⟨W,q,sts,rfl,M,hq,hsl,m,J⟩;refine⟨_,s!"2ŇŲR_<&S)'{Nt}{rfl}{B.zip_}<Q+#33Ň(4Ň(M.®A@KD>KÆ{TF}A@{Dd}#3â%?Ñ%$$",?_⟩
 ac_nf;have D:=nW.mk J;clear J;have r8:=M.r8;have t8:=M.t8;right;refine⟨zC,λC t=>⟨⟨zo,zo,zo⟩,λd k=>?_⟩⟩;have R:∀n:Nat,(a3 n [zh 0]).flatten=(a3 n (0:Int)).map zh:=λn=>by
  induction n with
  |zero=>rfl
  |succ n ih=>rw[HV,HV,LB,ih];rfl
 rw[R];have O:=(cV k).2;have c:eH H3 (fY (fY H3 C (.lst [zh 0])) d (.lst ((a3 W.row.length (0:Int)).map zh))):=(eH.new t).trans (eH.new k);have l:fY (fY H3 C (.lst [zh 0])) d (.lst ((a3 W.row.length (0:Int)).map zh)) d=ab (.lst ((a3 W.row.length (0:Int)).map zh)):=aq;have p:=c _ _ hq;generalize fY (fY H3 C (.lst [zh 0])) d (.lst ((a3 W.row.length (0:Int)).map zh))=H4 at c l p |-;clear R k t;left;refine aA λR1 x=>?_;lia;rw[o8];have u:=nW.mk m;clear m;refine aV (λz=>zk [AY z.1,zh (z.2:Int)]) (W.tasks.zip sts) (λA σ H=>∃(v3 y:ζ T),σ=[ab W.enc,ab (.ref q),ab (.ref d),v3,y]/\eH H3 H/\H d=ab (.lst ((A.foldl EI (a3 W.row.length 0)).map zh))) ⟨_,_,rfl,c,l⟩ ?_ ?_
 .rintro σ H ⟨v3,y,rfl,r,F⟩;refine⟨.inl (r _ _ hq),?_⟩;left;lia;refine My.of (λb o j=>?_) (D.out d O);by_cases e:b=d
  .subst e;rw[aq] at j;rw[<- j];exact F
  rw[aF e] at j;exact r b o j
 rintro A z B σ H N e ⟨v3,y,rfl,r,F⟩ V;refine⟨.inl (r _ _ hq),?_⟩;have U:z∈W.tasks.zip sts:=by rw[e];simp
 have X:z.2<W.row.length:=u.out _ (L0 U).2;have a:(A++[z]).foldl EI (a3 W.row.length 0)=EI (A.foldl EI (a3 W.row.length 0)) z:=by rw[PR];rfl
 have hll:(A.foldl EI (a3 W.row.length 0)).length=W.row.length:=by rw[BX,IQ]
 have I:=nW.mk V;clear V e c l p D x U;rw[a] at I;generalize A.foldl EI (a3 W.row.length 0)=L at *;clear a;have x1:AR (L.map zh) (z.2:Int)=ab (zh (L.getD z.2 0)):=by
  have G:z.2<L.length:=zo
  rw[cA (by rw[C_,e_ G];rfl),k_,e_ G];rfl
 obtain⟨⟨tn,tl,tk⟩,zs⟩:=z;simp only[AY];lia;rw[LQ X,eY];refine⟨AD,I.out _ _ ⟨_,_,rfl,λb o j=>?_,?_⟩⟩
 .rw[aF (bB j O)];exact r b o j
 rw[aq];unfold EI;rw[List.map_set]
noncomputable abbrev zE:ξ aw:=[BE,AK,D8,"_law_loads_here","_law_total",B7]
theorem N1:gV zE [BE,AK,D8] (aB (zw 51)):=aX
theorem Ph {f:ae} (g:G3 K mg "_law_beat" (zw 51) [BE,AK,D8] f fd) (B:Bl mg) (d:R7 P w K mg base 1 "_law_loads" (zw 50) [AK,D8] X0):R7 P w K mg base 2 "_law_beat" (zw 51) [BE,AK,D8] VC:=by
 refine c6 g N1 ?_;rintro _ _ _ s H _ _ H3 _ hr ⟨c,W,q,sts,rfl,p,hq,hsl,F,kk⟩;refine⟨_,s!"3šb§WI*'4šŚŞŪX¶'ĒXïĒXï{Mm}{rfl}#1ĒXïĄ&~ï¦@XS)¦@XS)ã&++++_ŁĒ{51}{zE}{[EU]}1{[]}HcV{[EU]}=CU<!J&ïÐ+_ĊŁÇ{Mp}{rfl}#1{B.min_}{Uz}l>@)Èì&+¶ØÇÈØ&+_ĊŁTďK/%$$$$$",?_⟩
 ac_nf;have k':=nW.mk kk;clear kk;have r1:=p.r1;have r8:=p.r8;have t8:=p.t8;have t1:=p.t1;have hln:=OD W sts;have hnn:=Wr (sts:=sts) p;have hsm:=OJ hsl F;have htp:=O1 p;rw[<- hsm] at htp;right;refine⟨W,q,sts,rfl,p,hq,hsl,F,λpl hpl=>?_⟩;have y:eH H3 (fY H3 pl (.lst ((GT W sts).map zh))):=eH.new hpl;have gl:fY H3 pl (.lst ((GT W sts).map zh)) pl=ab (.lst ((GT W sts).map zh)):=aq;have l:=nW.mk hnn;clear hnn hsm F hq;try dsimp only
 generalize fY H3 pl (.lst ((GT W sts).map zh))=H4 at y gl |-;generalize GT W sts=L at *;left;refine aA λR1 hR1=>?_;have is:=ig L;lia;left;refine aA λR2 hR2=>?_;have lgr:(W.row.length:Int).natAbs.log2<9000:=JU (ME _) zo;have hne:¬L=[]:=λz=>by rw[z,EW] at hln;omega
 lia;refine⟨AD,λm1 hm1 _=>⟨AD,λm2 O _=>⟨AD,λm3 hm3 _=>⟨⟨zo,lgr⟩,⟨zo,lgr⟩,zC,λp1 hp1=>?_⟩⟩⟩⟩;obtain⟨xs,J,V,G⟩:∃xs:List Int,[zh m1,zh m2,zh (if m3 - 1>0 then m3 - 1 else 0),zh (L.sum / (W.row.length:Int)),zh (L.sum / (W.row.length:Int)+1)]=xs.map zh/\(∀x∈xs,0<=x)/\xs.length=5:=by
  have d0:0<=L.sum / (W.row.length:Int):=Int.ediv_nonneg zo zo;refine⟨[m1,m2,if m3 - 1>0 then m3 - 1 else 0,L.sum / (W.row.length:Int),L.sum / (W.row.length:Int)+1],rfl,λx a=>?_,rfl⟩;simp only[v_,DI,DJ] at a;rcases a with rfl | rfl | rfl | rfl | rfl
  .exact l.out _ hm1
  .exact l.out _ O
  .split <;> omega
  .exact d0
  omega
 rw[J];have r:=y.trans (eH.new (o:=.lst (xs.map zh)) hp1);have u:fY H4 p1 (.lst (xs.map zh)) p1=ab (.lst (xs.map zh)):=aq;generalize fY H4 p1 (.lst (xs.map zh))=H5 at r u |-;clear J hp1 y gl hm1 O hm3;left;refine aA λR3 hR3=>?_;lia;walk_at "c";have htk:=nW.mk p.tk;refine bA AY (λt=>zh t.2.1) W.tasks [] trivial zo (λt ht Q' hq=>?_) (λp2 hp2=>?_)
 .have x1:AR [zi t.1,zh t.2.1,sT t.2.2] 1=ab (zh t.2.1):=rfl;have hq':=nW.mk hq;clear hq k' hR3;simp only[AY];lia;exact hq'.out
 rw[show (W.tasks.map λt=>zh t.2.1)=(W.tasks.map (·.2.1)).map zh by rw[N_];rfl,ig,eY];refine⟨λz=>by have:=U_ a7 z;rw[g_,EW] at this;omega,λm hm _=>⟨zC,λp3 Y=>?_⟩⟩;have hm0:0<=m:=by obtain⟨t,ht,rfl⟩:=t_.mp hm;have:=(htk.out t ht).lo;omega
 have C:=(eH.new (o:=.lst ((W.tasks.map (·.2.1)).map zh)) hp2).trans (eH.new (o:=.lst [zh m,zh L.sum]) Y);have D:=r.trans C;rw[C _ _ u,lw];generalize fY (fY H5 p2 (.lst ((W.tasks.map (·.2.1)).map zh))) p3 (.lst [zh m,zh L.sum])=H6 at D |-;refine⟨by rw[g_,G,n_,z_];omega,λp4 Z=>?_⟩;obtain⟨e,X,hy0,I⟩:∃e:List Int,xs.map zh++[zh m,zh L.sum]=e.map zh/\(∀x∈e,0<=x)/\e.length=7:=by
  refine⟨xs++[m,L.sum],by rw[B_];rfl,λx a=>?_,by rw[d_,G];rfl⟩;rcases x_.mp a with a | a
  .exact V x a
  simp only[v_,DI,DJ] at a;rcases a with rfl | rfl
  .exact hm0
  omega
 rw[X];have v:=D.trans (eH.new (o:=.lst (e.map zh)) Z);have gy:fY H6 p4 (.lst (e.map zh)) p4=ab (.lst (e.map zh)):=aq;try dsimp only
 generalize fY H6 p4 (.lst (e.map zh))=H7 at v gy |-;clear X V G r u D C hp2 Y Z hm;left;right;have hmn:0<(if 9*(10:Int)^c_ 60<2*L.sum then 9*(10:Int)^c_ 60 else 2*L.sum):=by
  split
  .decide +kernel
  omega
 refine⟨⟨zC,AQ⟩,.inl ⟨zC,zC⟩,⟨zC,zC,zC⟩,.inl ⟨zC,zC⟩,hmn,⟨zC,AQ⟩,⟨zC,zC,zC⟩,AQ,zC,λp5 k=>?_⟩;generalize (if 9*(10:Int)^c_ 60<2*L.sum then 9*(10:Int)^c_ 60 else 2*L.sum)=mn at hmn k |-;have e0:=X_ (c / 9) (show mn≠0 by omega);have e1:=X_ (c / 9) (show ((10:Int)^c_ 60)≠0 by decide +kernel);generalize c / 9%mn=a1 at e0 |-;generalize c / 9%(10:Int)^c_ 60=a2 at e1 |-;rw[aF (bB gy k),gy,lw];refine⟨by rw[g_,I,n_,z_];omega,λp6 M=>?_⟩;obtain⟨b,hzs,S,hzl⟩:∃b:List Int,e.map zh++[zh a1,zh a2]=b.map zh/\(∀x∈b,0<=x)/\b.length=9:=by
  refine⟨e++[a1,a2],by rw[B_];rfl,λx a=>?_,by rw[d_,I];rfl⟩;rcases x_.mp a with a | a
  .exact hy0 x a
  simp only[v_,DI,DJ] at a;rcases a with rfl | rfl
  .exact e0
  exact e1
 rw[hzs];have sb6:=v.trans ((eH.new k).trans (eH.new (o:=.lst (b.map zh)) M));have gz:∀Hx:lq,fY Hx p6 (.lst (b.map zh)) p6=ab (.lst (b.map zh)):=λ_=>aq;have i0:=X_ c (show (9:Int)≠0 by decide);have i1:=T_ c (show (0:Int)<9 by decide);obtain⟨j,hj⟩:∃j:Nat,c%9=(j:Int):=⟨(c%9).toNat,zo⟩;have R:j<b.length:=zo
 have hat:AR (b.map zh) (j:Int)=ab (zh b[j]):=cA (by rw[C_,e_ R];rfl);have U:=S _ (FI R);generalize b[j]=n at hat U;try dsimp only
 have k2:=nW.mk (My.of sb6 (k'.out n U));clear hzs S hzl v gy k' M k;left;lia;refine⟨zC,?_⟩;first
  |exact k2.out
  | (rw[eY];exact k2.out)
noncomputable abbrev du:ξ aw:=["self","stand","done"]
theorem pJ:gV du du (aB (Cb 24 2)):=aX
theorem pK {f:ae} (g:GM K c "greatest_at" "Walk.greatest_at" (Cb 24 2) du f D) (B:Bl mg) (q:C7 K c ["works","beat","rules","whole"]) (i:R7 P w K mg base 2 "greatest_numbers" (zw 21) ["numbers"] ZJ) (j:Ix P w K mg base c 3 "fillings_at" du (ZD c)):Ix P w K mg base c 4 "greatest_at" du (VL c):=by
 refine⟨g.cls,f,D,g.mt,g.b,?_⟩;refine L9 g.fn pJ (λts H Q h=>?_) (λM A u s H E ts H3 Q x h=>?_)
 .obtain⟨a,W,eG,k,d,rfl,_⟩:=h;rfl
 obtain⟨a,W,eG,k,d,rfl,z,v,O,L,C⟩:=h;refine⟨_,s!"Ŕ{x}«{x.mono}{zC}#1WIĉ&*/%",?_⟩;ac_nf;have G:=nW.mk C;clear C;have F:=gU z;obtain⟨I,R,_⟩:=v.ex;have N:=wH (W:=W) (eG:=eG) (p:=I) (m:="fillings_at") AQ;lia;refine⟨by first | trivial | exact N,a,W,eG,k,d,rfl,z,v,O,L,λy t=>?_⟩;have l:(B6 W eG k d).length<=256:=S_ (E6 _ _) (by rw[D_];exact F);refine⟨y,B6 W eG k d,rfl,aq,l,λp J=>?_⟩;have n:eH H3 (fY H3 y (.lst ((B6 W eG k d).map aW))):=eH.new t;refine My.of ?_ (G.out p (cM n J));intro b o r;by_cases e:b=p
 .subst e;rw[aq] at r |-;exact r
 rw[aF e] at r |-;exact n b o r
noncomputable abbrev eO:ξ aw:=["numbers","greatest","number"]
theorem TL:gV eO ["numbers"] (aB (zw 21)):=aX
theorem jx {f:ae} (g:G3 K mg "greatest_numbers" (zw 21) ["numbers"] f X) (B:Bl mg) (c:R7 P w K mg base 1 "has_all" (zw 19) ["number","part"] rA):R7 P w K mg base 2 "greatest_numbers" (zw 21) ["numbers"] ZJ:=by
 refine c6 g TL ?_;rintro _ A _ s H _ _ H3 _ hr ⟨a,V,rfl,L,hl,k⟩;refine⟨_,s!"1ŢZ'{UT}{rfl}{B.reversed_}B#32Ţ({Uw}{rfl}#1{B.any_}{TX}{21}{eO}{["other","number"]}1{[2]}HÅ{["other","number"]}=CU¬§Q-*!J&¶GNWåP%,%?{Hj}{rfl}{rfl}{B.list_}{rfl}{B.reversed_}:#6/%$$",?_⟩
 ac_nf;right;refine⟨zo,λD C=>?_⟩;left;have u:eH H3 (fY H3 D (.lst [])):=eH.new C;have I:fY H3 D (.lst []) D=ab (.lst ((CI bJ []).map aW)):=aq;generalize fY H3 D (.lst [])=H1 at u I;try dsimp only
 refine aA λR1 O=>?_;have W:=u _ _ L;lia;rw[<- OA];refine aV aW V.reverse (λA σ H=>∃(q:ae) (v:ζ T),σ=[ab (.ref a),ab (.ref q),v]/\eH H3 H/\H3 q=af/\H q=ab (.lst ((CI bJ A.reverse).map aW))) ⟨D,af,rfl,u,C,I⟩ ?_ ?_
 .rintro σ H ⟨q,v,rfl,y,d,hq⟩;refine⟨.inl (y _ _ L),?_⟩;left;rw[List.reverse_reverse] at hq;clear I W;lia;intro p U;have R:H3 p=af:=by
   cases e:H3 p with
   |none=>rfl
   |some o=>rw[y _ _ e] at U;cases U
  rw[<- OA];refine My.of ?_ (k p R);intro b o m;by_cases e:b=p
  .subst e;rw[aq] at m |-;exact m
  rw[aF e] at m |-;exact y b o m
 rintro A n B σ H N e ⟨q,v,rfl,y,d,hq⟩ hN;refine⟨.inl (y _ _ L),?_⟩;have hA:A.length+1<=256:=by have:=U_ a7 e;simp only[d_,n_,IG] at this;omega
 have l:=nW.mk hN;have x:CI bJ (A++[n]).reverse=if (CI bJ A.reverse).any (λg=>bJ g n) then CI bJ A.reverse else CI bJ A.reverse++[n]:=by rw[nE];rfl
 have gl:=j5 bJ A.reverse;rw[IG] at gl;clear hN e k O I W;generalize CI bJ A.reverse=G at *;lia;walk_at "c";refine bA aW (λg=>T.bl (bJ g n)) G [ab (aW n)] (.inl hq) zo (λg hg Q' J=>?_) (λF t=>?_)
 .clear l;lia;exact⟨(g:Int),(n:Int),rfl,J⟩
 have z:q≠F:=bB hq t;have Z:(G.map λg=>T.bl (bJ g n))=(G.map λg=>bJ g n).map T.bl:=by rw[N_];rfl
 have S:fY H F (.lst ((G.map λg=>bJ g n).map T.bl)) q=ab (.lst (G.map aW)):=by rw[aF z];exact hq
 have r:eH H3 (fY H F (.lst ((G.map λg=>bJ g n).map T.bl))):=y.trans (eH.new t);rw[Z,iI,eY];generalize fY H F (.lst ((G.map λg=>bJ g n).map T.bl))=H5 at S r;have Y:(G.map λg=>bJ g n).any id=G.any λg=>bJ g n:=by rw[qq];rfl
 rw[Y];cases m:G.any λg=>bJ g n
 .rw[m] at x;simp only[u_,W_] at x;clear Y Z t z;simp only[I0,if_true];lia;refine⟨⟨AD,AD⟩,zo,l.out _ _ ⟨q,_,rfl,?_,d,?_⟩⟩
  .intro b o j;by_cases e:b=q
   .subst e;rw[d] at j;cases j
   rw[aF e];exact r b o j
  rw[aq,x,B_];rfl
 rw[m] at x;simp only[if_true] at x;simp only[Fm,u_,W_];exact l.out _ _ ⟨q,_,rfl,r,d,by rw[x];exact S⟩
noncomputable abbrev pL:ξ aw:=["self","works","beat"]
theorem Pj:gV pL pL (aB (Cb 24 0)):=aX
theorem Pk {f:ae} (g:GI K mg c "Walk" "Walk.__init__" (Cb 24 0) pL f Y) (B:Bl mg) (d:C7 K c ["works","beat","rules","whole"]) (j:R7 P w K mg base 4 "rules_of" (zw 18) ["works"] Ru) (i:R7 P w K mg base 1 "number_of" (zw 14) ["works","tasks"] j9) (l:R7 P w K mg base 1 "names_of" (zw 12) ["tasks"] ZC):Pw P w K mg base c 5 "Walk" pL (NZ c):=by
 refine⟨g.at_,f,Y,g.mk_,g.b,?_⟩;refine L9 g.fn Pj (λts H Q h=>?_) (λcdv A O s H E ts H3 Q L h=>?_)
 .obtain⟨a,W,eG,rfl,_⟩:=h;rfl
 obtain⟨a,W,eG,rfl,S,ha,k⟩:=h;refine⟨_,s!":ēAē«ÏQ*ēŔÏwÏc&*&I*ē%$$$",?_⟩
 ac_nf;have k':=nW.mk k;clear k;right;have Z:fY H3 a (.ins c (fc "works" W.enc [])) a=ab (.ins c [("works",W.enc)]):=aq;refine⟨zC,?_⟩;have v:∀b o,b≠a->H3 b=ab o->fY H3 a (.ins c (fc "works" W.enc [])) b=ab o:=λb o m e=>by rw[aF m];exact e
 generalize fY H3 a (.ins c (fc "works" W.enc []))=V at Z v |-;left;right;refine⟨zC,?_⟩;have y:fc "beat" (zh eG) [("works",W.enc)]=[(("works":aw),W.enc),(("beat":aw),.int eG)]:=by unfold fc;rw[zD AQ];rfl
 rw[y];have C:fY V a (.ins c [("works",W.enc),("beat",.int eG)]) a=ab (.ins c [("works",W.enc),("beat",.int eG)]):=aq;have r:∀b o,b≠a->H3 b=ab o->fY V a (.ins c [("works",W.enc),("beat",.int eG)]) b=ab o:=λb o m e=>by rw[aF m];exact v b o m e
 generalize fY V a (.ins c [("works",W.enc),("beat",.int eG)])=I at C r |-;clear Z v y;left;right;refine⟨W,rfl,S,λp M=>?_⟩;have u:a≠p:=bB C M;have R:fY I p (.lst (W.tasks.map (Ct W (W.tasks.map (·.1))))) p=ab (.lst (W.tasks.map (Ct W (W.tasks.map (·.1))))):=aq;have X:fY I p (.lst (W.tasks.map (Ct W (W.tasks.map (·.1))))) a=ab (.ins c [("works",W.enc),("beat",.int eG)]):=by rw[aF u];exact C
 have t:∀b o,b≠a->H3 b=ab o->fY I p (.lst (W.tasks.map (Ct W (W.tasks.map (·.1))))) b=ab o:=λb o m e=>by rw[aF (bB (r b o m e) M)];exact r b o m e
 generalize fY I p (.lst (W.tasks.map (Ct W (W.tasks.map (·.1)))))=G at R X t |-;clear C r M;lia;refine⟨zC,?_⟩;have y:fc "rules" (zl p) [("works",W.enc),("beat",.int eG)]=[(("works":aw),W.enc),(("beat":aw),.int eG),(("rules":aw),.ref p)]:=by unfold fc;rw[zD AQ];unfold fc;rw[zD AQ];rfl
 rw[y];have F:fY G a (.ins c [("works",W.enc),("beat",.int eG),("rules",.ref p)]) a=ab (.ins c [("works",W.enc),("beat",.int eG),("rules",.ref p)]):=aq;have J:fY G a (.ins c [("works",W.enc),("beat",.int eG),("rules",.ref p)]) p=ab (.lst (W.tasks.map (Ct W (W.tasks.map (·.1))))):=by rw[aF (a6 u)];exact R
 have n:∀b o,b≠a->H3 b=ab o->fY G a (.ins c [("works",W.enc),("beat",.int eG),("rules",.ref p)]) b=ab o:=λb o m e=>by rw[aF m];exact t b o m e
 generalize fY G a (.ins c [("works",W.enc),("beat",.int eG),("rules",.ref p)])=D at F J n |-;clear R X t y;left;lia;refine⟨W.tasks,rfl,S.t8,λq hq=>?_⟩;have N:a≠q:=bB F hq;have U:p≠q:=bB J hq;try dsimp only
 refine⟨W,_,W.tasks.map (·.1),rfl,S,.inr ⟨q,rfl,aq⟩,?_⟩;have ew:zt (W.tasks.map (·.1)) (W.tasks.map (·.1))=(zv W:Int) - 1:=by have h1:=lE (W:=W) (A:=nm W) λx hx=>hx;have h2:=dj W;rw[bO];show ((cN (nm W) (nm W):Nat):Int)=_;rw[h1];omega
 rw[ew];have g7:fY D q (.lst ((W.tasks.map (·.1)).map zi)) a=ab (.ins c [("works",W.enc),("beat",.int eG),("rules",.ref p)]):=by rw[aF N];exact F
 have g8:fY D q (.lst ((W.tasks.map (·.1)).map zi)) p=ab (.lst (W.tasks.map (Ct W (W.tasks.map (·.1))))):=by rw[aF U];exact J
 have z:∀b o,b≠a->H3 b=ab o->fY D q (.lst ((W.tasks.map (·.1)).map zi)) b=ab o:=λb o m e=>by rw[aF (bB (n b o m e) hq)];exact n b o m e
 generalize fY D q (.lst ((W.tasks.map (·.1)).map zi))=H8 at g7 g8 z |-;clear F J n hq;lia;refine⟨zC,?_⟩;have y:fc "whole" (zh ((zv W:Int) - 1)) [("works",W.enc),("beat",.int eG),("rules",.ref p)]=EJ W eG p:=by unfold fc;rw[zD AQ];unfold fc;rw[zD AQ];unfold fc;rw[zD AQ];rfl
 rw[y];exact My.of eH.refl (k'.out _ (λb o m e=>by rw[aF m];exact z b o m e) ⟨p,aq,by rw[aF (a6 u)];exact g8⟩)
noncomputable abbrev gZ:ξ aw:=["self","stand","done","kind","left"]
theorem Tx:gV gZ ["self","stand","done"] (aB (Cb 24 1)):=aX
theorem pM {f:ae} (g:GM K l "fillings_at" "Walk.fillings_at" (Cb 24 1) ["self","stand","done"] f Y) (B:Bl mg) (j:C7 K l ["works","beat","rules","whole"]) (m:R7 P w K mg base 2 "parts_of" (zw 23) ["number"] Q0) (c:R7 P w K mg base 2 "is_filling_number" (zw 20) ["rules","beat","kind","done","number"] Rv):Ix P w K mg base l 3 "fillings_at" ["self","stand","done"] (ZD l):=by
 refine⟨g.cls,f,Y,g.mt,g.b,?_⟩;refine L9 g.fn Tx (λts H Q h=>?_) (λcdv A I s H E ts H3 Q U h=>?_)
 .obtain⟨a,W,eG,k,d,rfl,_⟩:=h;rfl
 obtain⟨a,W,eG,k,d,rfl,v,hw,hk,V,X⟩:=h;refine⟨_,(aj (aY (aR Qe z5 (aQ cJ rfl B.len_ cL (aa (aK Au (di j zI) ao) ak))) (au (aJ (bC ak))) aN)
   (aj (aD 3 Tx.nd (aK Au (aK Au (di j zI) ao) z5))
   (aj (aD 4 Tx.nd (aM m U rfl (aa (aG gH (di j zI) AH) ak)))
   (au (aJ (bx rfl (bz (n0:=(aB (Cb 24 1)).names) (N:=gZ) (N':=["number","kind","done","self"]) (nt:=1) (cap:=[3,2,0]) rfl rfl AQ) (bD AO) (λcl pins s H C0 fp=>⟨(aC 0 (n5 ["number","kind","done","self"])),(c7 (bR (aM c U rfl (aa (di j AI) (aa (di j AI) (aa z5 (aa AH (aa zI ak)))))))),zI⟩))))))),?_⟩
 ac_nf;have S:=nW.mk X;clear X;have t2:=gU v;have t1:=dj W;obtain⟨p,M,D⟩:=hw.ex;have f1:=iu (W:=W) (eG:=eG) (p:=p);have f2:=tE (W:=W) (eG:=eG) (p:=p);have f3:=oZ (W:=W) (eG:=eG) (p:=p);have f4:=o4 (W:=W) (eG:=eG) (p:=p);have x1:=Jk hk;have G:=nW.mk M;have J:=nW.mk D;generalize EJ W eG p=fs at *;right;rw[q_ zo,zD M_];left;right;left;right;refine⟨zv W - 1 - d,by rw[show ((zv W - 1 - d:Nat):Int)=(zv W:Int) - 1 - (d:Int) by omega],zo,λpl r=>?_⟩;have n1:a≠pl:=bB M r;have n2:p≠pl:=bB D r;have x:=DR (W:=W) (eG:=eG) (k:=k) v V;have R:(wF (zv W - 1 - d)).length<=256:=by unfold wF;exact S_ (E6 _ _) (by rw[D_];omega)
 have u:∀i∈wF (zv W - 1 - d),i<zv W:=λi z=>by have:=Y_.mp (L_.mp z).1;omega
 generalize wF (zv W - 1 - d)=ps at *;have n:eH H3 (fY H3 pl (.lst (ps.map aW))):=eH.new r;have h1:=n _ _ G.out;have Z:=n _ _ J.out;have O:fY H3 pl (.lst (ps.map aW)) pl=ab (.lst (ps.map aW)):=aq;generalize fY H3 pl (.lst (ps.map aW))=H4 at n h1 Z O |-;clear M D x1 f1 f4 n1 n2 r;left;have y:=nW.mk u;have t:=nW.mk x;clear u x;lia;walk_at "c";refine cg (still:=bK pl (ps.map aW)) (H:=H4) aW aW (FF W eG k d) ps [ab (.str (W.row.getD k "")),ab (.int (d:Int)),ab (.ref a)] (.inl O) zo ?c1 ?c2 ?c3
 case c2=>exact λi z _ Q' hq=>hq
 case c1 =>
  intro i z Q' hq
  have L:=y.out i z
  have F:=nW.mk hq
  clear S hq
  simp only[aW]
  lia
  refine⟨W,p,eG,W.row.getD k "",pk W d,pk W i,?_,v,Z,?_⟩
  ·
   rw[jM v V,jM v L]
  ·
   exact F.out
 case c3 =>
  intro q hq
  rw[t.out]
  refine My.of ?_ (S.out q (cM n hq))
  intro b o C
  by_cases e:b=q
  ·
   subst e;rw[aq] at C |-;exact C
  ·
   rw[aF e] at C |-;exact n b o C
noncomputable abbrev gB:ξ aw:=["self","number"]
theorem zF:gV gB gB (aB (Cb 24 3)):=aX
theorem zG {f:ae} (g:GM K c "load_at" "Walk.load_at" (Cb 24 3) gB f u) (B:Bl mg) (j:C7 K c ["works","beat","rules","whole"]) (d:R7 P w K mg base 1 "has_all" (zw 19) ["number","part"] rA):Ix P w K mg base c 2 "load_at" gB (Q4 c):=by
 refine⟨g.cls,f,u,g.mt,g.b,?_⟩;refine L9 g.fn zF (λts H Q h=>?_) (λG A m s H E ts H3 Q z h=>?_)
 .obtain⟨a,W,eG,i,rfl,_⟩:=h;rfl
 obtain⟨a,W,eG,i,rfl,o,y,C,r⟩:=h;refine⟨_,(au (aJ (aQ (xY rfl) rfl B.sum_ xZ (aa (bx rfl (bz (n0:=(aB (Cb 24 3)).names) (N:=gB) (N':=["rule","number"]) (nt:=1) (cap:=[1]) rfl rfl AQ) (bD (di j zI)) (λS pins s H O I=>⟨(aC 0 (n5 ["rule","number"])),(c7 (bR (aM d z rfl (aa z5 (aa (aK Au zI ao) ak))))),(aK Au zI ao)⟩)) ak)))),?_⟩;ac_nf;have k:=nW.mk r;clear r;have J:W.tasks.length<=8:=o.t8;obtain⟨p,R,v⟩:=y.ex;have L:=oZ (W:=W) (eG:=eG) (p:=p);generalize EJ W eG p=M at *;lia;walk_at "c";refine cg (still:=bK p (W.tasks.map (Ct W (W.tasks.map (·.1))))) (H:=H3) (Ct W (W.tasks.map (·.1))) (λt=>zh t.2.1) (λt=>decide (t.1∈pk W i)) W.tasks [ab (.int (i:Int))] (.inl v) zo ?c1 ?c2 ?c3
 case c1 =>
  intro t n x hq
  have D:t.1∈W.tasks.map (·.1):=t_.mpr ⟨t,n,rfl⟩
  have F:decide (a8 (i:Int) (zt (W.tasks.map (·.1)) [t.1])=zt (W.tasks.map (·.1)) [t.1])=decide (t.1∈pk W i):=by
   rw[<- jM o C,CC,h_,h_]
   exact mX D
  have l:=nW.mk hq
  clear k hq
  simp only[Ct]
  lia
  refine⟨_,_,rfl,?_⟩
  rw[F]
  exact l.out
 case c2 =>
  intro t n _ x hq
  clear k
  simp only[Ct]
  lia
  try exact hq
 case c3 =>
  intro q hq
  have e:AJ ((W.tasks.filter λt=>decide (t.1∈pk W i)).map λt=>zh t.2.1)=ab ((W.tasks.filter λt=>decide (t.1∈pk W i)).map (·.2.1)):=by
   rw[<- ig,N_];rfl
  rw[e,eY]
  exact My.of (eH.new hq) k.out
noncomputable abbrev dO:ξ aw:=["self","fillings"]
theorem ql:gV dO dO (aB (Cb 24 4)):=aX
theorem qm {f:ae} (g:GM K c "dealing_of" "Walk.dealing_of" (Cb 24 4) dO f t) (B:Bl mg) (e:C7 K c ["works","beat","rules","whole"]) (d:R7 P w K mg base 1 "tasks_of" (zw 15) ["works","number"] Ce):Ix P w K mg base c 2 "dealing_of" dO (ZF c):=by
 refine⟨g.cls,f,t,g.mt,g.b,?_⟩;refine L9 g.fn ql (λts H Q h=>?_) (λy A n s H E ts H3 Q v h=>?_)
 .obtain⟨a,W,eG,l,rfl,_⟩:=h;rfl
 obtain⟨a,W,eG,l,rfl,z,u,R,C,k⟩:=h;refine⟨_,(au (aJ (bG cR rfl B.tuple_ bZ (aa (bx rfl (bz (n0:=(aB (Cb 24 4)).names) (N:=dO) (N':=["filling","self"]) (nt:=1) (cap:=[0]) rfl rfl AQ) (bY z5) (λM pins s H J G=>⟨(aC 0 (n5 ["filling","self"])),bT,(aM d v rfl (aa (di e z5) (aa zI ak)))⟩)) ak)))),?_⟩;ac_nf;have r:=nW.mk k;clear k;obtain⟨p,L,D⟩:=u.ex;have O:=iu (W:=W) (eG:=eG) (p:=p);generalize EJ W eG p=I at *;lia;walk_at "c";refine bA (still:=dR) (H:=H3) aW (λi=>sT (pk W i)) l [ab (.ref a)] trivial zo ?c1 ?c2
 case c1 =>
  intro i x F hq
  have o:=C i x
  have j:((2^W.tasks.length:Nat):Int)=(2:Int)^W.tasks.length:=by push_cast;rfl
  have m:=nW.mk hq
  clear r hq
  simp only[aW]
  lia
  exact⟨W,(i:Int),rfl,z,KU _,by rw[<- j];exact Int.ofNat_lt.mpr o,m.out⟩
 case c2 =>
  intro q hq
  have k:=r.out
  rw[N_] at k
  lia
  exact My.of (eH.new hq) k
noncomputable abbrev jP:ξ aw:=["number","parts","worth"]
theorem OB:gV jP ["number"] (aB (zw 23)):=aX
theorem xg {f:ae} (g:G3 K mg "parts_of" (zw 23) ["number"] f fd) (B:Bl mg) (c:R7 P w K mg base 1 "has_all" (zw 19) ["number","part"] rA):R7 P w K mg base 2 "parts_of" (zw 23) ["number"] Q0:=by
 refine c6 g OB ?_;rintro _ _ _ s H _ _ H3 _ hr ⟨N,rfl,hN,k⟩;refine⟨_,s!"1ĚR_'2Ě>'ŎABO¬§W-*G1Ěk:{23}{jP}{["part","worth"]}1{[2]}HÅ{["part","worth"]}=CUkB:)!J)'%,2ĚlA>)'%$ûú%$$$",?_⟩
 ac_nf;have k':=nW.mk k;clear k;right;refine⟨zC,λI F=>?_⟩;have y:eH H3 (fY H3 I (.lst [zh 0])):=eH.new F;have Y:fY H3 I (.lst [zh 0]) I=ab (.lst (((ay (2^0)).filter (bJ N)).map aW)):=by
  have h0:bJ N 0=ag:=by rw[ir];exact Nat.and_zero N
  rw[aq,show (ay (2^0))=[0] from rfl,KS,h0];rfl
 generalize fY H3 I (.lst [zh 0])=H4 at y Y |-;left;right;left;refine aA λR2 V=>?_;refine⟨λm σ H=>∃(j:Nat) (q:ae),σ=[ab (.int (N:Int)),ab (.ref q),ab (.int ((2^j:Nat):Int))]/\eH H3 H/\H3 q=af/\H q=ab (.lst (((ay (2^j)).filter (bJ N)).map aW))/\m=512 - 2^j/\(∀i,i+1=j->2^i<=N),⟨_,0,I,rfl,y,F,Y,rfl,(λi h=>by omega)⟩,?_⟩;rintro m σ H ⟨j,q,rfl,R,D,hq,rfl,hj⟩;have X:2^j<=256:=by
  cases j with
  |zero=>decide
  |succ i =>
   have h1:=hj i rfl
   have h2:i<8:=by
    rcases qf i 8 with z | z
    ·
     exact z
    ·
     have:=OF (n:=2) zC z
     omega
   exact S_ (OF zC (show i+1<=8 by omega)) zC
 have hp:=so (n:=j) (show 0<2 by decide);lia;by_cases t:2^j<=N
 .have d:decide (((2^j:Nat):Int)<=(N:Int))=ag:=p_ (Int.ofNat_le.mpr t);rw[d,z3 rfl];have hlen:(((ay (2^j)).filter (bJ N))).length<=256:=S_ (E6 _ _) (by rw[D_];exact X);have l:=Jm (N:=N) (k:=j);have e2:((2^j:Nat):Int)*2=((2^(j+1):Nat):Int):=by rw[kP];push_cast;rfl
  have cm:IX ((2^j:Nat):Int) 2:=.inl ⟨zo,zo⟩;have L:2^(j+1)=2^j*2:=by rw[kP]
  have v:nW (∀(C:ae) (H':lq),eH H3 H'->H3 C=af->H' C=ab (.lst (((ay (2^(j+1))).filter (bJ N)).map aW))->∃m',m'<512 - 2^j/\∃(M:Nat) (q:ae),([ab (.int (N:Int)),ab (.ref C),ab (.int (((2^j:Nat):Int)*2))]:AV)=[ab (.int (N:Int)),ab (.ref q),ab (.int ((2^M:Nat):Int))]/\eH H3 H'/\H3 q=af/\H' q=ab (.lst (((ay (2^M)).filter (bJ N)).map aW))/\m'=512 - 2^M/\(∀i,i+1=M->2^i<=N)):=⟨λC H' s1 s2 s3=>⟨_,zo,j+1,C,by rw[e2],s1,s2,s3,rfl,λi hi=>by rw[show i=j by omega];exact t⟩⟩;clear hj V k' Y y e2 d L;generalize (ay (2^(j+1))).filter (bJ N)=nx at *;generalize hcur:(ay (2^j)).filter (bJ N)=a at *;refine⟨(N:Int),((2^j:Nat):Int),rfl,?_⟩;rw[show decide (a8 (N:Int) ((2^j:Nat):Int)=((2^j:Nat):Int))=bJ N (2^j) from rfl];generalize 2^j=p at *;cases u:bJ N p with
  |false=>rw[u] at l;simp only[u_,W_,C9] at l;simp only[dz,u_,W_];rw[<- l] at hq;exact⟨by first | trivial | exact cm,v.out q _ R D hq⟩
  |true =>
  rw[u] at l;simp only[if_true] at l;try simp only[dz,if_true]
  walk_at "c";rw[hq,oF];refine bA aW (λi=>aW (i+p)) a [ab (.int (p:Int))] (.inl hq) zo (λi hi Q' r=>?_) (λO x=>?_)
  .simp only[aW] at r |-;rw[show ((i+p:Nat):Int)=(i:Int)+(p:Int) by push_cast;rfl] at r;have U:=nW.mk r;clear r v;lia;exact U.out
  have S:q≠O:=bB hq x;rw[aF S,hq,lw];refine⟨by rw[g_,g_];omega,λpq J=>?_⟩;have G:eH H3 (fY (fY H O (.lst (a.map λi=>aW (i+p)))) pq (.lst (a.map aW++a.map λi=>aW (i+p)))):=(R.trans (eH.new x)).trans (eH.new J);have Z:H3 pq=af:=cM (R.trans (eH.new x)) J;have gq:fY (fY H O (.lst (a.map λi=>aW (i+p)))) pq (.lst (a.map aW++a.map λi=>aW (i+p))) pq=ab (.lst (nx.map aW)):=by rw[aq,l,B_,N_];rfl
  generalize fY (fY H O (.lst (a.map λi=>aW (i+p)))) pq (.lst (a.map aW++a.map λi=>aW (i+p)))=H5 at G gq |-;exact⟨by first | trivial | exact cm,v.out pq _ G Z gq⟩
 have d:decide (((2^j:Nat):Int)<=(N:Int))=ai:=q_ (λz=>t (Int.ofNat_le.mp z));rw[d,zD M_];rw[Bm zo] at hq;left;lia;refine My.of ?_ (k'.out q D);intro b o u;by_cases e:b=q
 .subst e;rw[aq] at u;rw[hq,u]
 rw[aF e] at u;exact R b o u
theorem xj:gV ["tasks"] ["tasks"] (aB (zw 12)):=aX
theorem xm {f:ae} (g:G3 K mg "names_of" (zw 12) ["tasks"] f d) (B:Bl mg):R7 P w K mg base 1 "names_of" (zw 12) ["tasks"] ZC:=by
 refine c6 g xj ?_;rintro _ _ _ s H _ _ _ _ q ⟨tk,rfl,r,k⟩;refine⟨_,s!"ß{["tasks"]}{["task"]}1{[]}HBV{["task"]}=CU<!J/%",?_⟩;ac_nf;have c:=nW.mk k;clear k;lia;walk_at "c";refine bA AY (λt=>zi t.1) tk [] trivial zo (λt m n hq=>?_) (λj b=>?_)
 .clear c;simp only[AY];lia;try exact hq
 have:=c.out j b;rw[N_] at this;exact My.of eH.refl this
noncomputable abbrev pN:ξ aw:=["works","rules","name","length","kinds","own","group","ahead","apart"]
theorem JE:gV pN ["works"] (aB (zw 18)):=aX
theorem xn {f:ae} (g:G3 K mg "rules_of" (zw 18) ["works"] f S) (B:Bl mg) (c:R7 P w K mg base 1 "number_of" (zw 14) ["works","tasks"] j9) (d:R7 P w K mg base 1 "apart_from" (zw 17) ["works","task"] Rt) (l:R7 P w K mg base 3 "ahead_of" (zw 8) ["works","task"] UY) (j:R7 P w K mg base 3 "group_of" (zw 7) ["works","task"] WH):R7 P w K mg base 4 "rules_of" (zw 18) ["works"] Ru:=by
 refine c6 g JE ?_;rintro _ A _ _ H _ _ H3 _ r ⟨⟨tk,b,A4,row⟩,rfl,m,k⟩;refine⟨_,s!"1ÀZ'<V2À(3À(4À(M..°5ÀWE&-Ĕ'6À«ùW-*&-Ĕ'7ÀwùW-*&-Ĕ'8ÀbùW-*&-Ĕ'gà+Čāh¯ĴE&åP%$$$$?ú%$$",?_⟩
 ac_nf;have Z:tk.length<=8:=m.t8;lia;refine⟨zo,λp C=>?_⟩;refine aV AY tk (λA σ H=>Jx7 λD v3 M J F y z=>∃t:lq,σ=[ab (zk [zk (tk.map AY),zk (b.map A9),zk (A4.map prT),zk (row.map zi)]),ab (.ref p),D,v3,M,J,F,y,z]/\H=fY t p (.lst (A.map (Ct ⟨tk,b,A4,row⟩ (tk.map (·.1)))))/\eH H3 t/\H3 p=af) ⟨af,af,af,af,af,af,af,H3,rfl,rfl,eH.refl,C⟩ ?_ ?_
 .rintro σ H ⟨D,v3,M,J,F,y,z,t,rfl,rfl,O,_⟩;ac_rfl;lia;refine My.of (λa o e=>?_) (k p C);by_cases h:a=p
  .subst h;rw[aq] at e |-;exact e
  rw[aF h] at e |-;exact O _ _ e
 rintro A ⟨nm,v,ks⟩ B σ H N e ⟨D,v3,M,J,F,y,z,t,rfl,rfl,O,_⟩ U;have R:A.length<=8:=by have:=U_ a7 e;simp only[d_,n_] at this;omega
 ac_rfl;have x:nW (∀q,fY t p (.lst (A.map (Ct ⟨tk,b,A4,row⟩ (tk.map (·.1))))) q=af->N [ab (zk [zk (tk.map AY),zk (b.map A9),zk (A4.map prT),zk (row.map zi)]),ab (.ref p),ab (.str nm),ab (.int v),ab (sT ks),ab (.int (zt (tk.map (·.1)) [nm])),ab (.int (zt (tk.map (·.1)) (bu ⟨tk,b,A4,row⟩ nm))),ab (.int (zt (tk.map (·.1)) (dM ⟨tk,b,A4,row⟩ nm))),ab (.int (zt (tk.map (·.1)) (ju ⟨tk,b,A4,row⟩ nm)))] (fY (fY (fY t p (.lst (A.map (Ct ⟨tk,b,A4,row⟩ (tk.map (·.1)))))) q (.lst ((ju ⟨tk,b,A4,row⟩ nm).map zi))) p (.lst (A.map (Ct ⟨tk,b,A4,row⟩ (tk.map (·.1)))++[Ct ⟨tk,b,A4,row⟩ (tk.map (·.1)) (nm,v,ks)])))):=⟨λq hq=>by
  obtain⟨I,u⟩:=cV hq
  refine U _ _ ⟨_,_,_,_,_,_,_,fY t q (.lst ((ju ⟨tk,b,A4,row⟩ nm).map zi)),rfl,?_,O.trans (eH.new u),C⟩
  rw[B_,GJ (a6 I),mJ]
  rfl⟩
 have L:(A.map (Ct ⟨tk,b,A4,row⟩ (tk.map (·.1)))).length<=8:=by rw[g_];exact R
 generalize A.map (Ct ⟨tk,b,A4,row⟩ (tk.map (·.1)))=Y at x L;clear U e k R;simp only[AY];lia;refine⟨AD,zo,⟨tk,b,A4,row⟩,_,[nm],rfl,m,.inl rfl,?_⟩;lia;refine⟨⟨tk,b,A4,row⟩,nm,rfl,m,?_⟩;try dsimp only
 refine⟨⟨tk,b,A4,row⟩,_,bu ⟨tk,b,A4,row⟩ nm,rfl,m,.inl rfl,?_⟩;lia;refine⟨⟨tk,b,A4,row⟩,nm,rfl,m,?_⟩;try dsimp only
 refine⟨⟨tk,b,A4,row⟩,_,dM ⟨tk,b,A4,row⟩ nm,rfl,m,.inl rfl,?_⟩;lia;refine⟨⟨tk,b,A4,row⟩,nm,rfl,m,λq hq=>?_⟩;obtain⟨I,u⟩:=cV hq;have X:=a6 I;try dsimp only
 refine⟨⟨tk,b,A4,row⟩,_,ju ⟨tk,b,A4,row⟩ nm,rfl,m,.inr ⟨q,rfl,aq⟩,?_⟩;lia;exact⟨⟨AD,AD⟩,zo,zo,x.out q hq⟩
noncomputable abbrev fZ:ξ aw:=["rules","beat","kind","done","number","load","own","length","kinds","group","ahead","apart"]
theorem Pr:gV fZ ["rules","beat","kind","done","number"] (aB (zw 20)):=aX
theorem je {f:ae} (g:G3 K mg "is_filling_number" (zw 20) ["rules","beat","kind","done","number"] f fd) (B:Bl mg) (b:R7 P w K mg base 1 "has_all" (zw 19) ["number","part"] rA) (c:R7 P w K mg base 1 "may_be_done" (zw 10) ["kinds","kind"] Rr):R7 P w K mg base 2 "is_filling_number" (zw 20) ["rules","beat","kind","done","number"] Rv:=by
 refine c6 g Pr ?_;rintro _ A _ _ H _ _ H3 Q J ⟨W,a,eG,kind,D,S,rfl,hW,ha,k⟩;have M:=xr.u30 J;refine⟨_,s!"5Á>'Õ6Á(7Á(8Á(9Á(ÂÁ(ÌÁ(M.....ĆÖhĕGÖ¯ĕG¬{J}gW+*GNd]LF%,ĿhĕGNĝ@D)Y&+ĕGNd]LF%,á±v@e)pF%,5ÁkTf)'%$$$,%?ŎT:[/%$$",?_⟩
 ac_nf;lia;refine aV (Ct W (W.tasks.map (·.1))) W.tasks (λA σ H=>Jx6 λF v y G l j=>σ=[ab (.ref a),ab (.int eG),ab (.str kind),ab (.int (zt (W.tasks.map (·.1)) D)),ab (.int (zt (W.tasks.map (·.1)) S)),ab (.int (cX A S)),F,v,y,G,l,j]/\H=H3/\(A.all λt=>!decide (t.1∈S)||MR W kind D S t)=ag) ⟨af,af,af,af,af,af,rfl,rfl,rfl⟩ ?_ ?_
 .rintro σ H ⟨F,v,y,G,l,j,rfl,rfl,m⟩;refine⟨.inl ha,?_⟩;lia;refine My.of eH.refl ?_;unfold qb at k;rw[m,Lu] at k;exact k
 rintro A t B σ H N e ⟨F,v,y,G,l,j,rfl,rfl,m⟩ hN;refine⟨.inl ha,?_⟩;have I:t∈W.tasks:=by rw[e];simp
 have C:t.1∈W.tasks.map (·.1):=t_.mpr ⟨t,I,rfl⟩;have r:∀x∈bu W t.1,x∈W.tasks.map (·.1):=λx d=>(L_.mp d).1;have u:∀x∈dM W t.1,x∈W.tasks.map (·.1):=λx d=>(L_.mp d).1;have q:∀x∈ju W t.1,x∈W.tasks.map (·.1):=λx d=>by obtain⟨p,hp,rfl⟩:=t_.mp d;exact (hW.pp p (L_.mp hp).1).2.2.2
 have b1:decide (a8 (zt (W.tasks.map (·.1)) S) (zt (W.tasks.map (·.1)) [t.1])=zt (W.tasks.map (·.1)) [t.1])=decide (t.1∈S):=by rw[CC,h_,h_];exact mX C
 have b2:decide (a8 (zt (W.tasks.map (·.1)) D) (zt (W.tasks.map (·.1)) [t.1])=zt (W.tasks.map (·.1)) [t.1])=decide (t.1∈D):=by rw[CC,h_,h_];exact mX C
 have b3:decide (a8 (zt (W.tasks.map (·.1)) S) (zt (W.tasks.map (·.1)) (bu W t.1))=zt (W.tasks.map (·.1)) (bu W t.1))=@decide (∀x∈bu W t.1,x∈S) (ap _):=by rw[CC,h_,@h_ _ (ap _),dH];exact⟨λh x d=>h x (r x d) d,λh x _ d=>h x d⟩
 have b4:decide (a8 (cE (zt (W.tasks.map (·.1)) S) (zt (W.tasks.map (·.1)) D)) (zt (W.tasks.map (·.1)) (dM W t.1))=zt (W.tasks.map (·.1)) (dM W t.1))=@decide (∀x∈dM W t.1,x∈S++D) (ap _):=by rw[CC,h_,@h_ _ (ap _),oV,dH];exact⟨λh x d=>h x (u x d) d,λh x _ d=>h x d⟩
 have b5:decide (a8 (zt (W.tasks.map (·.1)) S) (zt (W.tasks.map (·.1)) (ju W t.1))=0)=@decide (∀x∈ju W t.1,x∉S) (ap _):=by rw[CC,h_,@h_ _ (ap _),iM];exact⟨λh x d hs=>h x (q x d) ⟨hs,d⟩,λh x _ z=>h x z.2 z.1⟩
 have o:nW (t.1∈S->MR W kind D S t=ai->My Q (.bl ai) H):=⟨λh1 h2=>by
  refine My.of eH.refl ?_
  have e0:qb W eG kind D S=ai:=by
   unfold qb
   rw[Bool.and_eq_false_iff]
   refine .inl ?_
   rw[List.all_eq_false]
   exact⟨t,I,by simp [h1,h2]⟩
  rw[e0] at k
  exact k⟩
 have L:nW (∀(F v y G l j:ζ T),(t.1∈S->MR W kind D S t=ag)->N [ab (.ref a),ab (.int eG),ab (.str kind),ab (.int (zt (W.tasks.map (·.1)) D)),ab (.int (zt (W.tasks.map (·.1)) S)),ab (.int (cX A S+if t.1∈S then t.2.1 else 0)),F,v,y,G,l,j] H):=⟨λF v y G l j h=>hN _ _ ⟨F,v,y,G,l,j,by rw[oX],rfl,by
  rw[List.all_append,m]
  by_cases z:t.1∈S
  ·
   simp [h z]
  ·
   simp [z]⟩⟩
 clear hN m k e r u q C I;obtain⟨nm,len,ks⟩:=t;dsimp only at *;generalize zt (W.tasks.map (·.1)) D=Z at *;generalize zt (W.tasks.map (·.1)) S=Y at *;simp only[Ct];generalize zt (W.tasks.map (·.1)) [nm]=n1 at *;generalize zt (W.tasks.map (·.1)) (bu W nm)=n2 at *;generalize zt (W.tasks.map (·.1)) (dM W nm)=n3 at *;generalize zt (W.tasks.map (·.1)) (ju W nm)=n4 at *;unfold MR at o L;dsimp only at o L;generalize R:decide (nm∈D)=c1 at *;generalize X:@decide (∀x∈bu W nm,x∈S) (ap _)=c3 at *;generalize V:@decide (∀x∈dM W nm,x∈S++D) (ap _)=c4 at *;generalize O:@decide (∀x∈ju W nm,x∉S) (ap _)=c5 at *;clear R X V O;lia;refine⟨AD,Y,n1,rfl,?_⟩;rw[b1];by_cases hS:nm∈S
 .simp only[hS,Fu,if_true,dz,true_implies] at o L |-;refine⟨Z,n1,rfl,?_⟩;rw[b2];cases c1 with
  |true =>
   try simp only[dz,if_true]
   exact o.out Ap
  |false =>
  simp only[dz,u_,W_];refine⟨ks,kind,rfl,?_⟩;generalize sZ ks kind=c2 at *;cases c2 with
  |false=>simp only[dz,I0,if_true];exact o.out Ap
  |true =>
  simp only[dz,Fm,u_,W_];refine⟨Y,n2,rfl,?_⟩;rw[b3];cases c3 with
  |false=>simp only[dz,I0,if_true];exact o.out Ap
  |true =>
  simp only[dz,Fm,u_,W_];refine⟨cE Y Z,n3,rfl,?_⟩;rw[b4];cases c4 with
  |false=>simp only[dz,I0,if_true];exact o.out Ap
  |true =>
  simp only[dz,Fm,u_,W_];try rw[b5]
  cases c5 with
  |false=>simp only[I0,if_true];exact o.out Ap
  |true =>
  simp only[Fm,u_,W_];exact L.out _ _ _ _ _ _ Ap
 simp only[hS,ED,u_,W_,dz,kU,false_implies] at o L |-;exact L.out _ _ _ _ _ _ (by first | trivial | simp)
noncomputable abbrev pQ:ξ aw:=["works","number","tasks","left","task"]
theorem Oy:gV pQ ["works","number"] (aB (zw 15)):=aX
theorem xq {f:ae} (g:G3 K mg "tasks_of" (zw 15) ["works","number"] f z) (B:Bl mg):R7 P w K mg base 1 "tasks_of" (zw 15) ["works","number"] Ce:=by
 refine c6 g Oy ?_;rintro _ A _ _ H _ _ H3 _ D ⟨⟨tk,b,A4,row⟩,n,rfl,J,n0,M,k⟩;have l:=xr.u30 D;refine⟨_,s!"2ěZ'3ě:'<V4ě(ķļp|¨©ªAý&qP%,3ěë'%$?Wx/%$$$",?_⟩
 ac_nf;have O:tk.length<=8:=J.t8;lia;refine⟨zo,λp G=>?_⟩;refine jh (λr σ H=>∃(A B:ξ (aw × Int × ξ aw)) (v:ζ T),tk=A++B/\r=B.map AY/\H=fY H3 p (.lst ((AN (A.map (·.1)) n).map zi))/\σ=[ab (zk [zk (tk.map AY),zk (b.map A9),zk (A4.map prT),zk (row.map zi)]),ab (.int n),ab (.ref p),ab (.int (n / 2^A.length)),v]) ⟨[],tk,af,rfl,rfl,rfl,Ap⟩ ?_ ?_
 .rintro σ H ⟨A,B,v,e,d,rfl,rfl⟩;have F:B=[]:=Pl.mp d.symm;subst F;rw[C9] at e;subst e;clear d;ac_rfl;lia;exact My.of (eH.new G) k
 rintro x r σ H N ⟨A,B,v,e,d,rfl,rfl⟩ C;cases B with
 |nil=>cases d
 |cons t B =>
 rw[I_,sQ] at d;obtain⟨rfl,rfl⟩:=d;have L:A.length+1<=8:=by have:=U_ a7 e;simp only[d_,n_] at this;omega
 have c:=wy (A.map (·.1)) [t.1] n;simp only[AN,g_] at c;have q:=mY (A.map (·.1)) n;rw[g_] at q;have j:n / 2^A.length / 2=n / 2^(A++[t]).length:=by rw[d_,z_,Lv,eS (Int.le_of_lt (Int.pow_pos zC))]
 have a:∀v,N [ab (zk [zk (tk.map AY),zk (b.map A9),zk (A4.map prT),zk (row.map zi)]),ab (.int n),ab (.ref p),ab (.int (n / 2^A.length / 2)),v] (fY H3 p (.lst ((AN (A.map (·.1)++[t.1]) n).map zi))):=λv=>by rw[j];exact C _ _ ⟨A++[t],B,v,by rw[e];simp,rfl,Ap,rfl⟩
 rw[c] at a;replace a:=nW.mk a;obtain⟨nm,o,ks⟩:=t;ac_rfl;clear C e k c j;simp only[AY,sT];lia;try simp only[true_and]
 refine⟨zC,?_⟩;by_cases u:n / 2^A.length%2=1
 .simp only[u,if_true,Fu] at a |-;refine⟨zo,?_⟩;have y:=a.out (ab (zk [zi nm,zh o,zk (ks.map zi)]));rw[B_] at y;exact⟨⟨zC,AQ⟩,y⟩
 simp only[u,W_,ED,u_,C9] at a |-;exact⟨⟨zC,AQ⟩,a.out _⟩
end
noncomputable def J6 (K:a5):Bool:=K.all λp=>!(p.2.cls==.type "list")
theorem J7 {K:a5} (e:K.lookup a=ab o):(a,o)∈K:=by
 induction K with
 |nil=>cases e
 |cons p r c =>
 obtain⟨b,u⟩:=p;rw[F1] at e;split at e
 .rename_i h;rw[eq_of_beq h,O_ e];exact A_
 exact E_ _ (c e)
theorem Eh {K:a5} (h:J6 K=ag) (e:K.lookup a=ab o):o.cls≠.type "list":=λz=>by
 have b:(a,o)∈K:=J7 e;have q:=V_.mp h (a,o) b;rw[z] at q;simp at q
theorem uc (h:us.length=n+1):∃(a:av) (r:ξ av),us=a::r/\r.length=n:=by
 cases us with
 |nil=>exact nomatch h
 |cons a r=>exact⟨a,r,rfl,Nat.succ.inj h⟩
theorem uz {us:ξ av}(h:us.length=0):us=[]:=QY h
theorem h? (h:∀a:av,c8 c ⟨[a],[]⟩=ce ([b].zip [a])) (us:ξ av) (e:us.length=1):c8 c ⟨us,[]⟩=ce ([b].zip us):=by obtain⟨a,g,d,f⟩:=uc e;rw[d,uz f];exact h a
theorem UU {f:d4} (h:∀a b:av,c8 f ⟨[a,b],[]⟩=ce ([d,c].zip [a,b])) (us:ξ av) (e:us.length=2):c8 f ⟨us,[]⟩=ce ([d,c].zip us):=by obtain⟨a,l,g,i⟩:=uc e;obtain⟨b,m,j,k⟩:=uc i;rw[g,j,uz k];exact h a b
theorem SK {g f d:aw} (h:∀a c b:av,c8 i ⟨[a,c,b],[]⟩=ce ([g,f,d].zip [a,c,b])) (us:ξ av) (e:us.length=3):c8 i ⟨us,[]⟩=ce ([g,f,d].zip us):=by obtain⟨a,q,j,l⟩:=uc e;obtain⟨c,r,n,o⟩:=uc l;obtain⟨b,p,m,k⟩:=uc o;rw[j,n,m,uz k];exact h a c b
theorem G! {k f g j:aw} (h:∀b d c a:av,c8 i ⟨[b,d,c,a],[]⟩=ce ([k,f,g,j].zip [b,d,c,a])) (us:ξ av) (e:us.length=4):c8 i ⟨us,[]⟩=ce ([k,f,g,j].zip us):=by obtain⟨b,t,m,p⟩:=uc e;obtain⟨d,w,r,s⟩:=uc p;obtain⟨c,v,o,n⟩:=uc s;obtain⟨a,u,l,q⟩:=uc n;rw[m,r,o,l,uz q];exact h b d c a
theorem I! (h:∀b f c a d:av,c8 j ⟨[b,f,c,a,d],[]⟩=ce ([l,g,i,k,m].zip [b,f,c,a,d])) (us:ξ av) (e:us.length=5):c8 j ⟨us,[]⟩=ce ([l,g,i,k,m].zip us):=by obtain⟨b,x,q,t⟩:=uc e;obtain⟨f,B,v,w⟩:=uc t;obtain⟨c,A,s,r⟩:=uc w;obtain⟨a,y,n,u⟩:=uc r;obtain⟨d,z,o,p⟩:=uc u;rw[q,v,s,n,o,uz p];exact h b f c a d
theorem a? (h:∀c g d a f b:av,c8 l ⟨[c,g,d,a,f,b],[]⟩=ce ([n,i,k,m,o,j].zip [c,g,d,a,f,b])) (us:ξ av) (e:us.length=6):c8 l ⟨us,[]⟩=ce ([n,i,k,m,o,j].zip us):=by obtain⟨c,B,s,w⟩:=uc e;obtain⟨g,G,z,A⟩:=uc w;obtain⟨d,F,u,t⟩:=uc A;obtain⟨a,D,p,x⟩:=uc t;obtain⟨f,E,q,r⟩:=uc x;obtain⟨b,C,v,y⟩:=uc r;rw[s,z,u,p,q,v,uz y];exact h c g d a f b
theorem Q! {K:a5}{st:ez}{f:ae}{kV d g b e:av} (X:K.In h) (G:h.Ns bo mg) (a:nsIn K bo x=ab (ab (.ref f))) (l:K.lookup f=ab ⟨o,m,.func (oB x x (dw st) (cP st) (aB st) .none kV d g i b e),j⟩) (c:rX K b x=ag) (k:kD K (.ref f)=ag) (n:∀(kV d g:av) (i:ζ ae) (b e:av) (us:ξ av),us.length=ps.length->c8 (oB x x (dw st) (cP st) (aB st) .none kV d g i b e) ⟨us,[]⟩=ce (ps.zip us)):
  G3 K mg x st ps f (oB x x (dw st) (cP st) (aB st) .none kV d g i b e) :=
 have F:=Fi (st:=st) l c k
 ⟨F,F.binds n,mg_of X G a⟩
theorem bV {i:Nat} {ps:ξ aw} {x:aw} (f:ae) (m:aw) (t c:Nat) {K:a5} (X:K.In h) (G:h.Ns bo mg) (b:∀(kV doc pm:av) (an:ζ ae) (cdv ct:av) (us:ξ av),us.length=ps.length->c8 (oB x x (dw (zw i)) (cP (zw i)) (aB (zw i)) .none kV doc pm an cdv ct) ⟨us,[]⟩=ce (ps.zip us):=by intro _ _ _ _ _ _; first | exact h? λ_=>rfl | exact UU λ_ _=>rfl | exact SK λ_ _ _=>rfl | exact G! λ_ _ _ _=>rfl | exact I! λ_ _ _ _ _=>rfl | exact a? λ_ _ _ _ _ _=>rfl) (a:nsIn K bo x=ab (ab (.ref f)):=by kernel_rfl) (l:K.lookup f=ab (fO i x m t c):=by kernel_rfl) (e:rX K (.ref c) x=ag:=by kernel_rfl) (k:kD K (.ref f)=ag:=by kernel_rfl):
  G3 K mg x (zw i) ps f (oB x x (dw (zw i)) (cP (zw i)) (aB (zw i)) .none .none .none (.str m t) af (.ref c) .none) :=
 Q! X G a l e k b
theorem xu {K:a5}(n q:aw) (st:ez) (f:ae) (m:aw) (t c:Nat) (l:K.lookup f=ab (fQ st n q m t c):=by kernel_rfl) (e:rX K (.ref c) q=ag:=by kernel_rfl) (k:kD K (.ref f)=ag:=by kernel_rfl):G1 K n q st f (oB n q (dw st) (cP st) (aB st) .none .none .none (.str m t) af (.ref c) .none):=Fi l e k
theorem ajK (Y:PySem.W.Hook.says HK w h):(KK w.params).In h/\h.get? 245=ab (mh #[])/\l9 h 245:=by have X:(K2 w.params).In h:=kIn_of Y;have a:(KK w.params).In h:=λb o e=>X b o (by show d3 b (KK w.params++_)=_;rw[List.lookup_append,show d3 b (KK w.params)=ab o from e];rfl);exact⟨a,X 245 _ Bi,247,cO "cases_of" 247 ai 534 537 180 4,_,a 247 _ Bi,rfl,rfl,rfl⟩
theorem aiH {l:PySem.W.OpenLaw} (X:(KK w.params).In h) (G:h.Ns bo mg) (hfa:mg "law"=ab (.ref fa)):
  ∃fd:d4,(∀(s:aT) (v:av),rc s fd ⟨[v],[]⟩ [(Bn,v)])/\∀base:cn,(KK w.params).In base->base.Ns bo mg->iU l.prog w (KK w.params) mg base 10 fa fd [Bn] (BW 245 o6 mD):=by
 have r:∀{n:aw} {v:av},nsIn (KK w.params) bo n=ab (ab v)->mg n=ab v:=λe=>mg_of X G e;have v0:∀{n:aw},nsIn (KK w.params) bo n=ab af->mg n=af:=λe=>PySem.W.mg_none_of X G e;have e:=hfa.symm.trans (r (v:=.ref 432) Bi);cases e;have B:Bl mg:=by constructor <;> exact v0 Bi
 refine⟨oB "law" "law" (dw (zw 70)) (cP (zw 70)) (aB (zw 70)) .none .none .none (.str AT 566) af (.ref 431) .none,λs v=>.of_eq rfl,λbase KB _=>?_⟩;have hC_:wS base 247 245:=⟨cO "cases_of" 247 ai 534 537 180 4,_,_,_,_,_,_,_,_,KB 247 _ Bi,rfl,rfl,rfl,rfl,rfl,rfl,rfl,rfl,zC⟩;have hBu_:base.BuiltinsAt mg 245:=⟨4,_,r (v:=.ref 4) Bi,zC,zC,zC,KB 4 ⟨.type "module",ab h9,.plain,#[]⟩ Bi,rfl,rfl,rfl⟩;have d:FY (KK w.params) 165:=⟨Bi,Bi,Bi,Bi⟩;have ve:∀n∈(["works","beat","rules","whole"]:ξ aw),hY (KK w.params) (.ref 165) n=ab af:=λn hn=>by simp only[v_,DI,DJ] at hn;rcases hn with rfl | rfl | rfl | rfl <;> kernel_rfl
 have a:C7 (KK w.params) 165 ["works","beat","rules","whole"]:=⟨d,ve⟩;have z:=xu (K:=KK w.params) "__init__" "Walk.__init__" (Cb 24 0) 140 FL 351 139;have g_Walk:GI (KK w.params) mg 165 "Walk" "Walk.__init__" (Cb 24 0) ["self","works","beat"] 140 _:=⟨⟨Bi,Bi,Bi,Bi⟩,z,z.binds λ_ _ _ _ _ _=>SK λ_ _ _=>rfl,r (v:=.ref 165) Bi⟩;have f:=xu (K:=KK w.params) "fillings_at" "Walk.fillings_at" (Cb 24 1) 145 FL 351 144;have N:GM (KK w.params) 165 "fillings_at" "Walk.fillings_at" (Cb 24 1) ["self","stand","done"] 145 _:=⟨d,f,f.binds λ_ _ _ _ _ _=>SK λ_ _ _=>rfl,⟨Bi,Bi,Bi⟩⟩;have g:=xu (K:=KK w.params) "greatest_at" "Walk.greatest_at" (Cb 24 2) 152 FL 351 151;have S:GM (KK w.params) 165 "greatest_at" "Walk.greatest_at" (Cb 24 2) ["self","stand","done"] 152 _:=⟨d,g,g.binds λ_ _ _ _ _ _=>SK λ_ _ _=>rfl,⟨Bi,Bi,Bi⟩⟩;have F:=xu (K:=KK w.params) "load_at" "Walk.load_at" (Cb 24 3) 157 FL 351 156;have g_load_at:GM (KK w.params) 165 "load_at" "Walk.load_at" (Cb 24 3) ["self","number"] 157 _:=⟨d,F,F.binds λ_ _ _ _ _ _=>UU λ_ _=>rfl,⟨Bi,Bi,Bi⟩⟩;have q:=xu (K:=KK w.params) "dealing_of" "Walk.dealing_of" (Cb 24 4) 162 FL 351 161;have g_dealing_of:GM (KK w.params) 165 "dealing_of" "Walk.dealing_of" (Cb 24 4) ["self","fillings"] 162 _:=⟨d,q,q.binds λ_ _ _ _ _ _=>UU λ_ _=>rfl,⟨Bi,Bi,Bi⟩⟩;have x:=O8 (P:=l.prog) (w:=w) (base:=base) (bV 269 AT 566 268 X G) B;have J:=O9 (P:=l.prog) (w:=w) (base:=base) (bV 276 AT 566 275 X G) B;have Q:=Eg (P:=l.prog) (w:=w) (base:=base) (bV 283 AT 566 282 X G) B;have uj:=Pa (bV 290 AT 566 289 X G) B J Q;have uk:=Pb (bV 297 AT 566 296 X G) B J;have wh:=J3 (bV 302 AT 566 301 X G) B x;have ui:=J4 (bV 307 AT 566 306 X G) B x uj uk Q wh;have u3:=J5 (P:=l.prog) (w:=w) (base:=base) (bV 314 AT 566 313 X G) B;have vv:=Ph (bV 319 AT 566 318 X G) B u3;have vw:=JN (bV 326 AT 566 325 X G) B ui vv x;have v2:=JX (P:=l.prog) (w:=w) (base:=base) (bV 333 AT 566 332 X G) B;have b:=tU (P:=l.prog) (w:=w) (base:=base) (bV 83 "stationrow.sets" 272 82 X G) B;have wf:=qe (P:=l.prog) (w:=w) (base:=base) (bV 95 IC 296 94 X G) B;have A:=j8 (P:=l.prog) (w:=w) (base:=base) (bV 50 EC 187 49 X G) B;have L:=zg (P:=l.prog) (w:=w) (base:=base) (bV 28 EC 187 27 X G) B;have D:=wO (P:=l.prog) (w:=w) (base:=base) (bV 21 EC 187 20 X G) B;have E:=wR (bV 40 EC 187 39 X G) B L D;have T:=Eb (bV 35 EC 187 34 X G) B L D;have u4:=wX (bV 64 EC 187 63 X G) B A E T;have uu:=zm (P:=l.prog) (w:=w) (base:=base) (bV 45 EC 187 44 X G) B;have vx:=wV (bV 57 EC 187 56 X G) B uu T E
 have vb:=xn (bV 102 IC 296 101 X G) B b wf u4 vx;have wr:=xm (P:=l.prog) (w:=w) (base:=base) (bV 76 "stationrow.texts" 264 75 X G) B;have p:=Pk g_Walk B a vb b wr;have c:=zq (P:=l.prog) (w:=w) (base:=base) (bV 109 IC 296 108 X G) B;have t:=jx (bV 121 IC 296 120 X G) B c;have U:=xg (bV 126 FL 351 125 X G) B c;have O:=pA (P:=l.prog) (w:=w) (base:=base) (bV 71 "stationrow.checks" 254 70 X G) B;have m:=je (bV 116 IC 296 115 X G) B c O;have M:=pM N B a U m;have j:=pK S B a t M
 have R:=pF (bV 176 "stationrow.dealt" 419 175 X G) B a j
 have k:=xq (P:=l.prog) (w:=w) (base:=base) (bV 90 "stationrow.sets" 272 89 X G) B;have wc:=qm g_dealing_of B a k;have u:=qi (bV 183 "stationrow.dealt" 419 182 X G) B a p R wc;have we:=zG g_load_at B a c;have o:=pI (bV 190 Cn 446 189 X G) B a b we
 have i:=mG (bV 195 Cn 446 194 X G) B a b k j
 have wo:=t7 (bV 243 Cn 446 242 X G) B a o i;have vu:=wY (bV 248 Cn 446 247 X G) B rfl hC_ hBu_ zC a b wo
 have H:=mF (P:=l.prog) (w:=w) (base:=base) (bV 255 Cn 446 254 X G) B;have Z:=tZ (bV 262 Cn 446 261 X G) B a p u vu H;have y:=tY (P:=l.prog) (w:=w) (base:=base) (bV 406 AT 566 405 X G) B;have I:=JS (P:=l.prog) (w:=w) (base:=base) (bV 340 AT 566 339 X G) B;have V:=pC (bV 411 AT 566 410 X G) B y I;have ua:=qg (bV 418 AT 566 417 X G) B y V I;have vy:=qj (bV 231 Cn 446 230 X G) B b;have vk:=zA (bV 202 Cn 446 201 X G) B a b k c;have va:=zz (bV 209 Cn 446 208 X G) B a o;have vn:=zx (P:=l.prog) (w:=w) (base:=base) (bV 214 Cn 446 213 X G) B;have u7:=zu (bV 219 Cn 446 218 X G) B a i;have wn:=uf (bV 226 Cn 446 225 X G) B a va vn u7;have vr:=w6 (bV 236 Cn 446 235 X G) B a p vy vk wn;have C:=Ed (P:=l.prog) (w:=w) (base:=base) (bV 362 AT 566 361 X G) B;have Y:=zB (P:=l.prog) (w:=w) (base:=base) (bV 345 AT 566 344 X G) B;have ub:=Ef (bV 350 AT 566 349 X G) B Y;have wq:=O4 (bV 355 AT 566 354 X G) B C ub Y;have vl:=tW (P:=l.prog) (w:=w) (base:=base) (bV 391 AT 566 390 X G) B;have wb:=O6 (P:=l.prog) (w:=w) (base:=base) (bV 384 AT 566 383 X G) B;have wa:=O7 (P:=l.prog) (w:=w) (base:=base) (bV 374 AT 566 373 X G) B;have wl:=wZ (bV 379 AT 566 378 X G) B wa;have vt:=JW (P:=l.prog) (w:=w) (base:=base) (bV 367 AT 566 366 X G) B;have vc:=JQ (bV 396 AT 566 395 X G) B C wb wl vt;have u8:=Ec (bV 401 AT 566 400 X G) B C wq vl vc;have wm:=JP (bV 425 AT 566 424 X G) B Z u ua vr u8;exact Wu (bV 432 AT 566 431 X G) B vw v2 wm
theorem walk {l:PySem.W.OpenLaw}{K:mi->a5} (E:l.most=ab 63) (C:d.params.defaults=[]) (J:∀(w:bg) (h:cn),YP w h->(K w.params).In h/\h.get? 245=ab (mh #[])/\l9 h 245) (D:∀w:bg,(K w.params).lookup 245=af) (j:∀w:bg,J6 (K w.params)=ag) (F:∀(w:bg) (mg:aw->ζ av) (fa:ae) (h:cn),(K w.params).In h->h.Ns bo mg->mg d.name=ab (.ref fa) ->
   ∃fd:d4,(∀(s:aT) (u:av),rc s fd ⟨[u],[]⟩ [(Bn,u)])/\∀base:cn,(K w.params).In base->base.Ns bo mg->iU l.prog w (K w.params) mg base 10 fa fd [Bn] (BW 245 o6 mD)):
  xy q loose XP YP l.row.toRowW d [] (λf vs=>wP f vs):=by
 refine L2.ahC (n:=63) (k:=10) (x:=Bn) (CX:=λ_=>KM) (sp:=λw=>uT (K w.params) (BW 245 o6 mD)) (Pt:=245) E zC C ⟨rfl,zC,zC,rfl⟩ J D F (λw H a ns L p c=>?_) λ_ _ _ _ _ z=>z;have M:a≠245:=λz=>by
  subst z;rcases c with (c | ⟨o,c⟩) | ⟨o,A,n,g,_⟩
  .rw[p.1] at c;cases c
  .rw[p.1] at c;cases c
  rw[D w] at g;cases g
 refine⟨[.ref a],λb=>if b=245 then ab (.tab o6 mD) else if b=a then ab (.rol (ns.map zh)) else af,λt _=>t=.bl ag,.cons .ofRef .nil,λb o e=>?_,⟨a,ns,rfl,(zD M).trans (z3 rfl),L,z3 rfl,λ_=>rfl⟩,λv H' t I _ _ r q=>?_⟩
 .dsimp only at e;by_cases B:b=245
  .rw[z3 B] at e;cases e;subst B;exact Nf p.1
  rw[zD B] at e;by_cases y:b=a
  .rw[z3 y] at e;cases e;subst y;rcases c with c | ⟨o,A,n,g,N,_⟩
   .refine⟨_,c,?_⟩;have:∀i:ξ Int,nP (K w.params) H (i.map zh) (i.map V.int):=λi=>by
     induction i with
     |nil=>exact .nil
     |cons m r G=>exact .cons .ofInt G
    exact this ns
   exact AL N (Eh (j w) g)
  rw[zD y] at e;cases e
 subst q;exact r.bl
end M
open PySem PySem.W PyProof.Rows
set_option maxRecDepth 100000 in
set_option maxHeartbeats 0 in
theorem PySem.Challenge.cw_stationrow_k51_papers_told_holds : PySem.Challenge.rw_stationrow_k51_papers_told.Holds :=
 M.zqH (M.walk (l:=PySem.Challenge.rw_stationrow_k51_papers_told) rfl rfl (λw h Y=>M.ajK Y) (λw=>by kernel_rfl) (λw=>by kernel_rfl) λw mg fa h KX G hmg=>M.aiH KX G hmg)
