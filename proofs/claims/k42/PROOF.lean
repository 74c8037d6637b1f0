import PyProof.Rows.All
import PyProof.EqAt
import PyProof.EqKinds
import PyProof.TupleCall
import PyProof.NeKinds
import PyProof.StrWalks
import PyProof.Rows.SetFrom
import PyProof.WalksMore
import KE.KIntText
import PyProof.EnumMake
import PyProof.WalkInts
import PyProof.ReprRoads
import PyProof.ReprLen
import KE.KRevIter
import KE.KRevSl
import PyProof.StrCalls
import PyProof.Rows.StrFit
import KE.KDictOf
import PyProof.AttrMissHeap
import PyProof.DictItems
import KE.KDictLaws
import KE.KSortTup
import KE.KDictList
import PyProof.ExcClass3
import PyProof.ExcInit
import PyProof.StationsW
import OpenK.KOwn
import PyProof.RulesAs
import PyProof.RulesDel
import PyProof.InstStoreFacts
import PyProof.ExcBaseAll.ValueError
import PyProof.ExcAttrAll.ValueError
import KE.KIsAll
import PyProof.StrLawsTight
import PyProof.StrLawsNeg
import Open.Tree
import Wide.Line
import KE.KFromBytes
import KE.KItem
import PySem.Challenge.RW_stationrow_k42_fewest_stands
abbrev a_:=@PySem.wpAny_bind
abbrev b_:=@PySem.Heap.get?_push_of_some
abbrev d_:=@List.length_append
abbrev e_:=@List.getElem?_eq_getElem
abbrev g_:=@List.length_map
abbrev h_:=@List.getD_eq_getElem?_getD
abbrev i_:=@List.mem_singleton
abbrev j_:=@List.length_cons
abbrev k_:=@PySem.wpAny_pure
abbrev l_:=@List.mem_cons_self
abbrev m_:=@Nat.le_refl
abbrev n_:=@decide_eq_true_iff
abbrev o_:=@PySem.Heap.lt_size
abbrev p_:=@List.size_toArray
abbrev q_:=@List.mem_cons_of_mem
abbrev t_:=@PySem.Heap.get?_push_size
abbrev u_:=@List.mem_append
abbrev v_:=@List.length_singleton
abbrev x_:=@List.mem_cons
abbrev y_:=@Bool.false_eq_true
abbrev z_:=@List.map_append
abbrev A_:=@List.mem_map
abbrev B_:=@List.getElem?_map
abbrev C_:=@List.length_range
abbrev D_:=@PySem.PassesOwn.never
abbrev E_:=@List.mem_filter
abbrev F_:=@Option.some.inj
abbrev G_:=@Bool.false_ne_true
abbrev H_:=@PySem.F.plainAttrs_list
abbrev I_:=@decide_eq_false
abbrev J_:=@List.map_cons
abbrev K_:=@Nat.ne_of_lt
abbrev L_:=@decide_eq_true
abbrev M_:=@Nat.lt_of_lt_of_le
abbrev N_:=@List.getElem?_eq_none
abbrev O_:=@PySem.F.slot_list_append
abbrev P_:=@PySem.F.type_list_append
abbrev Q_:=@List.getElem?_append_right
abbrev R_:=@Nat.le_trans
abbrev S_:=@Int.emod_lt_of_pos
abbrev T_:=@congrArg
abbrev U_:=@List.mem_append_left
abbrev V_:=@List.mem_append_right
abbrev W_:=@List.append_nil
abbrev X_:=@Int.emod_nonneg
abbrev Y_:=@List.mem_of_getElem?
abbrev Zb:=@if_false
abbrev Zc:=@List.length_filter_le
abbrev Zd:=@Nat.ne_of_gt
abbrev Ze:=@List.not_mem_nil
abbrev Zf:=@List.mem_range
abbrev Zg:=@List.getElem?_range
abbrev Zh:=@List.map_map
abbrev Zi:=@Bool.and_eq_true
abbrev Zj:=@PyProof.Rows.slot_tuple_getitem
abbrev Zk:=@Bool.eq_iff_iff
abbrev Zm:=@PySem.Heap.get?_update_other
abbrev Zn:=@List.getElem?_append_left
abbrev Zo:=@Nat.lt_trans
abbrev Zq:=@PySem.wpAny_field
abbrev Zr:=@Nat.lt_irrefl
abbrev Zt:=@List.append_assoc
abbrev Zu:=@List.length_nil
abbrev Zv:=@PyProof.Rows.callWith_type1
abbrev Zw:=@List.getElem_mem
abbrev Zx:=@Nat.zero_le
abbrev Zy:=@beq_eq_false_iff_ne
abbrev Zz:=@PySem.wpAny_mono
abbrev ZC:=@PySem.wpAny_newObj_type
abbrev ZD:=@List.take_succ_eq_append_getElem
abbrev ZF:=@PySem.wpAny_Call_Name_kw
abbrev ZG:=@List.filter_append
abbrev ZJ:=@List.length_replicate
abbrev ZK:=@List.replicate_succ
abbrev ZL:=@decide_false
abbrev ZM:=@List.map_congr_left
abbrev ZP:=@List.nodup_cons
abbrev ZQ:=@List.all_eq_true
abbrev ZR:=@of_decide_eq_true
abbrev ZS:=@List.filter_congr
abbrev ZV:=@List.getElem?_eq_some_iff
abbrev ZW:=@List.getElem?_set_self
abbrev ZX:=@PySem.Heap.size_push
abbrev ZZ:=@Nat.lt_succ_self
abbrev Z0:=@List.length_take
abbrev Z9:=@List.lookup_cons
abbrev Z_:=@List.mem_flatten
abbrev aaa:=@List.length_reverse
abbrev aab:=@Int.toNat_natCast
abbrev aac:=@List.flatten_cons
abbrev aad:=@Nat.lt_succ_of_lt
abbrev aae:=@List.nodup_append
abbrev aaf:=@PySem.wpAny_callSpecial?_slot
abbrev aag:=@List.getElem?_set_ne
abbrev aah:=@PySem.W.Looks.here
abbrev aai:=@Array.getElem?_eq_some_iff
abbrev aaj:=@PySem.wpAny_holding
abbrev aak:=@PySem.wpAny_call_entry
abbrev aal:=@List.any_eq_true
abbrev aam:=@List.filter_cons
abbrev aan:=@beq_iff_eq
abbrev aao:=@decide_true
abbrev aap:=@List.eq_nil_of_length_eq_zero
abbrev aaq:=@PySem.Heap.get?_update_self
abbrev aar:=@Nat.le_of_lt
abbrev aas:=@List.getElem?_cons_succ
abbrev aat:=@decide_eq_false_iff_not
abbrev aau:=@decide_eq_decide
abbrev aav:=@List.getElem?_cons_zero
abbrev aaw:=@List.getElem?_of_mem
abbrev aax:=@Array.getD_eq_getD_getElem?
abbrev aay:=@Prod.mk.injEq
abbrev aaz:=@List.sum_cons
abbrev aaA:=@List.map_nil
abbrev aaB:=@or_false
abbrev aaC:=@PySem.Heap.get?_update_ne
abbrev aaD:=@List.flatten_append
abbrev aaE:=@Nat.le_succ
abbrev aaF:=@List.pairwise_iff_getElem
abbrev aaG:=@PySem.Calls.spliced_cons
abbrev aaH:=@Option.isSome_some
abbrev aaI:=@List.getElem_map
abbrev aaJ:=@Nat.lt_of_le_of_lt
abbrev aaK:=@PySem.wpAny_seqItems
abbrev aaL:=@Bool.not_false
abbrev aaM:=@PySem.wpAny_truthy_bool
abbrev aaN:=@PySem.wpAny_loadPart_at
abbrev aaO:=@List.foldl_append
abbrev aaP:=@Option.bind_eq_some_iff
abbrev aaQ:=@List.find?_cons
abbrev aaR:=@PyProof.Rows.KeyOrd.kle_refl
abbrev aaS:=@List.dropLast_concat_getLast
abbrev aaT:=@Array.length_toList
abbrev aaU:=@Bool.not_true
abbrev aaV:=@PySem.F.slot_tuple_iterator_next
abbrev aaW:=@PySem.wpAny_setField_rec
abbrev aaX:=@PySem.F.excBase_ValueError
abbrev aaY:=@List.nodup_nil
abbrev aaZ:=@Option.isSome_none
abbrev aa0:=@Array.getElem?_eq_getElem
abbrev aa1:=@PySem.wpAny_passesOwn
abbrev aa2:=@List.nil_append
abbrev aa3:=@Option.map_some
abbrev aa4:=@PySem.Calls.spliced_nil
abbrev aa5:=@List.ext_getElem?
abbrev aa6:=@Nat.lt_or_ge
abbrev aa7:=@PySem.Paired.length
abbrev aa8:=@PySem.AutoSeq1.wpAny_loadPart'
abbrev aa9:=@PySem.plainObj_wpAny_Assign_Attribute
abbrev aa_:=@List.filterMap_cons
abbrev aba:=@List.map_eq_nil_iff
abbrev abb:=@List.getElem?_replicate
abbrev abd:=@List.cons_append
abbrev abe:=@PySem.wpAny_getItem_str_slice
abbrev abf:=@List.length_eq_zero_iff
abbrev abg:=@Nat.log2_le_self
abbrev abh:=@PySem.sizeLine_eq
abbrev abi:=@List.take_append_of_le_length
abbrev abj:=@PySem.wpAny_pyIter_tuple
abbrev abk:=@PySem.Calls.callWith_builtin
abbrev abl:=@Option.map_eq_some_iff
abbrev abm:=@List.take_of_length_le
abbrev abn:=@Int.natCast_nonneg
abbrev abo:=@List.of_mem_zip
abbrev abp:=@Nat.not_lt_zero
abbrev abq:=@PyProof.Rows.get?_update_seq
abbrev abr:=@PySem.wpAny_standAt
abbrev abt:=@Array.getElem?_toList
abbrev abu:=@PyProof.Rows.KeyOrd.kle_of_klt
abbrev abv:=@Bool.not_eq_true'
abbrev abw:=@PySem.codeAny_mono
abbrev abx:=@List.length_drop
abbrev aby:=@List.map_reverse
abbrev abz:=@Option.isSome_iff_exists
abbrev abA:=@PySem.F.args_tuple_add_2
abbrev abB:=@List.any_cons
abbrev abC:=@Bool.true_and
abbrev abD:=@PySem.wpAny_execs_nil
abbrev abE:=@List.length_set
abbrev abF:=@PySem.tupleKind_room_in1
abbrev abG:=@Nat.not_lt
abbrev abH:=@PySem.SeqAt.EqAt.int_int
abbrev abI:=@PySem.Code.quiet_builtin
abbrev abJ:=@List.getElem?_take
abbrev abK:=@Bool.false_and
abbrev abL:=@Nat.le_of_eq
abbrev abM:=@PySem.wpAny_typeOf
abbrev abN:=@decide_eq_true_eq
abbrev abO:=@Int.pow_succ
abbrev abP:=@List.getElem?_inj
abbrev abQ:=@PySem.call_meets
abbrev abR:=@PySem.wpAny_onRaise
abbrev abS:=@PySem.wpAny_newList
open PySem.W (Frag InstAt LeftO SharedT absHeap any_some callWith_K cellsFrom_some check_slot clsGoodW clsIn codeIn emptyDict findIn findObj_own fnOf handedIn hasDictIn instObj isFn kHook keepIn kia_one kitOne kitx_dict kitx_list kitx_tuple lookIn looks_clsIn looks_findIn looks_mroIn looseW makesIn methodObj mg_of mroIn nsIn nsOkIn openEnds osa_eq plainGet plainGet_of plainOver recOk set_plain stepOk stepT tailIn takerIn topRun typeIn wideGood xlAt)
noncomputable section
open PySem PySem.Spec PyProof.Rows
set_option Elab.async false
set_option linter.all false
set_option maxRecDepth 100000
namespace L2
def cV (s:Stmt):Arguments:=match s with
 |.FunctionDef _ a _ _ _ _ _ _ _ _=>a
 |_=>{ posonlyargs:=[],args:=[],vararg:=none,kwonlyargs:=[],kw_defaults:=[],kwarg:=none,defaults:=[]}
def cC (s:Stmt):List Stmt:=match s with
 |.FunctionDef _ _ b _ _ _ _ _ _ _=>b
 |_=>[]
def aB (s:Stmt):Scope:=match s with
 |.FunctionDef _ _ _ _ _ _ a _ _ _=>a
 |_=>{ kind:=.function,names:=[],isGenerator:=false,isCoroutine:=false}
def bmV:List Value:=[.type "ValueError",.type "Exception",.type "BaseException",.type "object"]
end L2
namespace M
open L2
def acs (ns:List Str) (f:Str->Nat) (m:Nat):List (List Str):=(List.range m).map fun k=>ns.filter fun n=>decide (f n=k)
def top (i:Nat):Stmt:=PySem.Challenge.pw_stationrow_k42_fewest_stands.main.body.getD i (.Pass ⟨0,0,0,0⟩)
def Li:Stmt->List Stmt
 |.ClassDef _ _ _ a _ _ _ _ _ _ _=>a
 |_=>[]
def ab8 (i j:Nat):Stmt:=(Li (top i)).getD j (.Pass ⟨0,0,0,0⟩)
def qv:Program:={ PySem.Challenge.pw_stationrow_k42_fewest_stands with main:={ PySem.Challenge.pw_stationrow_k42_fewest_stands.main with body:=([0,2,3,4,5,6,7,8,9,10,12,13,14,16,18,20,22,23,25,26,27,28,29,31,32,34,35,36,37,39,40,41,42,43,44,45,46,47,48,49,50,51,52,53,54,55,56,57,58,59]:List Nat).map top}}
def en (P:Params) (n:Str) (t:Nat) (v:Value):DictEntry:=⟨PyData.keyHash P n,.str n t,v⟩
def cO (n:Str) (c:Nat) (b:Bool) (a j l k:Nat):Obj:=⟨.type "code",none,.fields #[.str n a,.str n (a+1),.str "/claim/cut.py" (a+2),.int l 0,.int k 0,.int 0 0,.int 0 0,.int 3 0,.ref (c - (bif b then 5 else 3)),.bool true,.int 181 0,.ref (c - (bif b then 4 else 2)),.none,bif b then .ref (c - 3) else .none,bif b then .ref (c - 2) else .none,.ref (c - 1),.int j 0,.int l 0,.str "/claim/cut.py" (j+1)],#[]⟩
def fO (i:Nat) (n m:Str) (t c:Nat):Obj:=⟨.type "function",none,.func (fnOf n n (cV (top i)) (cC (top i)) (aB (top i)) .none .none .none (.str m t) none (.ref c) .none),#[]⟩
abbrev mlw:Str := "law_stationrow_k42_fewest_stands"
def fx (i:Nat) (n m:Str) (t c:Nat) (b:Bool) (a j l k:Nat):(Params->DictEntry) × Frag:=(fun P=>en P n (j+2) (.ref (c+1)),[(c,cO n c b a j l k),(c+1,fO i n m t c)])
def TB:List ((Params->DictEntry) × Frag):=[fx 0 "_wall" "__main__" 164 20 true 187 191 1 1,
 fx 2 "links_of" "stationrow.chains" 194 27 true 196 204 5 1,
 fx 3 "reached" "stationrow.chains" 194 34 true 207 216 12 2,
 fx 4 "led_to" "stationrow.chains" 194 41 true 219 224 22 2,
 fx 5 "led_from" "stationrow.chains" 194 46 false 227 230 24 2,
 fx 6 "in_both" "stationrow.chains" 194 51 false 233 236 26 3,
 fx 7 "in_first_alone" "stationrow.chains" 194 56 false 239 242 28 3,
 fx 8 "group_of" "stationrow.chains" 194 63 true 245 250 30 2,
 fx 9 "groups_of" "stationrow.chains" 194 70 true 253 260 32 1,
 fx 10 "ahead_of" "stationrow.chains" 194 77 true 263 268 39 2,
 (fun P=>en P "RowError" 290 (.ref 88),[]),
 (fun P=>en P "TooLong" 317 (.ref 108),[]),
 (fun P=>en P "NoRoom" 333 (.ref 120),[]),
 fx 16 "may_be_done" "stationrow.checks" 334 128 true 336 341 52 2,
 fx 18 "names_of" "stationrow.texts" 344 133 false 346 349 55 1,
 fx 20 "load_of" "stationrow.dealings" 352 138 false 354 357 58 2,
 fx 22 "number_of" "stationrow.sets" 360 145 true 362 370 61 2,
 fx 23 "tasks_of" "stationrow.sets" 360 152 true 373 381 69 2,
 fx 25 "apart_from" "stationrow.fillings" 384 157 false 386 389 78 2,
 fx 26 "rules_of" "stationrow.fillings" 384 164 true 392 404 80 1,
 fx 27 "has_all" "stationrow.fillings" 384 171 true 407 412 89 2,
 fx 28 "is_filling_number" "stationrow.fillings" 384 178 true 415 430 91 5,
 fx 29 "greatest_numbers" "stationrow.fillings" 384 183 false 433 436 103 1,
 fx 31 "parts_of" "stationrow.walks" 439 188 false 441 444 110 1,
 (fun P=>en P "Walk" 508 (.ref 230),[]),
 fx 34 "ways_behind" "stationrow.dealt" 509 240 true 511 521 142 3,
 fx 35 "dealing_to" "stationrow.dealt" 509 247 true 524 533 148 3,
 fx 36 "check_groups" "stationrow.dealt" 509 254 true 536 543 156 2,
 fx 37 "fewest_stands" "stationrow.dealt" 509 261 true 546 553 161 2,
 fx 39 "_law_cell" mlw 556 268 true 558 568 169 2,
 fx 40 "_law_word" mlw 556 275 true 571 579 181 1,
 fx 41 "_law_unlike" mlw 556 282 true 582 589 189 1,
 fx 42 "_law_pool" mlw 556 289 true 592 598 197 1,
 fx 43 "_law_task" mlw 556 296 true 601 617 203 4,
 fx 44 "_law_links" mlw 556 301 false 620 623 222 3,
 fx 45 "_law_works" mlw 556 306 false 626 629 247 3,
 fx 46 "_law_loads" mlw 556 313 true 632 640 264 2,
 fx 47 "_law_beat" mlw 556 318 false 643 646 269 3,
 fx 48 "_law_drawn" mlw 556 325 true 649 657 276 3,
 fx 49 "_law_moved" mlw 556 332 true 660 667 279 2,
 fx 50 "_law_whole" mlw 556 339 true 670 674 287 1,
 fx 51 "_law_right" mlw 556 344 false 677 680 289 3,
 fx 52 "_law_is_dealing" mlw 556 349 false 683 686 310 4,
 fx 53 "_law_may" mlw 556 356 true 689 709 320 4,
 fx 54 "_law_some" mlw 556 363 true 712 720 341 4,
 fx 55 "_law_chained" mlw 556 368 false 723 726 348 1,
 fx 56 "_law_groups" mlw 556 373 false 729 732 370 1,
 fx 57 "_law_due" mlw 556 378 false 735 738 379 2,
 fx 58 "_law_told" mlw 556 385 true 741 748 391 2,
 fx 59 "law" mlw 556 392 true 751 763 400 1]
def wcO (C N t u:Nat):Obj:=⟨.type "type",none,.cls { name:="Walk",bases:=[.type "object"],mro:=[.ref C,.type "object"],ns:=N,qualname:="Walk"},#[none,none,some (.str "Walk" t),some (.str "Walk" u),some (.builtin "object.__new__"),some (.bool true)]⟩
def nsO (P:Params) (a:List (Str × Nat × Value)) (k:Nat):Obj:=⟨.type "dict",none,.dict (a.map fun e=>en P e.1 e.2.1 e.2.2).toArray k,#[]⟩
def xcO (C N:Nat) (n:Str) (c mro b:List Value) (a t u:Nat):Obj:=⟨.type "type",none,.cls { name:=n,bases:=c,mro:=.ref C::mro,ns:=N,qualname:=n,subclasses:=b},#[some (.ref a),none,some (.str n t),some (.str n u),some (.builtin "ValueError.__new__"),some (.bool true)]⟩
def cQ (n q:Str) (c:Nat) (b:Bool) (a j l k:Nat):Obj:=⟨.type "code",none,.fields #[.str n a,.str q (a+1),.str "/claim/cut.py" (a+2),.int l 0,.int k 0,.int 0 0,.int 0 0,.int 3 0,.ref (c - (bif b then 5 else 3)),.bool true,.int 181 0,.ref (c - (bif b then 4 else 2)),.none,bif b then .ref (c - 3) else .none,bif b then .ref (c - 2) else .none,.ref (c - 1),.int j 0,.int l 0,.str "/claim/cut.py" (j+1)],#[]⟩
def fQ (st:Stmt) (n q m:Str) (t c:Nat):Obj:=⟨.type "function",none,.func (fnOf n q (cV st) (cC st) (aB st) .none .none .none (.str m t) none (.ref c) .none),#[]⟩
def KC (P:Params):Frag:=[(87,nsO P [("__module__",280,.str "stationrow.errors" 271),("__firstlineno__",284,.int 42 283),("__static_attributes__",285,.ref 86),("__weakref__",287,.ref 89),("__doc__",288,.none)] 3),
 (88,xcO 88 87 "RowError" [.type "ValueError"] bmV [.ref 108,.ref 120] 79 273 281),
 (104,cQ "__init__" "TooLong.__init__" 104 true 303 309 46 3),
 (105,fQ (ab8 13 0) "__init__" "TooLong.__init__" "stationrow.errors" 271 104),
 (107,nsO P [("__module__",298,.str "stationrow.errors" 271),("__firstlineno__",302,.int 44 301),("__init__",311,.ref 105),("__static_attributes__",314,.ref 106),("__doc__",315,.none)] 2),
 (108,xcO 108 107 "TooLong" [.ref 88] [.ref 88,.type "ValueError",.type "Exception",.type "BaseException",.type "object"] [] 92 291 299),
 (119,nsO P [("__module__",325,.str "stationrow.errors" 271),("__firstlineno__",329,.int 49 328),("__static_attributes__",330,.ref 118),("__doc__",331,.none)] 2),
 (120,xcO 120 119 "NoRoom" [.ref 88] [.ref 88,.type "ValueError",.type "Exception",.type "BaseException",.type "object"] [] 111 318 326),
 (202,cQ "__init__" "Walk.__init__" 202 true 459 465 120 3),
 (203,fQ (ab8 32 0) "__init__" "Walk.__init__" "stationrow.walks" 439 202),
 (207,cQ "fillings_at" "Walk.fillings_at" 207 false 468 471 126 3),
 (208,fQ (ab8 32 1) "fillings_at" "Walk.fillings_at" "stationrow.walks" 439 207),
 (214,cQ "greatest_at" "Walk.greatest_at" 214 true 474 480 133 3),
 (215,fQ (ab8 32 2) "greatest_at" "Walk.greatest_at" "stationrow.walks" 439 214),
 (226,cQ "dealing_of" "Walk.dealing_of" 226 false 491 494 139 2),
 (227,fQ (ab8 32 4) "dealing_of" "Walk.dealing_of" "stationrow.walks" 439 226),
 (229,nsO P [("__module__",454,.str "stationrow.walks" 439),("__firstlineno__",458,.int 118 457),("__init__",467,.ref 203),("fillings_at",473,.ref 208),("greatest_at",482,.ref 215),("load_at",490,.ref 222),("dealing_of",496,.ref 227),("__static_attributes__",501,.ref 228),("__dict__",503,.ref 231),("__weakref__",505,.ref 232),("__doc__",506,.none)] 4),
 (230,wcO 230 229 447 455)]
def KK (P:Params):Frag:=(3,⟨.type "dict",none,.dict ([en P "__name__" 165 (.str mlw 556),
 en P "__doc__" 166 .none,
 en P "__package__" 167 .none,
 en P "__loader__" 168 (.builtin "__main__.__loader__#opaque"),
 en P "__spec__" 169 .none,
 en P "__annotations__" 170 (.ref 6),
 en P "__builtins__" 171 (.ref 4),
 en P "__file__" 173 (.str "/claim/cut.py" 172),
 en P "__cached__" 174 .none]++TB.map fun r=>r.1 P).toArray 59,#[]⟩)::(TB.map fun r=>r.2).flatten++KC P
def HK:PySem.W.Hook:=kHook KK [3,20,21,27,28,34,35,41,42,46,47,51,52,56,57,63,64,70,71,77,78,128,129,133,134,138,139,145,146,152,153,157,158,164,165,171,172,178,179,183,184,188,189,240,241,247,248,254,255,261,262,268,269,275,276,282,283,289,290,296,297,301,302,306,307,313,314,318,319,325,326,332,333,339,340,344,345,349,350,356,357,363,364,368,369,373,374,378,379,385,386,392,393,87,88,104,105,107,108,119,120,202,203,207,208,214,215,226,227,229,230] (fun _=>by kernel_rfl)
def zqR (tb:String->Option Builtin) (p:Program) (w:World) (n:Nat) (a:Option Value):Nat->W.SharedT->Thread->Option W.SharedT
 |0,_,_=>none
 |m+1,s,t=>match W.through t with
  |true=>some s
  |false=>match W.stepOk n a t with
   |false=>none
   |true=>match W.stepT (denote tb) p w s t with
    |some (s',t')=>zqR tb p w n a m s' t'
    |none=>none
def zqT {tb:String->Option Builtin}{p:Program}{w:World}{k:Nat}{a:Option Value}:∀{n:Nat}{s s':W.SharedT}{t:Thread},zqR tb p w k a n s t=some s'->W.topRun tb p w k a n s.abs t=some s'.abs
 |0,_,_,_,h=>by cases h
 |n+1,s,s',t,h=>by
  unfold zqR at h
  unfold W.topRun
  cases he:W.through t with
  |true=>rw[he] at h;cases h;rfl
  |false=>
   rw[he] at h
   cases hk:W.stepOk k a t with
   |false=>rw[hk] at h;cases h
   |true=>
    rw[hk] at h
    cases hs:W.stepT (denote tb) p w s t with
    |none=>rw[hs] at h;cases h
    |some r=>obtain⟨s₂,t₂⟩:=r;rw[hs] at h;rw[W.stepT_spec hs];exact zqT h
def zqb:List Obj->W.BT->Nat->Option W.BT
 |[],t,_=>some t
 |o::l,t,n=>match ((t.ins n o).get n).isSome with
  |true=>zqb l (t.ins n o) (n+1)
  |false=>none
def zqc {f:Life}:∀{l:List Obj}{t t':W.BT}{n:Nat},zqb l t n=some t'->(W.absHeap t' (n+l.length) f).objs.toList=(W.absHeap t n f).objs.toList++l
 |[],_,_,_,h=>by cases h;simp
 |o::l,t,t',n,h=>by
  unfold zqb at h
  cases e:((t.ins n o).get n).isSome with
  |false=>rw[e] at h;cases h
  |true=>
   rw[e] at h
   have k:=zqc (f:=f) h
   rw[W.absHeap_ins e] at k
   rw[List.length_cons,show n+(l.length+1)=n+1+l.length by omega,k]
   simp [Heap.push]
def zqd {s:Shared}{t:W.BT}(h:zqb s.heap.objs.toList .nil 0=some t):(⟨t,s.heap.objs.size,s.heap.life,s.gens,s.drawn,s.toks,s.os⟩:W.SharedT).abs=s:=by
 obtain⟨⟨o,f⟩,g,d,k,z⟩:=s
 have e:=zqc (f:=f) h
 have q:(W.absHeap t o.size f).objs=o:=Array.toList_inj.mp (by rw[show o.size=0+o.toList.length by simp];exact e.trans (by simp [W.absHeap,W.BT.list]))
 show Shared.mk ⟨(W.absHeap t o.size f).objs,f⟩ g d k z=_
 rw[q]
def zqE (p:Program) (w:World) (N:Nat):Option W.SharedT:=(W.fencedOpening treeTable p w N).bind fun s=>match s.heap.isNs mainGlobals&&s.gens.size==0 with
 |true=>(zqb s.heap.objs.toList .nil 0).bind fun t=>(zqR treeTable p w s.heap.objs.size (s.heap.nsMap mainGlobals "__annotations__") N ⟨t,s.heap.objs.size,s.heap.life,s.gens,s.drawn,s.toks,s.os⟩ (W.topStub p)).bind fun z=>match W.staticsOk (importedModules p.main.body) s.heap z.abs.heap&&W.namesBound p z.abs.heap&&W.gensDone z.abs&&W.laidKept s.heap z.abs.heap with
  |true=>some z
  |false=>none
 |false=>none
def zqF {p:Program}{w:World}{N:Nat}{z:W.SharedT}(h:zqE p w N=some z):W.openEnds treeTable p w N=some z.abs:=by
 obtain⟨s,a,h⟩:=Option.bind_eq_some_iff.mp h
 refine Option.bind_eq_some_iff.mpr ⟨s,a,?_⟩
 unfold W.topFrom
 split at h
 ·rename_i q
  obtain⟨t,b,h⟩:=Option.bind_eq_some_iff.mp h
  obtain⟨x,c,h⟩:=Option.bind_eq_some_iff.mp h
  have c:=zqT c
  rw[zqd b] at c
  rw[q]
  refine Option.bind_eq_some_iff.mpr ⟨x.abs,c,?_⟩
  split at h
  ·rename_i y
   cases h
   rw[y]
  ·cases h
 ·cases h
def zqL {p:Program}{w:World}{N:Nat}{α:Type}{f:Shared->α}{a:α}(h:(zqE p w N).map (fun z=>f z.abs)=some a):(W.openEnds treeTable p w N).map f=some a:=by
 obtain⟨s,a,h⟩:=Option.map_eq_some_iff.mp h
 rw[zqF a]
 exact congrArg some h
def zqO (w:World):=W.openEnds treeTable (PySem.W.OpenLaw.row PySem.Challenge.rw_stationrow_k42_fewest_stands).prog w 5124
abbrev zqX (s:Shared):Bool:=W.xlAt qv [] s&&W.recOk (W.RowW.records (PySem.W.OpenLaw.row PySem.Challenge.rw_stationrow_k42_fewest_stands).toRowW) s
def zqS (s:Shared):=W.openSeen qv [] (importedModules (PySem.W.OpenLaw.row PySem.Challenge.rw_stationrow_k42_fewest_stands).prog.main.body) (fun s=>zqX s) true s
def zqM {b h p j k l e:Type}{o:Option b}{f:b->h × p × j × k × l}{g:b->e}{x:h}{y:p}{z:j}{u:k}{v:l}{d:e}(i:o.map (fun s=>(f s).1)=some x) (m:o.map (fun s=>(f s).2.1)=some y) (n:o.map (fun s=>(f s).2.2.1)=some z) (q:o.map (fun s=>(f s).2.2.2.1)=some u) (r:o.map (fun s=>(f s).2.2.2.2)=some v) (c:o.map g=some d):o.map (fun s=>(f s,g s))=some ((x,y,z,u,v),d):=by
 cases o with
 |none=>cases i
 |some s=>have t:=@Option.some.inj; exact congrArg some (Prod.ext (Prod.ext (t i) (Prod.ext (t m) (Prod.ext (t n) (Prod.ext (t q) (t r))))) (t c))
theorem zq1 (w:World):(zqO w).map (fun s=>(zqS s).1)=some (expectedOf qv):=zqL (by kernel_rfl)
theorem zq2 (w:World):(zqO w).map (fun s=>(zqS s).2.1)=some bltViewBooted:=zqL (by kernel_rfl)
theorem zq4 (w:World):(zqO w).map (fun s=>(zqS s).2.2.1)=some true:=zqL (by kernel_rfl)
theorem zq5 (w:World):(zqO w).map (fun s=>(zqS s).2.2.2.1)=some true:=zqL (by kernel_rfl)
theorem zq6 (w:World):(zqO w).map (fun s=>(zqS s).2.2.2.2)=some (pinGoodD (drecsOf qv),plainGoodE qv (W.looseW qv []),plainGoodD qv [],W.wideGood qv,W.clsGoodW qv []):=zqL (by kernel_rfl)
theorem zq3 (w:World):(zqO w).map (W.Hook.obs HK)=some (W.Hook.val HK w):=zqL (by kernel_rfl)
theorem left:W.LeftO (PySem.W.OpenLaw.row PySem.Challenge.rw_stationrow_k42_fewest_stands).prog qv [] (fun s=>zqX s) (W.Hook.obs HK) (W.Hook.val HK) 5124:=fun w=>zqM (o:=zqO w) (f:=zqS) (g:=W.Hook.obs HK) (zq1 w) (zq2 w) (zq4 w) (zq5 w) (zq6 w) (zq3 w)
end M
namespace L2
abbrev Key:=Sum Int Str
def oJ:Key->Value->Bool
 |.inl k,v=>Value.isInt k v
 |.inr x,v=>Value.isStrOf x v
def XQ (w:World):Key->Int
 |.inl k=>hashInt k
 |.inr x=>hashStr w x
def bL:∀{k:Key}{v:Value},oJ k v=true->(∃i t,k=Sum.inl i/\v=Value.int i t)\/(∃x t,k=Sum.inr x/\v=Value.str x t)
 |.inl i,v,h=>by
  obtain⟨t,e⟩:=Value.isInt_shape (k:=i) (v:=v) h
  exact .inl ⟨i,t,rfl,e⟩
 |.inr x,v,h=>by
  obtain⟨t,e⟩:=Value.isStrOf_shape (x:=x) (v:=v) h
  exact .inr ⟨x,t,rfl,e⟩
def zy (i:Int) (t:Tok):oJ (.inl i) (.int i t)=true:=by simp [oJ,Value.isInt]
def zz (x:Str) (t:Tok):oJ (.inr x) (.str x t)=true:=by simp [oJ,Value.isStrOf]
def Od (a b:Int):decide ((Sum.inl a:Key)=Sum.inl b)=(a==b):=by
 by_cases e:a=b
 ·subst e;simp
 have h:¬(Sum.inl a:Key)=Sum.inl b:=fun q=>e (Sum.inl.inj q);rw[I_ h];exact (Zy.mpr e).symm
def Oe (a b:Str):decide ((Sum.inr a:Key)=Sum.inr b)=decide (a=b):=by
 by_cases e:a=b
 ·subst e;simp
 have h:¬(Sum.inr a:Key)=Sum.inr b:=fun q=>e (Sum.inr.inj q);rw[I_ h,I_ e]
def Og (a:Int) (b:Str):decide ((Sum.inl a:Key)=Sum.inr b)=false:=I_ (fun q=>nomatch q)
def Oh (a:Str) (b:Int):decide ((Sum.inr a:Key)=Sum.inl b)=false:=I_ (fun q=>nomatch q)
def bI (prog:Program) (w:World):PySem.KeyKind prog w Key where
 is:=oJ
 hash:=XQ w
 inj:=fun v a b g d=>by
  rcases bL g with ⟨i,t,rfl,rfl⟩ | ⟨x,t,rfl,rfl⟩
  ·
   rcases bL d with ⟨j,u,rfl,e⟩ | ⟨y,u,rfl,e⟩
   ·
    injection e with e1 _;rw[e1]
   ·
    exact nomatch e
  ·
   rcases bL d with ⟨j,u,rfl,e⟩ | ⟨y,u,rfl,e⟩
   ·
    exact nomatch e
   ·
    injection e with e1 _;rw[e1]
 byValue:=fun k v h=>by
  rcases bL h with ⟨i,t,rfl,rfl⟩ | ⟨x,t,rfl,rfl⟩ <;> rfl
 pyHash:=fun c h=>by
  rcases bL c with ⟨i,t,rfl,rfl⟩ | ⟨x,t,rfl,rfl⟩
  ·
   exact wpAny_pyHash_int h
  ·
   exact wpAny_pyHash_str h
 eqBool:=fun f c h=>by
  rcases bL f with ⟨i,t,rfl,rfl⟩ | ⟨x,t,rfl,rfl⟩
  ·
   rcases bL c with ⟨j,u,rfl,rfl⟩ | ⟨y,u,rfl,rfl⟩
   ·
    rw[Od] at h;exact wpAny_eqBool_int h
   ·
    rw[Og] at h;exact SeqAt.EqAt.int_str i t y u _ _ _ _ h
  ·
   rcases bL c with ⟨j,u,rfl,rfl⟩ | ⟨y,u,rfl,rfl⟩
   ·
    rw[Oh] at h;exact SeqAt.EqAt.str_int x t j u _ _ _ _ h
   ·
    rw[Oe] at h;exact wpAny_eqBool_str h
 «strs»:=fun k x t v h=>by
  rcases bL h with ⟨i,u,rfl,e⟩ | ⟨y,u,rfl,e⟩
  ·
   exact nomatch e
  ·
   injection e with e1 _
   subst e1
   cases v <;> rfl
def rF (prog:Program) (w:World) (i:Int) (t:Tok):(bI prog w).is (.inl i) (.int i t)=true:=zy i t
def rG (prog:Program) (w:World) (x:Str) (t:Tok):(bI prog w).is (.inr x) (.str x t)=true:=zz x t
inductive V where
 |non | bl (b:Bool) | int (i:Int) | str (x:Str) | byt (b:Array UInt8) | flt (b:UInt64) | ref (a:Addr) | ty (n:String)
 deriving DecidableEq
def RelV:V->Value->Prop
 |.non,u=>u=Value.none
 |.bl b,u=>u=Value.bool b
 |.int i,u=>∃t,u=Value.int i t
 |.str x,u=>∃t,u=Value.str x t
 |.byt b,u=>∃t,u=Value.bytes b t
 |.flt b,u=>∃t,u=Value.float b t
 |.ref a,u=>u=Value.ref a
 |.ty n,u=>u=Value.type n
abbrev Vals:List V->List Value->Prop:=Paired RelV
def Vals.length (r:Vals xs us):xs.length=us.length:=aa7 r
def Vals.get:∀{xs:List V}{us:List Value}{i:Nat}{x:V},Vals xs us->xs[i]?=some x->∃u,us[i]?=some u/\RelV x u
 |_,_,_,_,.nil,e=>by simp at e
 |_,_,0,_,.cons r _,e=>by simp at e;subst e;exact⟨_,rfl,r⟩
 |_,_,i+1,x,.cons _ t,e=>by
  obtain⟨u,a,b⟩:=Vals.get (i:=i) (x:=x) t (by simpa using e)
  exact⟨u,by simpa using a,b⟩
def Vals.set (r:RelV x u):∀{xs:List V}{us:List Value}(i:Nat),Vals xs us->Vals (xs.set i x) (us.set i u)
 |_,_,_,.nil=>.nil
 |_,_,0,.cons _ t=>.cons r t
 |_,_,i+1,.cons q t=>.cons q (Vals.set r i t)
def Vals.append:∀{xs a:List V}{us ws:List Value},Vals xs us->Vals a ws->Vals (xs++a) (us++ws)
 |_,_,_,_,.nil,s=>s
 |_,_,_,_,.cons r t,s=>.cons r (Vals.append t s)
def Vals.take:∀{xs:List V}{us:List Value}(n:Nat),Vals xs us->Vals (xs.take n) (us.take n)
 |_,_,0,_=>.nil
 |_,_,_+1,.nil=>.nil
 |_,_,n+1,.cons r t=>.cons r (Vals.take n t)
def Vals.drop:∀{xs:List V}{us:List Value}(n:Nat),Vals xs us->Vals (xs.drop n) (us.drop n)
 |_,_,0,r=>r
 |_,_,_+1,.nil=>.nil
 |_,_,n+1,.cons _ t=>Vals.drop n t
def acl:Option V->Option Value->Prop
 |some v,some u=>RelV v u
 |none,none=>True
 |_,_=>False
def KV {a:Type}:List (a × V)->List (a × Value)->Prop:=Paired fun (p:a × V) (q:a × Value)=>p.1=q.1/\RelV p.2 q.2
def kV:Key->V
 |.inl i=>.int i
 |.inr x=>.str x
inductive HO where
 |lst (xs:List V)
 |tup (xs:List V)
 |dK (kvs:List (Key × V)) | dT (kvs:List (List Key × V))
 |set (S:Int->Bool) (n:Nat)
 |ins (C dx:Addr) (fs:List (Str × V))
 |own (x:Addr)
 |xd (fs:List (Str × V))
 |met (f x:Addr)
 |rng (lo hi:Int)
 |frz (o:Obj) (u:HO)
 |tbl (ps:Array Value)
 |ext (φ:Heap->Prop)
abbrev Hp:=Addr->Option HO
def upd (H:Hp) (a:Addr) (o:HO):Hp:=fun b=>if b=a then some o else H b
def aY:upd H a o a=some o:=by unfold upd;rw[if_pos rfl]
def aK (h:b≠a):upd H a o b=H b:=by unfold upd;rw[if_neg h]
def Hv:upd (upd H a o) a u=upd H a u:=by
 funext b;unfold upd;split <;> rfl
def TJ {H:Hp} (h:H a=some o) (h':H b=some u) (d:o≠u):a≠b:=by
 intro e;subst e;rw[h] at h';exact d (F_ h')
def cG {H:Hp} (h:H a=some o) (h':H b=none):a≠b:=by
 intro e;subst e;rw[h] at h';cases h'
def acR (h:Heap) (a:Addr) (b:Array Value):Prop:=∃o,h.get? a=some o/\o.cls=.type "tuple"/\∃n,o.data=.seq b n/\o.dict=none
def acR.is (x:acR h a b):IsTup h a b:=by
 obtain⟨o,d,e,n,c,_⟩:=x;exact⟨o,d,e,n,c⟩
def acR.new (h:Heap) (a:Array Value):acR (h.push { cls:=.type "tuple",data:=.seq a}) h.objs.size a:=⟨_,t_ _ rfl,rfl,_,rfl,rfl⟩
section
variable (P:Program)(w:World)
def zc (H:Hp) (h:Heap) (a:Addr):HO->Prop
 |.lst xs=>xs.length<=sizeLine/\∃(b:List Value) (n:Nat),Vals xs b/\h.get? a=some { cls:=.type "list",data:=.seq b.toArray n}
 |.tup xs=>xs.length<=sizeLine/\∃b:List Value,Vals xs b/\acR h a b.toArray
 |.dK kvs=>kvs.length<=sizeLine/\(a==sysModules)=false/\∃vs,KV kvs vs/\h.DictOf (bI P w) a vs
 |.dT kvs=>kvs.length<=sizeLine/\(a==sysModules)=false/\∃xs:List (List Key × Addr × Value),
   Paired (fun (p:List Key × V) (q:List Key × Addr × Value)=>p.1=q.1/\H q.2.1=some (.tup (p.1.map kV))/\RelV p.2 q.2.2) kvs xs /\
   ∃o e ep,h.get? a=some o/\o.ExactDict/\o.data=.dict e ep/\e.toList=xs.map (entryOfKey (tupleKind (bI P w)))/\(xs.map (·.1)).Nodup
 |.set S n=>h.SetOf (intKind P w) a S n
 |.ins C c fs=>H c=some (.own a)/\fs.length<=1000/\c≠a/\h.get? a=some (instObj C c) /\
   ∃mA,h.Ns1 c mA/\(∀f,acl (fs.lookup f) (mA f))/\PySem.Within mA (fs.map (·.1))
 |.own _=>∃o,h.get? a=some o
 |.xd fs=>∃mA,h.Ns1 a mA/\∀f,acl (fs.lookup f) (mA f)
 |.rng i j=>∃t u v,h.get? a=some { cls:=.type "range",data:=.fields #[.int i t,.int j u,.int 1 v]}
 |.frz o u=>h.get? a=some o/\zc H h a u
 |.tbl ps=>h.get? a=some { cls:=.none,data:=.fields ps}
 |.met f x=>h.get? a=some (methodObj (.ref f) (.ref x))
 |.ext φ=>φ h/\(∃o,h.get? a=some o)/\∀g d:Heap,φ g->(∀o,g.get? a=some o->d.get? a=some o)->φ d
def HOk (H:Hp) (h:Heap):Prop:=∀a o,H a=some o->zc P w H h a o
end
section
variable {P:Program}{w:World}{a:Addr}
def zc.lt (x:zc P w H h a o):a<h.objs.size:=by
 cases o with
 |lst xs=>obtain⟨_,_,_,_,e⟩:=x;exact o_ e
 |tup xs=>obtain⟨_,_,_,p⟩:=x;exact p.is.lt
 |dK kvs=>obtain⟨_,_,_,_,o,_,_,e,_⟩:=x;exact o_ e
 |dT kvs=>obtain⟨_,_,_,_,o,_,_,e,_⟩:=x;exact o_ e
 |set S n=>obtain⟨o,_,_,_,e,_⟩:=x;exact o_ e
 |ins C g fs=>obtain⟨_,_,_,e,_⟩:=x;exact o_ e
 |own y=>obtain⟨_,e⟩:=x;exact o_ e
 |xd fs=>obtain⟨_,⟨_,_,_,e,_⟩,_⟩:=x;exact o_ e
 |rng d b=>obtain⟨_,_,_,e⟩:=x;exact o_ e
 |frz c u=>obtain⟨e,_⟩:=x;exact o_ e
 |tbl ps=>exact o_ (show h.get? a=some _ from x)
 |met f y=>exact o_ (show h.get? a=some _ from x)
 |ext φ=>obtain⟨_,⟨_,e⟩,_⟩:=x;exact o_ e
def Paired.mapP:∀{l₁:List d}{l₂:List c},Paired F l₁ l₂->(∀a b,F a b->G a b)->Paired G l₁ l₂
 |_,_,.nil,_=>.nil
 |_,_,.cons r t,f=>.cons (f _ _ r) (Paired.mapP t f)
def zc.stay (x:zc P w H h a o) (k:∀b u,(b=a\/H b=some (.own a))->h.get? b=some u->h'.get? b=some u)
  (m:∀b,H b=some (.own a)->H' b=some (.own a)) (A:∀b xs,H b=some (.tup xs)->H' b=some (.tup xs)):zc P w H' h' a o:=by
 induction o with
 |lst xs=>obtain⟨z,j,n,r,e⟩:=x;exact⟨z,j,n,r,k _ _ (.inl rfl) e⟩
 |tup xs=>obtain⟨z,j,r,g,e,c⟩:=x;exact⟨z,j,r,g,k _ _ (.inl rfl) e,c⟩
 |dK kvs=>obtain⟨z,y,vs,r,g,i,ep,e,c⟩:=x;exact⟨z,y,vs,r,g,i,ep,k _ _ (.inl rfl) e,c⟩
 |dT kvs=>obtain⟨z,y,xs,r,g,i,ep,e,c⟩:=x;exact⟨z,y,xs,Paired.mapP r fun p q z=>⟨z.1,A _ _ z.2.1,z.2.2⟩,g,i,ep,k _ _ (.inl rfl) e,c⟩
 |set S n=>obtain⟨g,i,ep,t,e,c⟩:=x;exact⟨g,i,ep,t,k _ _ (.inl rfl) e,c⟩
 |ins C E fs=>obtain⟨d,z,s,e,mA,⟨od,i,ep,l,c⟩,r⟩:=x;exact⟨m _ d,z,s,k _ _ (.inl rfl) e,mA,⟨od,i,ep,k _ _ (.inr d) l,c⟩,r⟩
 |own y=>obtain⟨g,e⟩:=x;exact⟨g,k _ _ (.inl rfl) e⟩
 |xd fs=>obtain⟨mA,⟨od,i,ep,e,c⟩,r⟩:=x;exact⟨mA,⟨od,i,ep,k _ _ (.inl rfl) e,c⟩,r⟩
 |rng D F=>obtain⟨t,u,v,e⟩:=x;exact⟨t,u,v,k _ _ (.inl rfl) e⟩
 |frz g u B=>obtain⟨e,q⟩:=x;exact⟨k _ _ (.inl rfl) e,B q⟩
 |tbl ps =>
  have e:h.get? a=some { cls:=.none,data:=.fields ps}:=x
  show h'.get? a=some { cls:=.none,data:=.fields ps}
  exact k a _ (.inl rfl) e
 |met f y =>
  have e:h.get? a=some (methodObj (.ref f) (.ref y)):=x
  show h'.get? a=some (methodObj (.ref f) (.ref y))
  exact k a _ (.inl rfl) e
 |ext φ=>obtain⟨p,⟨o,e⟩,st⟩:=x;exact⟨st _ _ p fun o q=>k _ _ (.inl rfl) q,⟨o,k _ _ (.inl rfl) e⟩,st⟩
def HOk.lt (x:HOk P w H h) (e:H a=some o):a<h.objs.size:=(x a o e).lt
def HOk.fresh (x:HOk P w H h) (e:h.objs.size<=a):H a=none:=by
 cases q:H a with
 |none=>rfl
 |some u=>exact absurd (M_ (x.lt q) e) (Zr _)
def HOk.kept (x:HOk P w H h) (k:∀b u,h.get? b=some u->h'.get? b=some u):HOk P w H h':=fun a o e =>
 (x a o e).stay (fun b u _ q=>k b u q) (fun _ q=>q) fun _ _ q=>q
def HOk.laid (x:HOk P w H h) (k:∀b u,h.get? b=some u->h'.get? b=some u) (i:h.objs.size<=a) (d:zc P w (upd H a o) h' a o):HOk P w (upd H a o) h':=fun b u e=>by
 have f:=x.fresh i;by_cases g:b=a
 ·subst g;rw[aY] at e;cases e;exact d
 rw[aK g] at e;exact (x b u e).stay (fun c v _ q=>k c v q) (fun c q=>by rw[aK (cG q f)];exact q) fun c xs q=>by rw[aK (cG q f)];exact q
end
def Rd (H:Hp) (a:Addr) (u:HO):Prop:=H a=some u\/∃o,H a=some (.frz o u)
def Rd.ok (r:Rd H a u) (x:HOk P w H h):zc P w H h a u:=by
 rcases r with r | ⟨o,r⟩
 ·exact x a u r
 obtain⟨_,q⟩:=x a _ r;exact q
def Mut:Option HO->Prop
 |some (.lst _)=>True
 |some (.dK _)=>True
 |some (.dT _)=>True
 |some (.set _ _)=>True
 |some (.ins _ _ _)=>True
 |some (.ext _)=>True
 |_=>False
section
variable {P:Program}{w:World}
def HOk.write (p:HOk P w H h) (mu:Mut (H x)) (n:e=x\/H e=some (.own x)) (k:∀b u,b≠e->h.get? b=some u->h'.get? b=some u) (j:∃u,h'.get? e=some u)
  (l:zc P w (upd H x o') h' x o'):HOk P w (upd H x o') h':=fun b u q=>by
 have d:∀c y,H c=some (.own y)->c≠x:=fun c y r z=>by subst z;rw[r] at mu;exact mu
 have f:∀c xs,H c=some (.tup xs)->c≠x:=fun c xs r z=>by subst z;rw[r] at mu;exact mu
 by_cases i:b=x
 ·subst i;rw[aY] at q;cases q;exact l
 rw[aK i] at q;by_cases a:b=e
 ·have m:H b=some (.own x):=by
   rcases n with z | z
   ·exact absurd (a.trans z) i
   rw[a];exact z
  rw[q] at m;cases m;obtain⟨v,o⟩:=j;exact⟨v,by rw[a];exact o⟩
 refine (p b u q).stay (fun c v g r=>k c v ?_ r) (fun c r=>by rw[aK (d c b r)];exact r) fun c xs r=>by rw[aK (f c xs r)];exact r
 rcases g with rfl | g
 ·exact a
 rintro rfl;rcases n with z | z
 ·exact d c b g z
 rw[g] at z;cases z;exact i rfl
end
structure Un (fs ex:List Addr) (H H':Hp) (h h':Heap):Prop where
 keep:∀b o,h.get? b=some o->H b=none->b∉fs->b∉ex->h'.get? b=some o
 slot:∀b o,h.get? b=some o->H b=none->b∈fs->b∉ex->∃sl,h'.get? b=some { o with slots:=sl}
 free:∀b o,h.get? b=some o->H b=none->b∉ex->H' b=none
 there:∀b o,h.get? b=some o->b∉ex->∃o',h'.get? b=some o'
 tups:∀b xs,H b=some (.tup xs)->H' b=some (.tup xs)
 frzs:∀b o u,H b=some (.frz o u)->H' b=some (.frz o u)
 tbls:∀b ps,H b=some (.tbl ps)->∃more,H' b=some (.tbl (ps++more))
section
variable {h h1 h2 h':Heap}{a x e:Addr}
def Un.any (u:Un fs ex H H1 h h1) (q:h.get? b=some ob) (n:H b=none) (a:b∉ex):∃d,h1.get? b=some { ob with slots:=d}:=by
 by_cases c:b∈fs
 ·exact u.slot b ob q n c a
 exact⟨ob.slots,u.keep b ob q n c a⟩
def Un.kept (k:∀b u,h.get? b=some u->h'.get? b=some u):Un fs ex H H h h' :=
 ⟨fun b a q _ _ _=>k b a q,fun b a q _ _ _=>⟨a.slots,k b a q⟩,fun _ _ _ n _=>n,fun b a q _=>⟨a,k b a q⟩,fun _ _ q=>q,fun _ _ _ q=>q,fun _ ps q=>⟨#[],by rw[q];simp⟩⟩
def Un.refl:Un fs ex H H h h:=Un.kept fun _ _ q=>q
def Un.laid (k:∀b u,h.get? b=some u->h'.get? b=some u) (d:h.objs.size<=a) (c:H a=none):Un fs ex H (upd H a o) h h' where
 keep:=fun b u q _ _ _=>k b u q
 slot:=fun b u q _ _ _=>⟨u.slots,k b u q⟩
 free:=fun b u q n _=>by rw[aK (K_ (M_ (o_ q) d))];exact n
 there:=fun b u q _=>⟨u,k b u q⟩
 tups:=fun b xs q=>by rw[aK (cG q c)];exact q
 frzs:=fun b u xs q=>by rw[aK (cG q c)];exact q
 tbls:=fun b ps q=>⟨#[],by rw[aK (cG q c),q];simp⟩
def Un.write (mu:Mut (H x)) (i:e=x\/H e=some (.own x)) (k:∀b u,b≠e->h.get? b=some u->h'.get? b=some u) (c:∃u,h'.get? e=some u):Un fs ex H (upd H x o) h h':=by
 have f:∀b,H b=none->b≠x:=fun b n z=>by subst z;rw[n] at mu;exact mu
 have g:∀b,H b=none->b≠e:=fun b n z=>by
  subst z;rcases i with r | r
  ·exact f b n r
  rw[n] at r;cases r
 have d:∀b u,H b=some u->¬Mut (some u)->b≠x:=fun b u q nm z=>by subst z;rw[q] at mu;exact nm mu
 refine⟨fun b u q n _ _=>k b u (g b n) q,fun b u q n _ _=>⟨u.slots,k b u (g b n) q⟩,fun b u q n _=>by rw[aK (f b n)];exact n,fun b u q _=>?_,
  fun b xs q=>by rw[aK (d b _ q fun z=>z)];exact q,fun b u xs q=>by rw[aK (d b _ q fun z=>z)];exact q,fun b ps q=>⟨#[],by rw[aK (d b _ q fun z=>z),q];simp⟩⟩
 by_cases a:b=e
 ·subst a;exact c
 exact⟨u,k b u a q⟩
end
def trk (h:Heap) (H:Hp):List Addr:=(List.range h.objs.size).filter fun a=>(H a).isSome
def pZ (h:Heap) (H:Hp):Heap:=PySem.W.hideAll h (trk h H)
def zA (h:Heap) (H:Hp):(pZ h H).objs.size=h.objs.size:=PySem.W.hideAll_size _ _
def Bd (e:h.get? b=some o) (n:H b=none):(pZ h H).get? b=some o :=
 PySem.W.hideAll_get _ e fun a=>by
  have q:(H b).isSome=true:=(E_.mp a).2;rw[n] at q;simp at q
def Hw (e:(pZ h H).get? b=some o):h.get? b=some o/\H b=none:=by
 have a:h.get? b=some o:=PySem.W.of_hideAll (trk h H) e;refine⟨a,?_⟩;cases q:H b with
 |none=>rfl
 |some x =>
  have c:b∈trk h H:=E_.mpr ⟨Zf.mpr (o_ a),by simp [q]⟩
  have z:(pZ h H).get? b=none:=PySem.W.hideAll_none (trk h H) c
  rw[z] at e;cases e
def Hy (g h : Heap) (L : Addr) : List (Addr × Obj):=(List.range h.objs.size).filterMap fun a => if a = L \/ (g.get? a).isSome = true then none else (h.get? a).map fun o => (a,o)
def rest (g h:Heap) (L d:Addr):List (Addr × Obj):=(Hy g h L).filter fun p=>decide (p.1≠d)
structure Mod (K:Frag) (mg:Str->Option Value) (base:Heap):Prop where
 kin:K.In base
 glob:base.Ns mainGlobals mg
 blt:∃mb,base.Ns builtinsNs mb/\∀x:Str,x≠"__name__"->mb x=bootBuiltins x
 nolimit:base.NoLimit
structure Cx where
 prog:Program
 w:World
 K:Frag
 mg:Str->Option Value
 base:Heap
 A:Around
 N:List Str
 s₀:Shared
 H₀:Hp
 env:Env
 outer:List Env
 stack:List Env
 ex:List Addr
 fn:Str->Bool
 calm:Bool
 pn:List (Addr × Obj)
 xe:Value->Shared->Prop
def frs (l : List Env) : List Addr:=l.filterMap (·.frame)
abbrev Cx.fs (X:Cx):List Addr:=frs X.outer
def Vis (a:Scope) (x:Str):Prop:=a.names.lookup x=some .local\/a.names.lookup x=some .cell\/a.names.lookup x=some .free
def Loc (a:Scope) (x:Str):Prop:=a.names.lookup x=some .local\/a.names.lookup x=some .cell
def Look (env:Env) (h:Heap) (m:Str->Option Value) (x:Str) (u:Value):Prop :=
 (env.kindOf x=some .local/\m x=some u)\/((env.kindOf x=some .cell\/env.kindOf x=some .free)/\∃c,env.cells.lookup x=some c/\h.IsCell c (some u))
structure Cx.Ok (X:Cx):Prop where
 mod:Mod X.K X.mg X.base
 kind:X.env.scope.kind=.function
 glob:X.env.globals=mainGlobals
 blt:X.env.builtins=builtinsNs
 above:X.s₀.heap.objs.size<=X.env.locals
 inj:∀x y c,X.env.cells.lookup x=some c->X.env.cells.lookup y=some c->x=y
 has:∀x,(X.env.kindOf x=some .cell\/X.env.kindOf x=some .free)->∃c,X.env.cells.lookup x=some c
 cab:∀x c,X.fn x=true->X.env.cells.lookup x=some c->X.s₀.heap.objs.size<=c
 hd:X.calm=true->X.A.handled=none
 frames:X.A.frames=some X.stack
 stk:X.stack=X.outer\/(X.stack=X.env::X.outer/\X.env.frame=some X.env.locals)
 exf:∀b∈X.ex,b≠X.env.locals/\∀x c,X.env.cells.lookup x=some c->c≠b
 bs:∀b o,X.base.get? b=some o->X.s₀.heap.get? b=some o/\X.H₀ b=none
 bsz:X.base.objs.size<=X.s₀.heap.objs.size
 noex:∀b o,X.base.get? b=some o->b∉X.ex
 exfs:∀b∈X.ex,b∉X.fs
 funs:X.s₀.heap.FunFrames X.base X.outer
 frf:∀b∈X.fs,X.H₀ b=none
structure Inv (X:Cx) (pins:List (Addr × Obj)) (Z:List (Option V)) (H:Hp) (s:Shared):Prop where
 ok:X.Ok
 os:s.os=X.s₀.os
 bare:AllBare s.gens
 base:Un X.fs X.ex X.H₀ H X.s₀.heap s.heap
 loc:∃m,s.heap.Ns X.env.locals m/\∀(i:Nat) (x:Str) (v:V),X.N[i]?=some x->Z[i]?=some (some v)->Vis X.env.scope x->∃u,RelV v u/\Look X.env s.heap m x u
 cell:∀x c,X.env.cells.lookup x=some c->∃v,s.heap.IsCell c v
 free:H X.env.locals=none
 freeC:∀x c,X.env.cells.lookup x=some c->H c=none
 pin:∀p∈X.pn++pins,s.heap.get? p.1=some p.2/\H p.1=none/\p.1≠X.env.locals/\p.1∉X.fs/\∀v,p.2.data≠.cell v
 hok:HOk X.prog X.w H s.heap
 len:Z.length=X.N.length
section
variable {X:Cx}{pins:List (Addr × Obj)}{Z:List (Option V)}{H H':Hp}{s:Shared}
def Cx.Ok.nofr (c:X.Ok) (e:X.base.get? b=some o):b∉X.fs:=fun a=>by
 have:=(c.funs.mem a).1;rw[e] at this;cases this
def Inv.bs (I:Inv X pins Z H s):∀b o,X.base.get? b=some o->s.heap.get? b=some o/\H b=none:=fun b o e =>
 ⟨I.base.keep b o (I.ok.bs b o e).1 (I.ok.bs b o e).2 (I.ok.nofr e) (I.ok.noex b o e),I.base.free b o (I.ok.bs b o e).1 (I.ok.bs b o e).2 (I.ok.noex b o e)⟩
def Inv.bk (I:Inv X pins Z H s):∀b o,X.base.get? b=some o->s.heap.get? b=some o:=fun b o e=>(I.bs b o e).1
def Inv.mod (I:Inv X pins Z H s):Mod X.K X.mg X.base:=I.ok.mod
def Inv.kIn (I:Inv X pins Z H s):X.K.In s.heap:=I.ok.mod.kin.keeps I.bk
def Inv.lt (I:Inv X pins Z H s):X.env.locals<s.heap.objs.size:=let ⟨_,hn,_⟩:=I.loc;hn.lt
def Inv.sz (I:Inv X pins Z H s):X.s₀.heap.objs.size<=s.heap.objs.size:=R_ I.ok.above (aar I.lt)
def Inv.nofs (I:Inv X pins Z H s) {a:Addr}(h:s.heap.objs.size<=a):a∉X.fs:=fun c=>by
 obtain⟨_,o,b,_⟩:=I.ok.funs.mem c;exact absurd (M_ (o_ b) (R_ I.sz h)) (Zr _)
def Inv.cne (I:Inv X pins Z H s):∀x c,X.env.cells.lookup x=some c->c≠X.env.locals:=fun x c e z=>by
 obtain⟨v,o,d,f⟩:=I.cell x c e;obtain⟨m,⟨g,h,ep,b,a,_⟩,_⟩:=I.loc;rw[z,b] at d;cases d;rw[a] at f;cases f
def Inv.funs (I:Inv X pins Z H s):s.heap.FunFrames X.base X.outer:=by
 have d:∀(l:List Env),(∀b∈frs l,b∈X.fs)->X.s₀.heap.FunFrames X.base l->s.heap.FunFrames X.base l:=by
  intro l;induction l with
  |nil=>intro _ _;trivial
  |cons env r p =>
  intro g m;obtain ⟨i,⟨L,o,f,k,h,j⟩,n⟩:=m;have a : L ∈ X.fs:=g L (by unfold frs; rw [aa_,f]; exact l_);obtain ⟨q,e⟩:=I.base.slot L o h (I.ok.frf L a) a fun z => I.ok.exfs L z a;exact ⟨i,⟨L,_,f,k,e,j⟩,p (fun b c => g b (by unfold frs; rw [aa_,f]; exact q_ _ c)) n⟩
 exact d X.outer (fun _ c=>c) I.ok.funs
def Inv.stack (I:Inv X pins Z H s):s.heap.FunFrames X.base X.stack:=by
 rcases I.ok.stk with e | ⟨e,b⟩
 ·rw[e];exact I.funs
 rw[e];obtain⟨m,a,_⟩:=I.loc;refine .cons (by rw[I.ok.kind];decide) b a ?_ I.funs;exact Heap.get?_none_of_le (R_ I.ok.bsz I.ok.above)
def Inv.stkSub (I:Inv X pins Z H s):∀b∈frs X.stack,b∈X.env.locals::X.fs:=fun b a=>by
 rcases I.ok.stk with e | ⟨e,c⟩
 ·rw[e] at a;exact q_ _ a
 rw [e] at a;unfold frs at a;rw [aa_,c] at a;exact a
def Inv.stkFree (I:Inv X pins Z H s):∀b∈frs X.stack,H b=none:=fun b a=>by
 rcases x_.mp (I.stkSub b a) with e | a
 ·rw[e];exact I.free
 obtain⟨_,o,c,_⟩:=I.ok.funs.mem a;exact I.base.free b o c (I.ok.frf b a) fun z=>I.ok.exfs b z a
def Inv.step {t':Nat}{d':Drawn}{ch:List Addr} (I:Inv X pins Z H s) (j:∀b∈ch,(b∈X.ex\/X.s₀.heap.objs.size<=b)/\b≠X.env.locals/\(∀x c,X.env.cells.lookup x=some c->c≠b)/\∀p∈X.pn++pins,p.1≠b) (t:∀b o,b≠X.env.locals->b∉X.fs->b∉ch->s.heap.get? b=some o->H b=none->h'.get? b=some o) (B:∀b o,b≠X.env.locals->b∈X.fs->b∉ch->s.heap.get? b=some o->H b=none->∃P,h'.get? b=some { o with slots:=P}) (f:∀b o,b∉ch->s.heap.get? b=some o->H b=none->H' b=none) (D:∀b o,b∉ch->s.heap.get? b=some o->∃K,h'.get? b=some K) (F:∀b xs,H b=some (.tup xs)->H' b=some (.tup xs)) (G:∀b o u,H b=some (.frz o u)->H' b=some (.frz o u)) (L:∀b ps,H b=some (.tbl ps)->∃more,H' b=some (.tbl (ps++more))) (ns:∀m,s.heap.Ns X.env.locals m->h'.Ns X.env.locals m) (O:HOk X.prog X.w H' h') (Y:AllBare g'):
  Inv X pins Z H' { s with heap:=h',gens:=g',drawn:=d',toks:=t'}:=by
 have M:∀b o,X.s₀.heap.get? b=some o->b≠X.env.locals:=fun b o e=>K_ (M_ (o_ e) I.ok.above);have A:∀b o,X.s₀.heap.get? b=some o->b∉X.ex->b∉ch:=fun b o e a C=>by
  rcases (j b C).1 with z | z
  ·exact a z
  exact absurd (M_ (o_ e) z) (Zr _)
 have g:∀x c,X.env.cells.lookup x=some c->∀v,s.heap.IsCell c v->h'.IsCell c v:=fun x c e v ⟨o,E,Q⟩=>by
  have h:c∉ch:=fun z=>(j c z).2.2.1 x c e rfl;by_cases R:c∈X.fs
  ·obtain⟨P,q⟩:=B c o (I.cne x c e) R h E (I.freeC x c e);exact⟨_,q,Q⟩
  exact⟨o,t c o (I.cne x c e) R h E (I.freeC x c e),Q⟩
 refine⟨I.ok,I.os,Y,⟨fun b o e n C a=>?_,fun b o e n C a=>?_,fun b o e n a=>?_,fun b o e a=>?_,fun b xs e=>F b xs (I.base.tups b xs e),fun b o xs e=>G b o xs (I.base.frzs b o xs e),fun b ps e=>?_⟩,?_,fun x c e=>?_,?_,fun x c e=>?_,fun p S=>?_,O,I.len⟩
 ·exact t b o (M b o e) C (A b o e a) (I.base.keep b o e n C a) (I.base.free b o e n a)
 ·obtain⟨P,y⟩:=I.base.slot b o e n C a;obtain⟨N,J⟩:=B b _ (M b o e) C (A b o e a) y (I.base.free b o e n a);exact⟨N,J⟩
 ·obtain⟨K,y⟩:=I.base.there b o e a;exact f b K (A b o e a) y (I.base.free b o e n a)
 ·obtain⟨K,y⟩:=I.base.there b o e a;exact D b K (A b o e a) y
 ·obtain⟨V,y⟩:=I.base.tbls b ps e;obtain⟨m2,J⟩:=L b _ y;exact⟨V++m2,by rw[J,Array.append_assoc]⟩
 ·obtain⟨m,hn,W⟩:=I.loc;refine⟨m,ns m hn,fun i x v y J e3=>?_⟩;obtain⟨u,r,l⟩:=W i x v y J e3;refine⟨u,r,?_⟩;rcases l with l | ⟨k,c,e,z⟩
  ·exact .inl l
  exact .inr ⟨k,c,e,g x c e _ z⟩
 ·obtain⟨v,z⟩:=I.cell x c e;exact⟨v,g x c e v z⟩
 ·obtain⟨m,⟨o,_,_,E,_⟩,_⟩:=I.loc;exact f _ o (fun z=>(j _ z).2.1 rfl) E I.free
 ·obtain⟨v,o,E,Q⟩:=I.cell x c e;exact f c o (fun z=>(j c z).2.2.1 x c e rfl) E (I.freeC x c e)
 obtain⟨e,n,U,T,d⟩:=I.pin p S;have h:p.1∉ch:=fun z=>(j p.1 z).2.2.2 p S rfl;exact⟨t p.1 p.2 U T h e n,f p.1 p.2 h e n,U,T,d⟩
def Inv.un (I:Inv X pins Z H s) (u:Un X.fs [] H H' s.heap h') (c:HOk X.prog X.w H' h'):Inv X pins Z H' { s with heap:=h',toks:=t'}:=by
 obtain⟨m,⟨o,q,ep,h,r⟩,_⟩:=id I.loc;obtain⟨t,k⟩:=u.any h I.free (by simp);exact I.step (g':=s.gens) (d':=s.drawn) (ch:=[]) (fun _ z=>nomatch z) (fun b o _ d _ e n=>u.keep b o e n d (by simp)) (fun b o _ d _ e n=>u.slot b o e n d (by simp)) (fun b o _ e n=>u.free b o e n (by simp)) (fun b o _ e=>u.there b o e (by simp)) u.tups u.frzs u.tbls (fun p j=>by
  obtain⟨l,f,g,a,i⟩:=j
  rw[h] at a;cases a
  exact⟨_,f,g,k,i⟩) c I.bare
def Inv.call (I:Inv X pins Z H s) (u:Un (frs X.stack) ch H H' s.heap h') (g:HOk X.prog X.w H' h') (v:AllBare g') (d:∀b∈ch,(b∈X.ex\/X.s₀.heap.objs.size<=b)/\b≠X.env.locals/\(∀x c,X.env.cells.lookup x=some c->c≠b)/\∀p∈X.pn++pins,p.1≠b):
  Inv X pins Z H' { s with heap:=h',gens:=g',drawn:=d',toks:=t'}:=by
 obtain⟨m,⟨o,B,ep,k,r⟩,_⟩:=id I.loc;obtain⟨C,h⟩:=u.any k I.free fun z=>(d _ z).2.1 rfl;exact I.step (ch:=ch) d (fun b o h t a e n=>u.keep b o e n (fun z=>(x_.mp (I.stkSub b z)).elim h t) a) (fun b o _ _ a e n=>u.any e n a) (fun b o a e n=>u.free b o e n a) (fun b o a e=>u.there b o e a) u.tups u.frzs u.tbls (fun A q=>by
  obtain⟨y,i,j,f,l⟩:=q
  rw[k] at f;cases f
  exact⟨_,i,j,h,l⟩) g v
def Inv.turned (I:Inv X pins Z H s) (k:∀b o,b≠it->s.heap.get? b=some o->h'.get? b=some o) (w:H it=none) (f:it≠X.env.locals) (t:it∈X.ex\/X.s₀.heap.objs.size<=it) (h:∀x c,X.env.cells.lookup x=some c->c≠it) (i:∀p∈X.pn++pins,p.1≠it):Inv X pins Z H { s with heap:=h',toks:=t'}:=by
 have d:∀b u,H b=some u->b≠it:=fun b u e z=>by rw[z,w] at e;cases e
 refine I.step (g':=s.gens) (d':=s.drawn) (ch:=[it]) (fun b y=>?_) (fun b o _ _ a e _=>k b o (fun z=>a (by simp [z])) e) (fun b o _ _ a e _=>⟨o.slots,k b o (fun z=>a (by simp [z])) e⟩) (fun _ _ _ _ n=>n)
  (fun b o a e=>⟨o,k b o (fun z=>a (by simp [z])) e⟩) (fun _ _ e=>e) (fun _ _ _ e=>e) (fun b ps e=>⟨#[],by rw[e];simp⟩) (fun m l=>?_) (fun b u e=>?_) I.bare
 ·have e:b=it:=by simpa using y
  subst e;exact⟨t,f,h,i⟩
 ·obtain⟨o,j,ep,g,r⟩:=l;exact⟨o,j,ep,k _ o (Ne.symm f) g,r⟩
 refine (I.hok b u e).stay (fun c v a q=>k c v ?_ q) (fun _ q=>q) fun _ _ q=>q;rcases a with z | z
 ·rw[z];exact d b u e
 exact d c _ z
def Inv.tok (I:Inv X pins Z H s) (t:Nat):Inv X pins Z H { s with toks:=t}:=I.un (h':=s.heap) (t':=t) Un.refl I.hok
def Inv.kept (I:Inv X pins Z H s) (k:∀b u,s.heap.get? b=some u->h'.get? b=some u):Inv X pins Z H { s with heap:=h',toks:=t'}:=I.un (Un.kept k) (I.hok.kept k)
def Inv.laid {a:Addr} (I:Inv X pins Z H s) (k:∀b u,s.heap.get? b=some u->h'.get? b=some u) (d:s.heap.objs.size<=a) (c:zc X.prog X.w (upd H a o) h' a o):
  Inv X pins Z (upd H a o) { s with heap:=h',toks:=t'}:=I.un (Un.laid k d (I.hok.fresh d)) (I.hok.laid k d c)
def Inv.write (I:Inv X pins Z H s) (mu:Mut (H x)) (d:e=x\/H e=some (.own x)) (k:∀b u,b≠e->s.heap.get? b=some u->h'.get? b=some u) (a:∃u,h'.get? e=some u) (c:zc X.prog X.w (upd H x o) h' x o):Inv X pins Z (upd H x o) { s with heap:=h',toks:=t'}:=I.un (Un.write mu d k a) (I.hok.write mu d k a c)
def Inv.pins_of (I:Inv X pins Z H s) (h:∀p∈pins',s.heap.get? p.1=some p.2/\H p.1=none/\p.1≠X.env.locals/\p.1∉X.fs/\∀v,p.2.data≠.cell v):Inv X pins' Z H s :=
 ⟨I.ok,I.os,I.bare,I.base,I.loc,I.cell,I.free,I.freeC,fun p a=>(u_.mp a).elim (fun z=>I.pin p (U_ _ z)) (h p),I.hok,I.len⟩
def mq {N:List Str} (d:N.Nodup) {i j:Nat} (a:N[i]?=some x) (b:N[j]?=some x):i=j:=by
 obtain⟨g,e⟩:=ZV.mp a;obtain⟨f,c⟩:=ZV.mp b;exact (List.getElem_inj d).mp (e.trans c.symm)
def iG (I:Inv X pins Z H s) (hN:X.N.Nodup) (R:X.N[i]?=some x) (B:Loc X.env.scope x) (r:RelV v u) (h:∀s',Inv X pins (Z.set i (some v)) H s'->(∃a,Heap.SameBut a s.heap s'.heap/\(a=X.env.locals\/X.env.cells.lookup x=some a))->Q () s') (hf:X.fn x=true\/X.env.scope.names.lookup x=some .local:=by first | exact .inl rfl | exact .inr rfl | assumption):wpAny M A (storeName X.env x u) Q E s:=by
 obtain⟨m,hn,hl⟩:=id I.loc;have U:(X.env.scope.kind==.class||(X.env.scope.kind==.module&&X.env.locals != X.env.globals))=false:=by rw[I.ok.kind];rfl
 have T:i<Z.length:=by rw[I.len];exact (ZV.mp R).1
 have K:=I.cne;have l:∀{a:Addr} {h':Heap},(∃o,s.heap.get? a=some o/\H a=none)->Heap.SameBut a s.heap h'->HOk X.prog X.w H h':=fun {a h'} ha f b ob e=>by
  obtain⟨_,_,C⟩:=ha;refine (I.hok b ob e).stay (fun c Y t q=>(f.2 c ?_).trans q) (fun _ q=>q) fun _ _ q=>q;rintro rfl;rcases t with rfl | t
  ·rw[C] at e;cases e
  rw[C] at t;cases t
 rcases B with F | F
 ·refine wpAny_storeName_local F hn (fun h' hn' f=>?_) U;obtain⟨oL,_,_,hoL,_⟩:=id hn;refine h _ ⟨I.ok,I.os,I.bare,⟨fun b o e n L B=>?_,fun b o e n L B=>?_,I.base.free,fun b o e B=>?_,I.base.tups,I.base.frzs,I.base.tbls⟩,⟨_,hn',fun j y v' g D e3=>?_⟩,fun y c e=>?_,I.free,I.freeC,fun p hp=>?_,l ⟨oL,hoL,I.free⟩ f,by simpa using I.len⟩ ⟨_,f,.inl rfl⟩
  ·exact (f.2 b (K_ (M_ (o_ e) I.ok.above))).trans (I.base.keep b o e n L B)
  ·obtain⟨sl,g⟩:=I.base.slot b o e n L B;exact⟨sl,(f.2 b (K_ (M_ (o_ e) I.ok.above))).trans g⟩
  ·obtain⟨o',g⟩:=I.base.there b o e B;exact⟨o',(f.2 b (K_ (M_ (o_ e) I.ok.above))).trans g⟩
  ·by_cases J:j=i
   ·subst J;rw[R] at g;cases g;rw[ZW T] at D;cases D;exact⟨u,r,.inl ⟨F,by simp⟩⟩
   rw[aag (Ne.symm J)] at D;obtain⟨u',r',q⟩:=hl j y v' g D e3;refine⟨u',r',?_⟩;rcases q with ⟨k,e⟩ | ⟨k,c,e,z⟩
   ·refine .inl ⟨k,?_⟩;have:y≠x:=fun e=>J (mq hN g (e▸R));simp [this,e]
   exact .inr ⟨k,c,e,z.sameBut f (K y c e)⟩
  ·obtain⟨Y,z⟩:=I.cell y c e;exact⟨Y,z.sameBut f (K y c e)⟩
  obtain⟨e,n,ne,nf,d⟩:=I.pin p hp;exact⟨(f.2 p.1 ne).trans e,n,ne,nf,d⟩
 have G:X.fn x=true:=by
  rcases hf with z | z
  ·exact z
  rw[z] at F;cases F
 obtain⟨c,t⟩:=I.ok.has x (.inl F);obtain⟨Y,z⟩:=I.cell x c t;refine wpAny_storeName_cell I.ok.kind F t z (fun h' W f=>?_);obtain⟨oc,P,O⟩:=id z;refine h { s with heap:=h'} ⟨I.ok,I.os,I.bare,⟨fun b o e n L B=>?_,fun b o e n L B=>?_,I.base.free,fun b o e B=>?_,I.base.tups,I.base.frzs,I.base.tbls⟩,⟨m,hn.sameBut f (Ne.symm (K x c t)),fun j y v' g D e3=>?_⟩,fun y c' e=>?_,I.free,I.freeC,fun p hp=>?_,l ⟨oc,P,I.freeC x c t⟩ f,by simpa using I.len⟩ ⟨c,f,.inr t⟩
 ·exact (f.2 b (K_ (M_ (o_ e) (I.ok.cab x c G t)))).trans (I.base.keep b o e n L B)
 ·obtain⟨sl,g⟩:=I.base.slot b o e n L B;exact⟨sl,(f.2 b (K_ (M_ (o_ e) (I.ok.cab x c G t)))).trans g⟩
 ·obtain⟨o',g⟩:=I.base.there b o e B;exact⟨o',(f.2 b (K_ (M_ (o_ e) (I.ok.cab x c G t)))).trans g⟩
 ·by_cases J:j=i
  ·subst J;rw[R] at g;cases g;rw[ZW T] at D;cases D;exact⟨u,r,.inr ⟨.inl F,c,t,W⟩⟩
  rw[aag (Ne.symm J)] at D;obtain⟨u',r',q⟩:=hl j y v' g D e3;refine⟨u',r',?_⟩;rcases q with q | ⟨k,c',e,z'⟩
  ·exact .inl q
  refine .inr ⟨k,c',e,z'.sameBut f ?_⟩;rintro rfl;exact J (mq hN g (I.ok.inj _ _ _ e t▸R))
 ·by_cases S:c'=c
  ·subst S;exact⟨_,W⟩
  obtain⟨w2,z2⟩:=I.cell y c' e;exact⟨w2,z2.sameBut f S⟩
 obtain⟨e,n,ne,nf,d⟩:=I.pin p hp;refine⟨(f.2 p.1 ?_).trans e,n,ne,nf,d⟩;intro q;rw[q,P] at e;have q':oc=p.2:=F_ e;exact d Y (by rw[<- q'];exact O)
def rH (I:Inv X pins Z H s) (d:X.N.Nodup) (b:X.N[i]?=some x) (c:Loc X.env.scope x) (r:RelV v u) (h:∀s',Inv X pins (Z.set i (some v)) H s'->Q () s') (e:X.fn x=true\/X.env.scope.names.lookup x=some .local:=by first | exact .inl rfl | exact .inr rfl | assumption):wpAny M A (storeName X.env x u) Q E s :=
 iG I d b c r (fun s' a _=>h s' a) e
def Inv.call' (I:Inv X pins Z H s) (g:s'.os=s.os) (u:Un (frs X.stack) ch H H' s.heap s'.heap) (a:HOk X.prog X.w H' s'.heap) (h:AllBare s'.gens) (d:∀b∈ch,(b∈X.ex\/X.s₀.heap.objs.size<=b)/\b≠X.env.locals/\(∀x c,X.env.cells.lookup x=some c->c≠b)/\∀p∈X.pn++pins,p.1≠b):Inv X pins Z H' s':=by
 obtain⟨h',g',d',t',f⟩:=s';have e:f=s.os:=g;subst e;exact I.call (g':=g') (t':=t') (d':=d') u a h d
end
abbrev XK:=Value->Option Addr->Hp->Prop
abbrev St:=List (Option V)
abbrev VK:=V->Hp->Prop
abbrev TE:=St->Hp->VK->Prop
abbrev TT:=St->Hp->(Bool->Hp->Prop)->Prop
abbrev TA:=St->Hp->(List V->Hp->Prop)->Prop
structure Ends where
 nx:St->Hp->Prop
 rt:VK
 bk:St->Hp->Prop:=fun _ _=>False
 ct:St->Hp->Prop:=fun _ _=>False
abbrev TS:=Ends->St->Hp->Prop
def EP (X:Cx) (a:List (Addr × Obj)) (Z:St) (Q:VK) (u:Value) (s':Shared):Prop:=∃v H',Inv X a Z H' s'/\RelV v u/\Q v H'
def TP (X:Cx) (a:List (Addr × Obj)) (Z:St) (Q:Bool->Hp->Prop) (b:Bool) (s':Shared):Prop:=∃H',Inv X a Z H' s'/\Q b H'
def AP (X:Cx) (a:List (Addr × Obj)) (Z:St) (Q:List V->Hp->Prop) (us:List Value) (s':Shared):Prop:=∃vs H',Inv X a Z H' s'/\Vals vs us/\Q vs H'
def SP (X:Cx) (a:List (Addr × Obj)) (D:Ends) (f:Flow) (s':Shared):Prop :=
 match f with
 |.next=>∃b H',Inv X a b H' s'/\D.nx b H'
 |.brk=>∃b H',Inv X a b H' s'/\D.bk b H'
 |.cont=>∃b H',Inv X a b H' s'/\D.ct b H'
 |.ret u=>∃v b H',Inv X a b H' s'/\RelV v u/\D.rt v H'
def PE (X:Cx) (e:Expr) (t:TE):Prop :=
 ∀(a:List (Addr × Obj)) (s:Shared) (Z:St) (H:Hp) (Q:VK),Inv X a Z H s->t Z H Q->wpAny (model X.prog X.w) X.A (eval e X.env) (EP X a Z Q) X.xe s
def PT (X:Cx) (e:Expr) (t:TT):Prop :=
 ∀(a:List (Addr × Obj)) (s:Shared) (Z:St) (H:Hp) (Q:Bool->Hp->Prop),Inv X a Z H s->t Z H Q->wpAny (model X.prog X.w) X.A (isTrue e X.env (eval e X.env)) (TP X a Z Q) X.xe s
def PW (X:Cx) (e:Expr) (t:TT):Prop :=
 ∀(b:Sem Value) (a:List (Addr × Obj)) (s:Shared) (Z:St) (H:Hp) (Q:Bool->Hp->Prop),Inv X a Z H s->t Z H Q->wpAny (model X.prog X.w) X.A (isTrue e X.env b) (TP X a Z Q) X.xe s
def PW.pt (h:PW X e t):PT X e t:=h _
def PA (X:Cx) (c:List Expr) (t:TA):Prop :=
 ∀(b:Pos) (a:List (Addr × Obj)) (s:Shared) (Z:St) (H:Hp) (Q:List V->Hp->Prop),Inv X a Z H s->t Z H Q->wpAny (model X.prog X.w) X.A (spliced (backTo b (starEach c X.env))) (AP X a Z Q) X.xe s
def PS (X:Cx) (st:Stmt) (t:TS):Prop :=
 ∀(a:List (Addr × Obj)) (s:Shared) (Z:St) (H:Hp) (D:Ends),Inv X a Z H s->t D Z H->wpAny (model X.prog X.w) X.A (exec st X.env) (SP X a D) X.xe s
def PSs (X:Cx) (st:List Stmt) (t:TS):Prop :=
 ∀(a:List (Addr × Obj)) (s:Shared) (Z:St) (H:Hp) (D:Ends),Inv X a Z H s->t D Z H->wpAny (model X.prog X.w) X.A (execs st X.env) (SP X a D) X.xe s
def Ob {t:Sem c}{Q b:c->Shared->Prop} (h:wpAny M A t Q E s) (d:∀a s,Q a s->b a s):wpAny M A t b E s:=Zz h d fun _ _ x=>x
section
variable {X:Cx}
def TQ (i:Nat):TE:=fun Z H Q=>∃v,Z[i]?=some (some v)/\Q v H
def tC (v:V):TE:=fun _ H Q=>Q v H
def Oi {j:Pos} (w:X.N[i]?=some x) (o:Vis X.env.scope x) (g:(x==("__debug__":Str))=false:=by decide) (k:(x==("__classdict__":Str))=false:=by decide):PE X (.Name x j) (TQ i):=by
 intro f s Z H Q I h;obtain⟨v,e,h⟩:=h;obtain⟨m,q,t⟩:=I.loc;obtain⟨u,r,l⟩:=t i x v w e o;have d:EP X f Z Q u s:=⟨v,H,I,r,h⟩;rcases l with ⟨b,p⟩ | ⟨b,c,n,a⟩
 ·exact wpAny_Name (wpAny_loadName_local I.ok.kind b q p d) g
 rcases b with b | b
 ·exact wpAny_Name (wpAny_loadName_cell I.ok.kind b n a d) g
 exact wpAny_Name (wpAny_loadName_free I.ok.kind b n a d k) g
def Oj:PE X (.Constant (.int i) j pos) (tC (.int i)):=fun _ _ _ H _ I h=>wpAny_Constant_int ⟨.int i,H,I.tok _,⟨_,rfl⟩,h⟩
def TV:PE X (.Constant (.bool b) j pos) (tC (.bl b)):=fun _ _ _ H _ I h=>Constant_bool ⟨.bl b,H,I,rfl,h⟩
def Ol:PE X (.Constant .none j pos) (tC .non):=fun _ _ _ H _ I h=>Constant_none ⟨.non,H,I,rfl,h⟩
def Om:PE X (.Constant (.str x) j pos) (tC (.str x)):=fun _ _ _ H _ I h=>Calls.Constant_str ⟨.str x,H,I.tok _,⟨_,rfl⟩,h⟩
def Gl (X:Cx) (x:Str):Prop:=X.env.kindOf x=some .globalImplicit
def iH {Z:St} (I:Inv X a Z H s) (e:Gl X x) (d:X.mg x=some u) (h:Q u s) (c:(x==("__debug__":Str))=false:=by decide):wpAny (model X.prog X.w) X.A (eval (.Name x b) X.env) Q E s :=
 Calls.Name_function_global I.ok.kind e (Calls.loadGlobal_global (by rw[I.ok.glob];exact I.mod.glob.keeps I.bk) d h) c
def fX {E:Value->Shared->Prop}{Z:St}{b:Pos} (I:Inv X a Z H s) (j:Gl X x) (f:X.mg x=none) (e:bootBuiltins x=some u) (h:Q u s) (g:x≠"__name__":=by decide) (d:(x==("__debug__":Str))=false:=by decide):wpAny (model X.prog X.w) X.A (eval (.Name x b) X.env) Q E s:=by
 obtain⟨k,i,c⟩:=I.mod.blt;exact Calls.Name_function_global I.ok.kind j (Calls.loadGlobal_builtin (by rw[I.ok.glob];exact I.mod.glob.keeps I.bk) f (by rw[I.ok.blt];exact i.keeps I.bk) ((c x g).trans e) h) d
def Hz {a:Pos} (f:Gl X x) (d:X.mg x=none) (c:bootBuiltins x=some u) (r:RelV v u) (e:x≠"__name__":=by decide) (b:(x==("__debug__":Str))=false:=by decide):PE X (.Name x a) (tC v) :=
 fun _ _ _ H _ I h=>fX I f d c ⟨v,H,I,r,h⟩ e b
variable {ta tb:TE}
def PC (X:Cx) (f:CmpOp) (a b:Expr) (t:TE):Prop :=
 ∀(c:List (Addr × Obj)) (s:Shared) (Z:St) (H:Hp) (Q:VK),Inv X c Z H s->t Z H Q ->
  wpAny (model X.prog X.w) X.A (eval a X.env) (fun v e=>wpAny (model X.prog X.w) X.A (eval b X.env) (fun u d=>wpAny (model X.prog X.w) X.A (compareOp f v u) (EP X c Z Q) X.xe d) X.xe e) X.xe s
def Be (b:Expr) {a:CmpOp}(h:a≠.In) (e:a≠.NotIn):behindInMarks a b=false:=by
 have c:(a==CmpOp.In)=false:=by cases a <;> first | rfl | exact absurd rfl h
 have d:(a==CmpOp.NotIn)=false:=by cases a <;> first | rfl | exact absurd rfl e
 cases b <;> simp [behindInMarks,c,d]
def tB (t:TE):TT:=fun Z H Q=>t Z H fun x a=>∃c,x=.bl c/\Q c a
def vg (h:PC X g a b t) (f:behindInMarks g b=false:=by first | exact Be _ (by decide) (by decide) | rfl):PT X (.Compare a [g] [b] pos) (tB t):=by
 intro e s Z H Q I m;refine wpAny_isTrue_Compare1 (Ob (h e s Z H _ I m) fun v p f=>Ob f fun u r i=>Ob i fun c o ⟨x,k,j,l,n⟩=>?_) f;obtain⟨d,rfl,q⟩:=n;cases l;exact aaM ⟨k,j,q⟩
def Oo (h:PE X e t) (g:∀whole,isTrue e X.env whole=(do let v <- whole;standAt e.pos;holding [v] (truthy v)):=by intro _;rfl):PT X e (tB t):=by
 intro a s Z H Q I i;refine isTrue_plain (Ob (h a s Z H _ I i) fun v k ⟨x,c,b,f,j⟩=>?_) (g _);obtain⟨d,rfl,q⟩:=j;cases f;exact aaM ⟨c,b,q⟩
variable {rest:List Expr}
def XR (t u:TT):TT:=fun Z H Q=>t Z H fun c a=>if c=true then u Z a Q else Q false a
def tOr (t u:TT):TT:=fun Z H Q=>t Z H fun c a=>if c=true then Q true a else u Z a Q
def XS (t:TT):TT:=fun Z H Q=>t Z H fun c a=>Q (!c) a
def HB (d:PT X a tA):PW X (.BoolOp .And [a] pos) tA:=by
 intro g b s Z H Q I h;refine isTrue_and (Ob (d b s Z H Q I h) fun c f e=>?_);cases c with
 |true=>exact isTrue_and_nil e
 |false=>exact e
def Oq (d:PT X a tA):PW X (.BoolOp .Or [a] pos) tA:=by
 intro g b s Z H Q I h;refine isTrue_or (Ob (d b s Z H Q I h) fun c f e=>?_);cases c with
 |false=>exact isTrue_or_nil e
 |true=>exact e
def Ot (l:PT X a tA) (k:PW X (.BoolOp .And (b::rest) pos) tB'):PW X (.BoolOp .And (a::b::rest) pos) (XR tA tB'):=by
 intro i d s Z H Q I h;refine isTrue_and (Ob (l d s Z H _ I h) fun c j ⟨f,e,g⟩=>?_);cases c with
 |true=>exact k i d j Z f Q e g
 |false=>exact⟨f,e,g⟩
def TX (l:PT X a tA) (k:PW X (.BoolOp .Or (b::rest) pos) tB'):PW X (.BoolOp .Or (a::b::rest) pos) (tOr tA tB'):=by
 intro i d s Z H Q I h;refine isTrue_or (Ob (l d s Z H _ I h) fun c j ⟨f,e,g⟩=>?_);cases c with
 |true=>exact⟨f,e,g⟩
 |false=>exact k i d j Z f Q e g
def Ou (e:PT X a tA):PT X (.UnaryOp .Not a pos) (XS tA):=by
 intro b s Z H Q I h;exact isTrue_not (e b s Z H (fun c d=>Q (!c) d) I h)
def TY (b tb:TE):TE:=fun Z H Q=>b Z H fun x a=>∃c,x=.bl c/\if c=true then tb Z a Q else Q (.bl false) a
def XX (b tb:TE):TE:=fun Z H Q=>b Z H fun x a=>∃c,x=.bl c/\if c=true then Q (.bl true) a else tb Z a Q
def T3 (b:TE):TE:=fun Z H Q=>b Z H fun x a=>∃c,x=.bl c/\Q (.bl (!c)) a
def Ov (h:PE X a t):PE X (.BoolOp op [a] pos) t:=fun b s Z H Q I c=>BoolOp_one (h b s Z H Q I c)
def Ow (l:PE X a ta) (k:PE X (.BoolOp .And (b::rest) pos) tb):PE X (.BoolOp .And (a::b::rest) pos) (TY ta tb):=by
 intro d s Z H Q I h;refine BoolOp_and (Ob (l d s Z H _ I h) fun v i ⟨x,g,f,j,e⟩=>?_);obtain⟨c,rfl,e⟩:=e;cases j;refine aaM ?_;cases c with
 |true=>exact k d i Z g Q f e
 |false=>exact⟨.bl false,g,f,rfl,e⟩
def T4 (l:PE X a ta) (k:PE X (.BoolOp .Or (b::rest) pos) tb):PE X (.BoolOp .Or (a::b::rest) pos) (XX ta tb):=by
 intro d s Z H Q I h;refine BoolOp_or (Ob (l d s Z H _ I h) fun v i ⟨x,g,f,j,e⟩=>?_);obtain⟨c,rfl,e⟩:=e;cases j;refine aaM ?_;cases c with
 |false=>exact k d i Z g Q f e
 |true=>exact⟨.bl true,g,f,rfl,e⟩
def Ox (i:PE X a ta):PE X (.UnaryOp .Not a pos) (T3 ta):=by
 intro b s Z H Q I h;refine UnaryOp_ (Ob (i b s Z H _ I h) fun v j ⟨x,f,e,g,d⟩=>?_);obtain⟨c,rfl,d⟩:=d;cases g;exact not_of (aaM ⟨.bl (!c),f,e,rfl,d⟩)
end
def SqL (K:Frag) (H:Hp) (a:Addr) (xs:List V):Prop :=
 Rd H a (.lst xs) \/
  ∃(o:Obj) (b:Array Value) (n:Nat),K.lookup a=some o/\o.cls=.type "list"/\o.dict=none/\o.data=.seq b n/\b.size<=sizeLine/\Vals xs b.toList
def SqT (K:Frag) (H:Hp) (a:Addr) (xs:List V):Prop :=
 Rd H a (.tup xs) \/
  ∃(o:Obj) (b:Array Value) (n:Nat),K.lookup a=some o/\o.cls=.type "tuple"/\o.dict=none/\o.data=.seq b n/\b.size<=sizeLine/\Vals xs b.toList
def X3:Value->Option V
 |.none=>some .non
 |.bool b=>some (.bl b)
 |.int i _=>some (.int i)
 |.str x _=>some (.str x)
 |.bytes b _=>some (.byt b)
 |.float b _=>some (.flt b)
 |.ref a=>some (.ref a)
 |.type n=>some (.ty n)
 |_=>none
def RelV.abs (r:RelV x u):X3 u=some x:=by
 cases x with
 |non=>cases r;rfl
 |bl _=>cases r;rfl
 |int _=>obtain⟨t,rfl⟩:=r;rfl
 |str _=>obtain⟨t,rfl⟩:=r;rfl
 |byt _=>obtain⟨t,rfl⟩:=r;rfl
 |flt _=>obtain⟨t,rfl⟩:=r;rfl
 |ref _=>cases r;rfl
 |ty _=>cases r;rfl
def RelV.inj (r:RelV x u) (q:RelV y u):x=y:=F_ (r.abs.symm.trans q.abs)
def Vals.inj (h:Vals xs us) (h':Vals a us):xs=a:=by
 induction h generalizing a with
 |nil=>cases h';rfl
 |cons r t c =>
 cases h' with
 |cons b t'=>rw[r.inj b,c t']
section
variable {X:Cx}{pins:List (Addr × Obj)}{Z:St}
def SqL.of {K:Frag}(h:H a=some (.lst xs)):SqL K H a xs:=.inl (.inl h)
def SqT.of {K:Frag}(h:H a=some (.tup xs)):SqT K H a xs:=.inl (.inl h)
def Inv.list (I:Inv X pins Z H s) (h:SqL X.K H a xs):∃b:List Value,Vals xs b/\PlainL s.heap a b.toArray/\xs.length<=sizeLine:=by
 rcases h with h | ⟨o,b,n,c,g,d,f,i,r⟩
 ·obtain⟨z,b,n,r,e⟩:=h.ok I.hok;exact⟨b,r,⟨_,n,e,rfl,rfl,rfl⟩,z⟩
 refine⟨b.toList,r,⟨o,n,I.kIn a o c,g,d,by simpa using f⟩,?_⟩;have e:=r.length;simp only[aaT] at e;omega
def Inv.tuple (I:Inv X pins Z H s) (h:SqT X.K H a xs):∃b:List Value,Vals xs b/\IsTup s.heap a b.toArray/\xs.length<=sizeLine:=by
 rcases h with h | ⟨o,b,n,c,f,_,d,g,r⟩
 ·obtain⟨z,b,r,p⟩:=h.ok I.hok;exact⟨b,r,p.is,z⟩
 refine⟨b.toList,r,⟨o,I.kIn a o c,f,n,by simpa using d⟩,?_⟩;have e:=r.length;simp only[aaT] at e;omega
def Inv.list_inj (I:Inv X pins Z H s) (h:SqL X.K H a xs) (h':SqL X.K H a ys):xs=ys:=by
 obtain⟨b,r,⟨o,n,e,_,_,d⟩,_⟩:=I.list h;obtain⟨its',f,⟨g,i,c,_,_,d'⟩,_⟩:=I.list h';rw[e] at c;cases c;rw[d] at d';injection d' with d1 _;have:b=its':=by simpa using T_ Array.toList d1
 subst this;exact r.inj f
def Inv.tuple_inj (I:Inv X pins Z H s) (h:SqT X.K H a xs) (h':SqT X.K H a ys):xs=ys:=by
 obtain⟨b,r,⟨o,e,_,n,d⟩,_⟩:=I.tuple h;obtain⟨its',f,⟨g,c,_,i,d'⟩,_⟩:=I.tuple h';rw[e] at c;cases c;rw[d] at d';injection d' with d1 _;have:b=its':=by simpa using T_ Array.toList d1
 subst this;exact r.inj f
end
abbrev Cx.wish (X:Cx) (E:Value->Shared->Prop):Cx:={ X with xe:=E}
abbrev Cx.nox (X:Cx):Cx:=X.wish fun _ _=>False
def Cx.Ok.wish {X:Cx}(a:X.Ok) (E:Value->Shared->Prop):(X.wish E).Ok :=
 ⟨a.mod,a.kind,a.glob,a.blt,a.above,a.inj,a.has,a.cab,a.hd,a.frames,a.stk,a.exf,a.bs,a.bsz,a.noex,a.exfs,a.funs,a.frf⟩
def Cx.Ok.unwish {X:Cx} (a:(X.wish E).Ok):X.Ok :=
 ⟨a.mod,a.kind,a.glob,a.blt,a.above,a.inj,a.has,a.cab,a.hd,a.frames,a.stk,a.exf,a.bs,a.bsz,a.noex,a.exfs,a.funs,a.frf⟩
section
variable {X:Cx}{pins:List (Addr × Obj)}{Z:St}
def Inv.wish (I:Inv X pins Z H s) (E:Value->Shared->Prop):Inv (X.wish E) pins Z H s:=⟨I.ok.wish E,I.os,I.bare,I.base,I.loc,I.cell,I.free,I.freeC,I.pin,I.hok,I.len⟩
def Inv.unwish (I:Inv (X.wish E) pins Z H s):Inv X pins Z H s:=⟨I.ok.unwish,I.os,I.bare,I.base,I.loc,I.cell,I.free,I.freeC,I.pin,I.hok,I.len⟩
def SP.unwish (h:SP (X.wish E) pins D f s'):SP X pins D f s':=by
 cases f with
 |next=>obtain⟨a,H',I,q⟩:=h;exact⟨a,H',I.unwish,q⟩
 |brk=>obtain⟨a,H',I,q⟩:=h;exact⟨a,H',I.unwish,q⟩
 |cont=>obtain⟨a,H',I,q⟩:=h;exact⟨a,H',I.unwish,q⟩
 |ret u=>obtain⟨v,a,H',I,r,q⟩:=h;exact⟨v,a,H',I.unwish,r,q⟩
def PSs.nox {st:List Stmt} (h:PSs X.nox st t):PSs X st t:=fun a s Z H D I b =>
 Zz (h a s Z H D (I.wish _) b) (fun _ _ q=>q.unwish) fun _ _ z=>False.elim z
variable {st:Stmt}{rest:List Stmt}{t u:TS}
def T5:TS:=fun D Z H=>D.nx Z H
def X4 (t u:TS):TS:=fun D Z H=>t { D with nx:=u D} Z H
def HD:PSs X [] T5:=fun _ _ Z H _ I h=>abD ⟨Z,H,I,h⟩
def rJ (h1:PS X st t) (b:PSs X rest u):PSs X (st::rest) (X4 t u):=by
 intro a s Z H D I h;refine wpAny_execs_cons (Ob (h1 a s Z H { D with nx:=u D} I h) fun f e q=>?_);cases f with
 |next=>obtain⟨d,H',c,q⟩:=q;exact b a e d H' D c q
 |ret v=>exact q
 |brk=>exact q
 |cont=>exact q
def xO (b:PS X st t):PSs X [st] t:=by
 intro a s Z H D I h;refine wpAny_execs_cons (Ob (b a s Z H D I h) fun f c q=>?_);cases f with
 |next=>exact abD q
 |ret v=>exact q
 |brk=>exact q
 |cont=>exact q
def Inv.quiet (I:Inv X a Z H s):interactive X.env=false:=by simp [interactive,I.ok.kind]
def T6 (te:TE):TS:=fun D Z H=>te Z H fun _ a=>D.nx Z a
def HF (f:PE X e te) (d:swapsWith e none pos.line X.env=pure false:=by rfl):PS X (.Expr e pos) (T6 te):=by
 intro a s Z H D I h;exact wpAny_Expr_any (Ob (f a s Z H _ I h) fun v i ⟨x,c,b,j,g⟩=>⟨Z,c,b,g⟩) I.quiet d
def X5 (te:TE):TS:=fun D Z H=>te Z H D.rt
def Oz (f:PE X e te):PS X (.Return (some e) pos) (X5 te):=by
 intro a s Z H D I h;exact wpAny_Return_some (Ob (f a s Z H _ I h) fun v i ⟨x,c,b,d,g⟩=>⟨x,Z,c,b,d,g⟩)
def X6 (c:TT) (t u:TS):TS:=fun D Z H=>c Z H fun b a=>if b=true then t D Z a else u D Z a
def T7 (l:PT X c i) (n:PSs X a t) (m:PSs X b u):PS X (.If c a b pos) (X6 i t u):=by
 intro e s Z H D I h;refine wpAny_If (Ob (l e s Z H _ I h) fun d g ⟨j,f,k⟩=>?_);cases d with
 |true=>exact n e g Z j D f k
 |false=>exact m e g Z j D f k
end
abbrev TG:=V->St->Hp->(St->Hp->Prop)->Prop
abbrev TGs:=List V->St->Hp->(St->Hp->Prop)->Prop
def PG (X:Cx) (a:Expr) (t:TG):Prop :=
 ∀(b:List (Addr × Obj)) (s:Shared) (Z:St) (H:Hp) (v:V) (u:Value) (Q:St->Hp->Prop),Inv X b Z H s->RelV v u->t v Z H Q ->
  wpAny (model X.prog X.w) X.A (assign a X.env u) (fun _ s'=>∃c H',Inv X b c H' s'/\Q c H') X.xe s
def PGs (X:Cx) (ts:List Expr) (t:TGs):Prop :=
 ∀(a:List (Addr × Obj)) (s:Shared) (Z:St) (H:Hp) (vs:List V) (us:List Value) (Q:St->Hp->Prop),Inv X a Z H s->Vals vs us->t vs Z H Q ->
  wpAny (model X.prog X.w) X.A (assignInOrder ((assignEach ts X.env).map (·.2)) us) (fun _ s'=>∃b H',Inv X a b H' s'/\Q b H') X.xe s
abbrev Bf:=V->V->V->Hp->(Hp->Prop)->Prop
def adF (X:Cx) (t:Bf):Prop :=
 ∀(a:List (Addr × Obj)) (s:Shared) (Z:St) (H:Hp) (o i v:V) (c b u:Value) (Q:Hp->Prop),Inv X a Z H s->RelV o c->RelV i b->RelV v u->t o i v H Q ->
  wpAny (model X.prog X.w) X.A (setItem c b u) (fun _ s'=>∃H',Inv X a Z H' s'/\Q H') X.xe s
section
variable {pos:Pos}
def Lw (i:Nat):TG:=fun v Z H Q=>Q (Z.set i (some v)) H
def HH (c:X.N.Nodup) (e:X.N[i]?=some x) (d:Loc X.env.scope x) (f:X.fn x=true\/X.env.scope.names.lookup x=some .local:=by first | exact .inl rfl | exact .inr rfl | assumption):PG X (.Name x pos) (Lw i):=by
 intro a s Z H v u Q I r h;exact wpAny_assign_Name (rH I c e d r (fun s' b=>⟨_,H,b,h⟩) f)
def X7:TGs:=fun vs Z H Q=>vs=[]/\Q Z H
def T8 (t:TG) (u:TGs):TGs:=fun vs Z H Q=>∃v r,vs=v::r/\t v Z H fun a H'=>u r a H' Q
def HJ:PGs X [] X7:=by
 intro a s Z H vs us Q I r h;obtain⟨e,h⟩:=h;subst e;cases r;exact assignInOrder_nil ⟨Z,H,I,h⟩
def Bg (i:PG X e t) (c:PGs X b u) (k:(assignEach (e::b) X.env).map (·.2)=assign e X.env::(assignEach b X.env).map (·.2):=by rfl):PGs X (e::b) (T8 t u):=by
 intro a s Z H vs us Q I r h;obtain⟨v,o,l,h⟩:=h;subst l;cases r with
 |cons r m =>
 rw[k];refine assignInOrder_cons (Ob (i a s Z H _ _ _ I r h) fun _ g ⟨d,j,f,n⟩=>?_);exact c a g d j _ _ Q f m n
def X8 (K:Frag) (n:Nat) (t:TGs):TG:=fun v Z H Q=>∃a xs,v=.ref a/\SqT K H a xs/\xs.length=n/\t xs Z H Q
def OD {k:Nat} (w:X.calm=true) (h:PGs X d t) (p:(assignEach d X.env).length=n:=by rfl) (f:(assignEach d X.env).findIdx? (·.1)=none:=by rfl):PG X (.Tuple d k pos) (X8 X.K n t):=by
 intro c s Z H v u Q I r g;obtain⟨a,xs,z,l,y,g⟩:=g;subst z;cases r;obtain⟨j,i,x,A⟩:=I.tuple l;refine assign_Tuple_tuple (I.ok.hd w) x (by simp [p,<- y,i.length]) f fun h' q=>?_;have m:Inv X c Z H { s with heap:=h'}:=I.kept (t':=s.toks) fun b o e=>q b o (K_ (o_ e)) e;exact h c _ Z H xs _ Q m (by simpa using i) g
def Yb (d c:TE) (t:Bf):TG:=fun v Z H Q=>d Z H fun o b=>c Z b fun i a=>t o i v a fun H3=>Q Z H3
def OJ (f:PE X o e) (B:PE X i d) (m:adF X t) (D:∀v,assign (.Subscript o i pos) X.env v=(do
   let b <- holding [v] (eval o X.env)
   let c <- holding [v,b] (eval i X.env)
   standAt pos
   holding [v,b,c] (setItem b c v)
   release [v,b,c] []):=by intro _;rfl):PG X (.Subscript o i pos) (Yb e d t):=by
 intro a s Z H v u Q I r h;rw[D];refine a_ (aaj (Ob (f a s Z H _ I h) fun b l ⟨x,j,g,n,E⟩=>?_));refine a_ (aaj (Ob (B a l Z j _ g E) fun c A ⟨y,k,p,z,w⟩=>?_));refine a_ (abr (a_ (aaj (Ob (m a A Z k x y v b c u _ p n z r w) fun _ F ⟨H3,C,q⟩=>?_))));exact wpAny_release ⟨Z,H3,C,q⟩
def T9 (te:TE) (g:TG):TS:=fun D Z H=>te Z H fun x a=>g x Z a D.nx
def O1 (m:PE X e te) (l:PG X b g) (j:swapsWithSole [b] e pos.line X.env=pure false:=by rfl) (n:swappedStores [b] e X.env=pure none:=by rfl) (f:(assignEach [b] X.env).map (·.2)=[assign b X.env]:=by rfl):PS X (.Assign [b] e pos) (T9 te g):=by
 intro a s Z H D I h;refine wpAny_Assign_stores (Ob (m a s Z H _ I h) fun v d ⟨x,i,c,k,o⟩=>?_) j n;rw[f];exact Ob (l a d Z i x v _ c k o) fun _ p q=>q
def O2 (m:X.N.Nodup) (c:X.N[i]?=some x) (g:Loc X.env.scope x) (l:PE X e te) (j:swapsWith e (some (.Name x a)) pos.line X.env=pure false:=by rfl) (n:X.fn x=true\/X.env.scope.names.lookup x=some .local:=by first | exact .inl rfl | exact .inr rfl | assumption):
  PS X (.Assign [.Name x a] e pos) (T9 te (Lw i)):=by
 intro b s Z H D I h;refine wpAny_Assign_Name (Ob (l b s Z H _ I h) fun v q ⟨y,f,d,k,p⟩=>?_) j;exact rH d m c g k (fun r o=>⟨_,f,o,p⟩) n
def O4 (c:TT) (tb:TS):TS:=fun D Z H=>∃W:Nat->St->Hp->Prop,(∃m,W m Z H)/\∀m Z H,W m Z H ->
 c Z H fun b d=>if b=true then ∃N:St->Hp->Prop,(∀e H',N e H'->∃a,a<m/\W a e H')/\tb { D with nx:=N,ct:=N,bk:=D.nx} Z d else D.nx Z d
def Bh (r:PassesOwn (model X.prog X.w) X.A X.env X.xe) (E:PT X c y) (K:PSs X d tb):PS X (.While c d [] pos) (O4 y tb):=by
 intro a s Z H D I h;obtain⟨W,⟨G,C⟩,g⟩:=h;refine wpAny_While (codeAny_whileLoop (fun n s'=>∃B H',Inv X a B H' s'/\W n B H') ?_ G ⟨Z,H,I,C⟩);rintro n J ⟨i,t,F,L⟩;refine aa1 r (Ob (E a J i t _ F (g n i t L)) fun b M ⟨x,z,k⟩=>?_);cases b with
 |true =>
  obtain⟨N,u,k⟩:=k;rw[if_pos rfl];refine aa1 r (Ob (K a M i x _ z k) fun f O j=>?_);cases f with
  |next=>obtain⟨e,H3,q,p⟩:=j;obtain⟨m,o,l⟩:=u e H3 p;exact⟨m,o,e,H3,q,l⟩
  |cont=>obtain⟨e,H3,q,p⟩:=j;obtain⟨m,o,l⟩:=u e H3 p;exact⟨m,o,e,H3,q,l⟩
  |brk=>exact j
  |ret v=>exact j
 |false =>
 rw[if_neg G_];exact abD ⟨i,x,z,k⟩
end
structure It where
 go:Nat->Hp->Prop
 yld:Nat->Hp->V->Hp->Prop
 stop:Nat->Hp->Prop
def my (X:Cx) (a:List (Addr × Obj)) (H:Hp) (b:Addr):Prop :=
 H b=none/\b≠X.env.locals/\b∉X.fs/\(b∈X.ex\/X.s₀.heap.objs.size<=b)/\(∀x c,X.env.cells.lookup x=some c->c≠b)/\∀p∈X.pn++a,p.1≠b
def Inv.fpOk {Z:St}{b:Addr} (I:Inv X a Z H s) (d:s.heap.objs.size<=b) (f:H' b=none):my X a H' b:=by
 refine⟨f,Zd (M_ I.lt d),I.nofs d,.inr (R_ I.sz d),fun x c e z=>?_,fun p g z=>?_⟩
 ·obtain⟨v,q⟩:=I.cell x c e;exact absurd (M_ q.lt (by rw[z];exact d)) (Zr _)
 exact absurd (M_ (o_ (I.pin p g).1) (by rw[z];exact d)) (Zr _)
structure Turn (P:Program) (w:World) (K:Frag) (tg:Expr) (J:It) (fp:List Addr) (it:Addr) (tn:Nat->Heap->Prop):Prop where
 mem:it∈fp
 obj:∀i h,tn i h->∀b∈fp,∃o,h.get? b=some o/\∀v,o.data≠.cell v
 keep:∀i h h',tn i h->(∀b∈fp,∀o,h.get? b=some o->h'.get? b=some o)->tn i h'
 item:∀(X:Cx),X.prog=P->X.w=w->X.K=K->X.calm=true->∀(i:Nat) (pins:List (Addr × Obj)) (s:Shared) (Z:St) (H:Hp) (E:Value->Shared->Prop),Inv X pins Z H s->(∀b∈fp,my X pins H b)->tn i s.heap->J.go i H ->
  wpAny (model P w) X.A (pyNext (.ref it)) (fun r s1=>∃u,r=some u /\
   wpAny (model P w) X.A (letOwnedTupleGo tg (.ref it) u) (fun _ s2=>∃x H',Inv X pins Z H' s2/\RelV x u/\J.yld i H x H'/\tn (i+1) s2.heap/\∀b∈fp,H' b=none) E s1) E s
 done:∀(X:Cx),X.prog=P->X.w=w->X.K=K->X.calm=true->∀(i:Nat) (pins:List (Addr × Obj)) (s:Shared) (Z:St) (H:Hp) (E:Value->Shared->Prop),Inv X pins Z H s->(∀b∈fp,my X pins H b)->tn i s.heap->J.stop i H ->
  wpAny (model P w) X.A (pyNext (.ref it)) (fun r s1=>r=none/\Inv X pins Z H s1) E s
 self:∀(A:Around) (i:Nat) (s:Shared) (Q:Value->Shared->Prop) (E:Value->Shared->Prop),tn i s.heap->Q (.ref it) s->wpAny (model P w) A (pyIter (.ref it)) Q E s
abbrev TI:=St->Hp->(It->Hp->Prop)->Prop
def PIE (X:Cx) (a:List (Addr × Obj)) (Z:St) (g:Expr) (R:It->Hp->Prop) (c:Value) (d:Shared):Prop :=
 ∃(it:Addr) (f:List Addr) (e:Nat->Heap->Prop) (J:It) (H':Hp),c=.ref it/\Inv X a Z H' d/\Turn X.prog X.w X.K g J f it e/\e 0 d.heap/\(∀b∈f,my X a H' b)/\R J H'
def PI (X:Cx) (c b:Expr) (d:TI):Prop :=
 ∀(a:List (Addr × Obj)) (s:Shared) (Z:St) (H:Hp) (R:It->Hp->Prop),Inv X a Z H s->d Z H R ->
  wpAny (model X.prog X.w) X.A (eval b X.env) (fun v e=>wpAny (model X.prog X.w) X.A (pyIter v) (PIE X a Z c R) X.xe e) X.xe s
def xP (c:s.heap.get? it=some o) (f:o.cls=.type n) (d:o.data=.fields vs) (e:["enumerate","zip","dict_itemiterator","dict_reverseitemiterator","odict_iterator","itertools.zip_longest","itertools.pairwise"].contains n=false) (a:Q () s):wpAny M A (letOwnedTupleGo b (.ref it) u) Q E s:=by
 unfold letOwnedTupleGo;cases b <;> first
  |exact k_ a
  | (cases u <;> first
    |exact k_ a
    | (refine a_ (wpAny_load c ?_)
       rw[f,d]
       show wpAny M A (if (["enumerate","zip","dict_itemiterator","dict_reverseitemiterator","odict_iterator","itertools.zip_longest","itertools.pairwise"].contains n&&vs[0]?==some (rawInt _))=true then _ else _) Q E s
       rw[if_neg (by intro h;rw[e,abK] at h;cases h)]
       exact k_ a))
def Itl (K:Frag) (a:Addr):It :=
 ⟨fun i H=>∃xs x,SqL K H a xs/\xs[i]?=some x,fun i H x H'=>H'=H/\∀xs,SqL K H a xs->xs[i]?=some x,fun i H=>∃xs,SqL K H a xs/\xs.length<=i⟩
def Itt (K:Frag) (a:Addr):It :=
 ⟨fun i H=>∃xs x,SqT K H a xs/\xs[i]?=some x,fun i H x H'=>H'=H/\∀xs,SqT K H a xs->xs[i]?=some x,fun i H=>∃xs,SqT K H a xs/\xs.length<=i⟩
def Itr (a:Int) (n:Nat):It:=⟨fun i _=>i<n,fun i H x H'=>H'=H/\x=.int (a+i),fun i _=>n<=i⟩
def zB {K:Frag} (a it:Addr):Turn P w K S (Itl K a) [it] it (fun i h=>h.IsListIter it a i) where
 mem:=by simp
 obj:=fun i h st b g=>by
  have e:b=it:=by simpa using g
  subst e
  obtain⟨o,e,c,d⟩:=st
  exact⟨o,e,fun v z=>by rw[d] at z;cases z⟩
 keep:=fun i h h' st k=>st.at fun o e=>k it (by simp) o e
 item:=by
  intro X J D A L i f s Z H E I m st B
  subst J D A
  obtain⟨xs,x,l,F⟩:=B
  obtain⟨q,r,p,U⟩:=I.list l
  obtain⟨u,T,M⟩:=r.get F
  obtain⟨C,G,R,n,y,t⟩:=m it (by simp)
  refine wpAny_pyNext_list_item st p.isList (x:=u) (by simpa using T) fun h' j Q=>?_
  have O:Inv X f Z H { s with heap:=h'}:=I.turned (t':=s.toks) (fun b o g e=>(Q.2 b g).trans e) C G n y t
  obtain⟨o,e,c,d⟩:=id j
  exact⟨u,rfl,xP (s:={ s with heap:=h'}) e c d (by decide) ⟨x,H,O,M,⟨rfl,fun Y V=>by rw[I.list_inj V l];exact F⟩,j,fun b g=>(m b g).1⟩⟩
 done:=by
  intro X J D A L i f s Z H E I m st B
  subst J D A
  obtain⟨xs,l,F⟩:=B
  obtain⟨q,r,p,U⟩:=I.list l
  obtain⟨C,G,R,n,y,t⟩:=m it (by simp)
  have W:=r.length
  exact wpAny_pyNext_list_end (I.ok.hd L) st p.isList (by simp;omega) fun h' N=>⟨rfl,I.turned (t':=s.toks) (fun b o g e=>N b o g e) C G n y t⟩
 self:=fun _ _ _ _ _ st h=>wpAny_pyIter_listiter st h
def vh {K:Frag} (a it:Addr):Turn P w K S (Itt K a) [it] it (fun i h=>h.IsTupleIter it a i) where
 mem:=by simp
 obj:=fun i h st b j=>by
  have e:b=it:=by simpa using j
  subst e
  obtain⟨o,e,c,d⟩:=st
  exact⟨o,e,fun v z=>by rw[d] at z;cases z⟩
 keep:=fun i h h' st k=>st.at fun o e=>k it (by simp) o e
 item:=by
  intro X J D A L i f s Z H E I n st B
  subst J D A
  obtain⟨xs,x,m,F⟩:=B
  obtain⟨g,r,p,U⟩:=I.tuple m
  obtain⟨u,T,M⟩:=r.get F
  obtain⟨C,G,R,q,y,t⟩:=n it (by simp)
  refine wpAny_pyNext_tuple_item st (show s.heap.IsTuple a g.toArray from p) (x:=u) (by simpa using T) fun h' l Q=>?_
  have O:Inv X f Z H { s with heap:=h'}:=I.turned (t':=s.toks) (fun b o j e=>(Q.2 b j).trans e) C G q y t
  obtain⟨o,e,c,d⟩:=id l
  exact⟨u,rfl,xP (s:={ s with heap:=h'}) e c d (by decide) ⟨x,H,O,M,⟨rfl,fun Y V=>by rw[I.tuple_inj V m];exact F⟩,l,fun b j=>(n b j).1⟩⟩
 done:=by
  intro X J D A L i f s Z H E I n st B
  subst J D A
  obtain⟨xs,m,F⟩:=B
  obtain⟨g,r,p,U⟩:=I.tuple m
  obtain⟨C,G,R,q,y,t⟩:=n it (by simp)
  have W:=r.length
  exact wpAny_pyNext_tuple_end (I.ok.hd L) st (show s.heap.IsTuple a g.toArray from p) (by simp;omega) fun h' N=>⟨rfl,I.turned (t':=s.toks) (fun b o j e=>N b o j e) C G q y t⟩
 self:=fun _ _ _ _ _ st h=>wpAny_pyIter_tupleiter st h
def vm {K:Frag} (it:Addr) (f:Int) (n:Nat):Turn P w K L (Itr f n) [it] it (fun i h=>IsRangeIter h it (f+(i:Nat)*1) ((n:Int) - (i:Nat)) 1) where
 mem:=by simp
 obj:=fun i h st b c=>by
  have e:b=it:=by simpa using c
  subst e
  exact⟨_,st,fun v z=>by
   have J:Data.fields _=Data.cell v:=z
   cases J⟩
 keep:=fun i h h' st k=>k it (by simp) _ st
 item:=by
  intro X A x q l i a s Z H E I g st r
  subst A x q
  obtain⟨u,y,G,j,p,m⟩:=g it (by simp)
  have W:=Walks.range (prog:=X.prog) (w:=X.w) (I.ok.hd l) it f 1 n
  refine W.item i s _ _ r st fun v h' tk F d D=>?_
  obtain⟨t,rfl⟩:=F
  have C:Inv X a Z H { s with heap:=h',toks:=tk}:=I.turned (fun b o c e=>D b o (by simpa using c) e) u y j p m
  refine⟨_,rfl,xP (s:={ s with heap:=h',toks:=tk}) (n:="range_iterator") d rfl rfl (by decide) ⟨.int (f+i),H,C,⟨t,?_⟩,⟨rfl,rfl⟩,d,fun b c=>(g b c).1⟩⟩
  rw[Int.mul_one]
 done:=by
  intro X A x q l i a s Z H E I g st r
  subst A x q
  obtain⟨u,y,G,j,p,m⟩:=g it (by simp)
  exact wpAny_pyNext_range_end (I.ok.hd l) st (by have:n<=i:=r;omega) fun h' B=>⟨rfl,I.turned (t':=s.toks) (fun b o c e=>B b o c e) u y j p m⟩
 self:=fun _ _ _ _ _ st h=>wpAny_pyIter_rangeiter st h
section
variable {X:Cx}{tg:Expr}
def Ua (K:Frag) (c:TE):TI:=fun Z H R=>c Z H fun x b=>∃a,x=.ref a/\(∃xs,SqL K b a xs)/\R (Itl K a) b
def Yc (K:Frag) (c:TE):TI:=fun Z H R=>c Z H fun x b=>∃a,x=.ref a/\(∃xs,SqT K b a xs)/\R (Itt K a) b
def HN (r:PE X l g):PI X tg l (Ua X.K g):=by
 intro c s Z H R I h;refine Ob (r c s Z H _ I h) fun v f ⟨x,k,d,m,t⟩=>?_;obtain⟨a,e,⟨xs,j⟩,q⟩:=t;subst e;cases m;obtain⟨i,u,p,w⟩:=d.list j;refine wpAny_pyIter_list p.isList ?_;refine⟨f.heap.objs.size,[f.heap.objs.size],_,_,k,rfl,d.kept (t':=f.toks) fun b o e=>b_ _ e,zB a _,⟨_,t_ _ rfl,rfl,rfl⟩,fun b n=>?_,q⟩;have e:b=f.heap.objs.size:=by simpa using n
 subst e;exact d.fpOk (m_ _) (d.hok.fresh (m_ _))
def O5 (r:PE X l i):PI X tg l (Yc X.K i):=by
 intro c s Z H R I h;refine Ob (r c s Z H _ I h) fun v d ⟨x,k,f,m,t⟩=>?_;obtain⟨a,e,⟨xs,j⟩,q⟩:=t;subst e;cases m;obtain⟨g,u,p,w⟩:=f.tuple j;refine abj (show d.heap.IsTuple a g.toArray from p) ?_;refine⟨d.heap.objs.size,[d.heap.objs.size],_,_,k,rfl,f.kept (t':=d.toks) fun b o e=>b_ _ e,vh a _,⟨_,t_ _ rfl,rfl,rfl⟩,fun b n=>?_,q⟩;have e:b=d.heap.objs.size:=by simpa using n
 subst e;exact f.fpOk (m_ _) (f.hok.fresh (m_ _))
def rK {Z:St} (I:Inv X d Z H s) (k : -(2^62)<=a) (h:a<2^62) (i : -(2^62)<=c) (j:c<2^62) (q:R (Itr a (c - a).toNat) H):wpAny (model X.prog X.w) X.A (pyIter (.ref s.heap.objs.size)) (PIE X d Z tg R) E { s with heap:=s.heap.push { cls:=.type "range",data:=.fields #[.int a t,.int c u,.int 1 v]},toks:=tk}:=by
 refine wpAny_pyIter_range (IsRange.new ..) (small_one k h i j) ?_;have f:Inv X d Z H { s with heap:=s.heap.push { cls:=.type "range",data:=.fields #[.int a t,.int c u,.int 1 v]},toks:=tk}:=I.kept fun b o e=>b_ _ e;refine⟨(s.heap.push { cls:=.type "range",data:=.fields #[.int a t,.int c u,.int 1 v]}).objs.size,[(s.heap.push { cls:=.type "range",data:=.fields #[.int a t,.int c u,.int 1 v]}).objs.size],_,_,H,rfl,
  f.kept (t':=tk) fun b o e=>b_ _ e,vm _ a (c - a).toNat,?_,fun b l=>?_,q⟩
 ·have m:a+((0:Nat):Int)*1=a:=by simp
  have g:(((c - a).toNat:Nat):Int) - ((0:Nat):Int)=Builtin.Range.rangeSize a c 1:=by rw[rangeSize_one];split <;> omega
  show IsRangeIter _ _ (a+((0:Nat):Int)*1) ((((c - a).toNat:Nat):Int) - ((0:Nat):Int)) 1;rw[m,g];exact t_ _ rfl
 have e:b=(s.heap.push { cls:=.type "range",data:=.fields #[.int a t,.int c u,.int 1 v]}).objs.size:=by simpa using l
 subst e;exact f.fpOk (m_ _) (f.hok.fresh (m_ _))
def Ub (b:TA):TI:=fun Z H R=>b Z H fun vs a=>∃j:Int,vs=[.int j] /\ -(2^62)<=j/\j<2^62/\R (Itr 0 j.toNat) a
def Uc (b:TA):TI:=fun Z H R=>b Z H fun vs a=>∃i j:Int,vs=[.int i,.int j]/\(-(2^62)<=i/\i<2^62 /\ -(2^62)<=j/\j<2^62)/\R (Itr i (j - i).toNat) a
def zE (o:Gl X "range") (l:X.mg "range"=none) (k:PA X [a] f) (m:starEach [a] X.env=[(false,eval a X.env)]:=by rfl):PI X tg (.Call (.Name "range" p) [a] [] b) (Ub f):=by
 intro c s Z H R I h;refine Call_ (fX I o l boot_range (Zv (Ob (k b c s Z H _ I h) fun us v ⟨vs,w,i,n,d⟩=>?_) m rfl));obtain⟨j,e,d,g,q⟩:=d;subst e;cases n with
 |cons r u =>
 cases u;obtain⟨t,rfl⟩:=r;exact call_range_1 (rK i (by omega) (by omega) d g (by simpa using q))
def zF {p d:Pos} (z:Gl X "range") (w:X.mg "range"=none) (v:PA X [a,b] l) (x:starEach [a,b] X.env=[(false,eval a X.env),(false,eval b X.env)]:=by rfl) (c:starEach [b] X.env=[(false,eval b X.env)]:=by rfl):
  PI X tg (.Call (.Name "range" p) [a,b] [] d) (Uc l):=by
 intro f s Z H R I h;refine Call_ (fX I z w boot_range (Zv (Ob (v d f s Z H _ I h) fun us B ⟨vs,C,u,y,k⟩=>?_) (by rw[x,c]) (by rw[c];rfl)));obtain⟨i,j,e,⟨k,o,m,A⟩,q⟩:=k;subst e;cases y with
 |cons r g =>
 cases g with
 |cons n g =>
 cases g;obtain⟨t,rfl⟩:=r;obtain⟨t',rfl⟩:=n;exact call_range_2 (rK u k o m A q)
def Yd (c:TI) (g:TG) (tb:TS):TS:=fun D Z H=>c Z H fun J e=>∃W:Nat->Nat->St->Hp->Prop,(∃m,W 0 m Z e)/\∀i m Z H,W i m Z H ->
 (J.stop i H/\D.nx Z H)\/(J.go i H/\∃N:St->Hp->Prop,(∀b H',N b H'->∃a,a<m/\W (i+1) a b H')/\∀x H',J.yld i H x H'->g x Z H' fun f d=>tb { D with nx:=N,ct:=N,bk:=D.nx} f d)
def mz (a : List Addr) (h : Heap) : List (Addr × Obj):=a.filterMap fun b => (h.get? b).map fun o => (b,o)
def gH (c : b ∈ a) (e : h.get? b = some o): (b,o) ∈ mz a h:=List.mem_filterMap.mpr ⟨b,c,by rw [e]; rfl⟩
def zG (c:p∈mz a h):p.1∈a/\h.get? p.1=some p.2:=by
 obtain ⟨b,d,e⟩:=List.mem_filterMap.mp c;cases q : h.get? b with
 |none=>rw[q] at e;cases e
 |some o =>
 rw[q] at e;have f:(b,o)=p:=F_ e;subst f;exact⟨d,q⟩
def Inv.pinned {Z:St} (I:Inv X a Z H s) (m:∀b∈c,my X a H b) (i:∀b∈c,∃o,s.heap.get? b=some o/\∀v,o.data≠.cell v):Inv X (a++mz c s.heap) Z H s :=
 I.pins_of fun p h=>(u_.mp h).elim (fun z=>I.pin p (V_ _ z)) fun z=>by
  obtain⟨g,e⟩:=zG z;obtain⟨k,l,j,_⟩:=m p.1 g;obtain⟨o,f,d⟩:=i p.1 g;rw[e] at f;cases f;exact⟨e,k,l,j,d⟩
def Inv.unpinned {Z:St} (I:Inv X (a++pl) Z H s):Inv X a Z H s:=I.pins_of fun p b=>I.pin p (V_ _ (U_ _ b))
def O6 (F:PassesOwn (model X.prog X.w) X.A X.env X.xe) (hc:X.calm=true) (hi:PI X tg c wi) (hg:PG X tg g) (q:PSs X z tb) (hs:∀x,foldedSetIterable c X.env x=pure x:=by intro _;rfl):PS X (.For tg c z [] S) (Yd wi g tb):=by
 intro a s Z H D I h;refine wpAny_For (Ob (hi a s Z H _ I h) fun v s1 h1=>Ob h1 fun itv s2 h2=>?_) hs;obtain⟨it,E,tn,J,H2,e,I2,T,st2,f2,W,⟨m0,w0⟩,M⟩:=h2;subst e
 have p:∀{H':Hp},(∀b∈E,H' b=none)->∀b∈E,my X a H' b:=fun hn b q=>⟨hn b q,(f2 b q).2⟩;refine codeAny_forLoop_any (fun n s'=>∃i P H',Inv X a P H' s'/\tn i s'.heap/\(∀b∈E,H' b=none)/\W i n P H') ?_ m0 ⟨0,Z,H2,I2,st2,fun b q=>(f2 b q).1,w0⟩;rintro n s3 ⟨i,K,H3,I3,G,Q,w3⟩;rcases M i n K H3 w3 with ⟨O,qn⟩ | ⟨go,N,hN,C⟩
 ·refine aa1 F (Ob (T.done X rfl rfl rfl hc i a s3 K H3 X.xe I3 (p Q) G O) fun r s4 ⟨U,I4⟩=>?_);subst U;exact abD ⟨K,H3,I4,qn⟩
 refine aa1 F (Ob (T.item X rfl rfl rfl hc i a s3 K H3 X.xe I3 (p Q) G go) fun r s4 ⟨u,U,h4⟩=>?_);subst U;refine aa1 F (Ob h4 fun _ s5 ⟨x,H5,I5,r5,y5,B,R⟩=>?_);have V:=I5.pinned (p R) (T.obj _ _ B);refine aa1 F (Ob (hg _ s5 K H5 x u _ V r5 (C x H5 y5)) fun _ s6 ⟨Z6,H6,I6,q6⟩=>?_);refine aa1 F (Ob (q _ s6 Z6 H6 _ I6 q6) fun f Y y=>?_);have t:∀{l:St} {j:Hp},Inv X (a++mz E s5.heap) l j Y->N l j->∃m,m<n/\∃i P H',Inv X a P H' Y/\tn i Y.heap/\(∀b∈E,H' b=none)/\W i m P H':=fun {l j} k L=>by obtain⟨m',hm,w7⟩:=hN l j L;refine⟨m',hm,i+1,l,j,k.unpinned,T.keep _ _ _ B fun b q o e=>(k.pin (b,o) (V_ _ (V_ _ (gH q e)))).1,fun b q=>?_,w7⟩;obtain⟨o,e,d⟩:=T.obj _ _ B b q;exact (k.pin (b,o) (V_ _ (V_ _ (gH q e)))).2.1
 cases f with
 |next=>obtain⟨l,j,k,L⟩:=y;exact t k L
 |cont=>obtain⟨l,j,k,L⟩:=y;exact t k L
 |brk=>obtain⟨l,j,k,y⟩:=y;exact⟨l,j,k.unpinned,y⟩
 |ret v=>obtain⟨x7,l,j,k,r7,y⟩:=y;exact⟨x7,l,j,k.unpinned,r7,y⟩
end
abbrev R2:=V->V->Hp->VK->Prop
def OpR (X:Cx) (f:Value->Value->Sem Value) (r:R2):Prop :=
 ∀(a:List (Addr × Obj)) (s:Shared) (Z:St) (H:Hp) (x y:V) (v u:Value) (Q:VK),Inv X a Z H s->RelV x v->RelV y u->r x y H Q ->
  wpAny (model X.prog X.w) X.A (f v u) (EP X a Z Q) X.xe s
def UnR (X:Cx) (f:Value->Sem Value) (r:V->Hp->VK->Prop):Prop :=
 ∀(a:List (Addr × Obj)) (s:Shared) (Z:St) (H:Hp) (x:V) (v:Value) (Q:VK),Inv X a Z H s->RelV x v->r x H Q ->
  wpAny (model X.prog X.w) X.A (f v) (EP X a Z Q) X.xe s
def ab1 (X:Cx) (f:Value) (r:List V->Hp->VK->Prop):Prop :=
 ∀(a:List (Addr × Obj)) (s:Shared) (Z:St) (H:Hp) (xs:List V) (us:List Value) (Q:VK),Inv X a Z H s->Vals xs us->r xs H Q ->
  wpAny (model X.prog X.w) X.A (call f us) (EP X a Z Q) X.xe s
def tOp (r:R2) (c tb:TE):TE:=fun Z H Q=>c Z H fun x b=>tb Z b fun y a=>r x y a Q
def tUn (r:V->Hp->VK->Prop) (b:TE):TE:=fun Z H Q=>b Z H fun x a=>r x a Q
def rI (C:Int->Int->Prop) (g:Int->Int->V):R2:=fun x y H Q=>∃i j,x=.int i/\y=.int j/\C i j/\Q (g i j) H
def rI0 (g:Int->Int->V):R2:=fun x y H Q=>∃i j,x=.int i/\y=.int j/\Q (g i j) H
def rU (g:Int->V):V->Hp->VK->Prop:=fun x H Q=>∃i,x=.int i/\Q (g i) H
section
variable {X:Cx}{a b c:Expr}
def O7 (t:PE X a ta) (q:PE X b tb) {c:List (Addr × Obj)}{Z:St}{R:V->V->Hp->Prop} (I:Inv X c Z H s) (h:ta Z H fun x j=>tb Z j fun y d=>R x y d) {f:Value->Value->Sem Value} (r:∀v u i x y d,Inv X c Z d i->RelV x v->RelV y u->R x y d->wpAny (model X.prog X.w) X.A (f v u) Q X.xe i):
  wpAny (model X.prog X.w) X.A (eval a X.env) (fun v e=>wpAny (model X.prog X.w) X.A (eval b X.env) (fun u g=>wpAny (model X.prog X.w) X.A (f v u) Q X.xe g) X.xe e) X.xe s:=by
 refine Ob (t c s Z H _ I h) fun v o ⟨x,j,l,p,n⟩=>?_;refine Ob (q c o Z j _ l n) fun u i ⟨y,d,z,m,k⟩=>?_;exact r v u i x y d z p m k
def Ud (e:OpR X (binaryOp d) r) (l:PE X a ta) (j:PE X b tb):PE X (.BinOp a d b pos) (tOp r ta tb):=by
 intro c s Z H Q I h;exact wpAny_BinOp (O7 l j I h fun v u g x y f m i k q=>e c g Z f x y v u Q m i k q)
def Ue {c:UnaryOp} (d:UnR X (unaryOp c) r) (j:PE X a ta):PE X (.UnaryOp c a pos) (tUn r ta):=by
 intro b s Z H Q I h;exact UnaryOp_ (Ob (j b s Z H _ I h) fun v f ⟨x,g,e,i,k⟩=>d b f Z g x v Q e i k)
def opI {g:Int->Int->Int} (a:∀(i j:Int) (t u:Tok) (s:Shared) (Q:Value->Shared->Prop) (E:Value->Shared->Prop),C i j->Q (.int (g i j) s.toks) { s with toks:=s.toks+1}->wpAny (model X.prog X.w) X.A (f (.int i t) (.int j u)) Q E s):
  OpR X f (rI C fun i j=>.int (g i j)):=by
 intro b s Z H x y v u Q I c e h;obtain⟨i,j,rfl,rfl,d,q⟩:=h;obtain⟨t,rfl⟩:=c;obtain⟨t',rfl⟩:=e;exact a i j t t' s _ _ d ⟨.int (g i j),H,I.tok _,⟨_,rfl⟩,q⟩
def HQ {g:Int->Int->Int} (a:∀(i j:Int) (t u:Tok) (s:Shared) (Q:Value->Shared->Prop) (E:Value->Shared->Prop),Q (.int (g i j) s.toks) { s with toks:=s.toks+1}->wpAny (model X.prog X.w) X.A (f (.int i t) (.int j u)) Q E s):
  OpR X f (rI0 fun i j=>.int (g i j)):=by
 intro b s Z H x y v u Q I c d h;obtain⟨i,j,rfl,rfl,q⟩:=h;obtain⟨t,rfl⟩:=c;obtain⟨t',rfl⟩:=d;exact a i j t t' s _ _ ⟨.int (g i j),H,I.tok _,⟨_,rfl⟩,q⟩
def O8 {g:Int->Int->Bool} (a:∀(i j:Int) (t u:Tok) (s:Shared) (Q:Value->Shared->Prop) (E:Value->Shared->Prop),Q (.bool (g i j)) s->wpAny (model X.prog X.w) X.A (f (.int i t) (.int j u)) Q E s):
  OpR X f (rI0 fun i j=>.bl (g i j)):=by
 intro b s Z H x y v u Q I c d h;obtain⟨i,j,rfl,rfl,q⟩:=h;obtain⟨t,rfl⟩:=c;obtain⟨t',rfl⟩:=d;exact a i j t t' s _ _ ⟨.bl (g i j),H,I,rfl,q⟩
def Ug (i j:Int):Prop:=0<=j/\j<=1000000/\i.natAbs<2^64
def ad0 (i j:Int):Prop:=(-(2^64)<i/\i<2^64)\/(-(2^64)<j/\j<2^64)
def ad0.ok (h:ad0 i j):IntMulOk i j:=by
 rcases h with ⟨a,b⟩ | ⟨a,b⟩
 ·exact .of_left (intBits_le_64 a b)
 exact .of_right (intBits_le_64 a b)
def afI:OpR X (binaryOp .Add) (rI0 fun i j=>.int (i+j)):=HQ fun _ _ _ _ _ _ _ q=>add_int q
def O9:OpR X (binaryOp .Sub) (rI0 fun i j=>.int (i - j)):=HQ fun _ _ _ _ _ _ _ q=>sub_int q
def Pa:OpR X (binaryOp .Mult) (rI ad0 fun i j=>.int (i*j)):=opI fun _ _ _ _ _ _ _ a q=>mul_int q a.ok
def Pb:OpR X (binaryOp .Mod) (rI (fun _ j=>0<j) fun i j=>.int (i%j)):=opI fun i j _ _ _ _ _ a q=>by
 have b:(0:Int)<j:=a;exact mod_int' (by omega) (by rw[Int.fmod_eq_emod_of_nonneg i (by omega)];exact q)
def Pg:OpR X (binaryOp .Pow) (rI Ug fun i j=>.int (i^j.toNat)):=opI fun _ _ _ _ _ _ _ a q=>pow_int_small a.1 a.2.1 a.2.2 q
def Ph:OpR X (binaryOp .BitAnd) (rI0 fun i j=>.int (Builtin.bitAnd i j)):=HQ fun _ _ _ _ _ _ _ q=>and_int q
def Uh:OpR X (binaryOp .BitOr) (rI0 fun i j=>.int (Builtin.bitOr i j)):=HQ fun _ _ _ _ _ _ _ q=>or_int q
def unI {g:Int->Int} (a:∀(i:Int) (t:Tok) (s:Shared) (Q:Value->Shared->Prop) (E:Value->Shared->Prop),Q (.int (g i) s.toks) { s with toks:=s.toks+1}->wpAny (model X.prog X.w) X.A (f (.int i t)) Q E s):
  UnR X f (rU fun i=>.int (g i)):=by
 intro b s Z H x v Q I c h;obtain⟨i,rfl,q⟩:=h;obtain⟨t,rfl⟩:=c;exact a i t s _ _ ⟨.int (g i),H,I.tok _,⟨_,rfl⟩,q⟩
def Pj:UnR X (unaryOp .USub) (rU fun i=>.int (-i)):=unI fun _ _ _ _ _ q=>neg_int q
end
def mC:V->V->Bool
 |.non,.non=>true | .non,.int _=>true | .int _,.non=>true | .non,.bl _=>true | .bl _,.non=>true | .non,.str _=>true | .str _,.non=>true
 |.int _,.int _=>true | .bl _,.bl _=>true | .str _,.str _=>true | .byt _,.byt _=>true
 |.int _,.str _=>true | .str _,.int _=>true | .bl _,.str _=>true | .str _,.bl _=>true
 |_,_=>false
section
variable {X:Cx}{a b c:Expr}
def vo {a:List (Addr × Obj)}{Z:St}{k b:Bool} (I:Inv X a Z H s) (q:Q (.bl k) H) (e:k=b):EP X a Z Q (.bool b) s:=by
 subst e;exact⟨.bl k,H,I,rfl,q⟩
def Ui:OpR X (compareOp .LtE) (rI0 fun i j=>.bl (decide (i<=j))):=O8 fun _ _ _ _ _ _ _ q=>le_int q
def Uj:OpR X (compareOp .Gt) (rI0 fun i j=>.bl (decide (j<i))):=O8 fun _ _ _ _ _ _ _ q=>gt_int q
def Uk:OpR X (compareOp .GtE) (rI0 fun i j=>.bl (decide (j<=i))):=O8 fun _ _ _ _ _ _ _ q=>ge_int q
def zH:OpR X (compareOp .In) (fun x y H Q=>∃i j,x=.str i/\y=.str j/\Q (.bl (!(Builtin.Str.occurrences j i 0 j.length 1).isEmpty)) H):=by
 intro a s Z H x y v u Q I b c h;obtain⟨i,j,rfl,rfl,q⟩:=h;obtain⟨t,rfl⟩:=b;obtain⟨t',rfl⟩:=c;exact in_str (vo I q rfl)
def HR:OpR X (compareOp .IsNot) (fun x y H Q=>y=.non/\Q (.bl (!decide (x=.non))) H):=by
 intro a s Z H x y v u Q I b c h;obtain⟨rfl,q⟩:=h;cases c;refine isnot_none_gen (vo I q ?_);cases x <;> first
  | (cases b;rfl)
  | (obtain⟨t,rfl⟩:=b;rfl)
def p7:OpR X (compareOp .NotIn) (fun x y H Q=>∃i j,x=.str i/\y=.str j/\Q (.bl (!(!(Builtin.Str.occurrences j i 0 j.length 1).isEmpty))) H):=by
 intro a s Z H x y v u Q I b c h;obtain⟨i,j,rfl,rfl,q⟩:=h;obtain⟨t,rfl⟩:=b;obtain⟨t',rfl⟩:=c;exact notIn_str (vo I q rfl)
def OpR.or {r b:R2} (h:OpR X f r) (h':OpR X f b):OpR X f (fun x y H Q=>r x y H Q\/b x y H Q):=by
 intro a s Z H x y v u Q I c d q;rcases q with q | q
 ·exact h a s Z H x y v u Q I c d q
 exact h' a s Z H x y v u Q I c d q
def Bj (b:Expr) {a:CmpOp}(h:a≠.In:=by decide) (e:a≠.NotIn:=by decide):behindInMarks a b=false:=by
 have c:(a==CmpOp.In)=false:=by cases a <;> first | rfl | exact absurd rfl h
 have d:(a==CmpOp.NotIn)=false:=by cases a <;> first | rfl | exact absurd rfl e
 cases b <;> simp [behindInMarks,c,d]
def HS (e:OpR X (compareOp d) r) (m:PE X a ta) (k:PE X b tb) (g:behindInMarks d b=false):PE X (.Compare a [d] [b] pos) (tOp r ta tb):=by
 intro c s Z H Q I h;exact wpAny_Compare1 (O7 m k I h fun v u i x y f n j l q=>e c i Z f x y v u Q n j l q) g
def Ul (t:TE):TT:=fun Z H Q=>t Z H fun x H'=>∃k,x=.bl k/\Q k H'
def HW (g:OpR X (compareOp f) r) (E:PE X a ta) (p:PE X b tb) (m:behindInMarks f b=false):PT X (.Compare a [f] [b] pos) (Ul (tOp r ta tb)):=by
 intro d s Z H Q I h;refine wpAny_isTrue_Compare1 (Ob (E d s Z H _ I h) fun v n ⟨x,j,i,o,F⟩=>Ob (p d n Z j _ i F) fun u C ⟨y,l,q,A,w⟩ =>
  Ob (g d C Z l x y v u _ q o A w) fun c G ⟨z,H3,D,B,k,e,t⟩=>?_) m
 subst e;cases B;exact aaM ⟨H3,D,t⟩
def jX:(sizeLine:Nat)<2^63:=by rw[abh];decide
def adK:OpR X (binaryOp .Add) (fun x y H Q=>∃i j,x=.str i/\y=.str j/\i.length+j.length<=sizeLine/\Q (.str (i++j)) H):=by
 intro a s Z H x y v u Q I b d h;obtain⟨i,j,rfl,rfl,c,q⟩:=h;obtain⟨t,rfl⟩:=b;obtain⟨t',rfl⟩:=d;exact add_str (fun t' tk=>⟨.str (i++j),H,I.tok _,⟨_,rfl⟩,q⟩) c
def vals1 (r:Vals [x] us):∃u,us=[u]/\RelV x u:=by
 cases r with
 |cons b a=>cases a;exact⟨_,rfl,b⟩
def vals2 (r:Vals [x,y] us):∃u a,us=[u,a]/\RelV x u/\RelV y a:=by
 cases r with
 |cons e b =>
 cases b with
 |cons c d=>cases d;exact⟨_,_,rfl,e,c⟩
def zJ:ab1 X (.type "int") (fun xs H Q=>(∃i,xs=[.int i]/\Q (.int i) H)\/∃k,xs=[.bl k]/\Q (.int (if k then 1 else 0)) H):=by
 intro a s Z H xs us Q I r h;rcases h with ⟨i,rfl,q⟩ | ⟨k,rfl,q⟩
 ·obtain⟨u,rfl,t,rfl⟩:=vals1 r;exact call_int_int ⟨.int i,H,I,⟨_,rfl⟩,q⟩
 obtain⟨u,rfl,b⟩:=vals1 r;cases b;exact call_int_bool ⟨.int (if k then 1 else 0),H,I.tok _,⟨_,rfl⟩,q⟩
end
structure adD (h:Heap) (x dx C:Addr) (mA:Str->Option Value):Prop where
 obj:h.get? x=some (instObj C dx)
 ns:h.Ns1 dx mA
 ne:dx≠x
def jY {h:Heap} (n:h.Ns1 d mA):∃od,h.get? d=some od/\∀name,lookIn name od=some (mA name):=by
 obtain⟨o,c,ep,f,j,g,_,k⟩:=n;refine⟨o,f,fun name=>?_⟩;have e:=k name;unfold nsFind findBy at e;rw[<- Array.find?_toList] at e;unfold lookIn;rw[j];dsimp only;split
 ·rename_i y q;rw[q] at e;exact T_ some e
 rename_i q;rw[q] at e;have a:c.toList.any (·.refKey)=false:=by rw[List.any_eq_false];intro y l;obtain⟨z,t,b⟩:=g y (Array.mem_toList_iff.mp l);simp [DictEntry.refKey,b]
 have i:¬c.toList.any (·.refKey)=true:=by rw[a];exact G_
 rw[if_neg i];exact T_ some e
def adD.look (I:adD h x a C mA):∃od,InstAt h x (instObj C a) C (some od)/\∀name,lookIn name od=some (mA name) :=
 let ⟨od,ho,hl⟩:=jY I.ns
 ⟨od,⟨I.obj,rfl,rfl,ho⟩,hl⟩
section
variable {s:Shared}{K:Frag}
def HX (X:K.In s.heap) (I:adD s.heap x dx C mA) (e:plainGet K C name=true) (c:hasDictIn K C=true) (g:findIn K (.ref C) name=some none) (d:mA name=some v) (b:handedIn v=true) (h:Q v { s with toks:=s.toks+1}):
  wpAny (model prog w) A (getAttr (.ref x) name a) Q E s:=by
 obtain⟨od,J,f⟩:=I.look;exact PySem.W.get_value X J (plainGet_of e).1 (findObj_own c g rfl (by rw[f,d])) b h
def Bk (X:K.In s.heap) (I:adD s.heap x dx C mA) (a:plainGet K C name=true) (e:findIn K (.ref C) name=some (some (.ref f))) (c:isFn K (.ref f)=true) (b:mA name=none) (h:Q (.ref f,[.ref x]) s):
  wpAny (model prog w) A (getMethod (.ref x) name pl) Q E s:=by
 obtain⟨od,J,d⟩:=I.look;exact PySem.W.method_fn X J (plainGet_of a).1 (plainGet_of a).2 e (aan.mp c) (by show (lookIn name od).map (·.isSome)=some false;rw[d,b];rfl) h
def HY (X:K.In s.heap) (I:adD s.heap x dx C mA) (l:findIn K (.ref C) "__setattr__"=some (some (.builtin "object.__setattr__"))) (j:plainOver K C=true) (n:takerIn K C name=some none) (k:hasDictIn K C=true) (t:PySem.Within mA ns) (hsz:ns.length<=sizeLine) (h:∀h',adD h' x dx C (fun y=>if y=name then some v else mA y)->Heap.SameBut dx s.heap h'->Q () { s with heap:=h',toks:=s.toks+2}):
  wpAny (model prog w) A (setAttr (.ref x) name v) Q E s:=by
 obtain⟨od,J,z⟩:=I.look;refine set_plain X J l (PySem.W.osa_open (s:={ s with toks:=s.toks+1}) (r:=none) X J j n fun b=>?_);obtain⟨u,m,g⟩:=any_some k;have o:s.heap.get? x=some ⟨.ref C,some dx,.plain,#[]⟩:=I.obj;refine a_ (k_ (a_ (a_ (wpAny_loadPart o (a_ (aah (s:={ s with toks:=s.toks+1}) (looks_clsIn X m) ?_))))));rw[g];refine k_ (a:=some dx) (a_ (k_ (a_ ?_)));refine wpAny_nsSet1 (s:={ s with toks:=s.toks+1}) I.ns fun h' c d=>?_;obtain⟨oD,p,q,i,f,e⟩:=c.count (PySem.Within.cons name v t);refine a_ (wpAny_lookBehind i (by rw[f];exact pastItsLine_dict (R_ e (by rw[j_];omega))) ?_);exact k_ (h _ ⟨(d.2 _ (Ne.symm I.ne)).trans I.obj,c,I.ne⟩ d)
def Bm (X:K.In s.heap) (c:makesIn K C=true) (e:findIn K (.ref C) "__init__"=some (some (.ref f))) (i:typeIn K (.ref f)=some (.type "function")) (h:codeAny (model prog w) (A.under (.builtin "type.__call__" ⟨.ref C::vs,b⟩)) (.call (.ref f) ⟨.ref (s.heap.objs.size+1)::vs,b⟩) (PySem.W.InitBack (s.heap.objs.size+1) R)
   { s with heap:=(s.heap.push emptyDict).push (instObj C s.heap.objs.size)}):
  codeAny (model prog w) A (.call (.ref C) ⟨vs,b⟩) R s:=by
 obtain⟨k,g,d,t,j⟩:=s;exact PySem.W.make_core (PySem.W.makes_of X c) (looks_findIn X e) (fun a=>PySem.W.bind_fn X a i) (.inl rfl) h
end
def dY (f:Str) (v:V):List (Str × V)->List (Str × V)
 |[]=>[(f,v)]
 | (g,x)::r=>if g=f then (g,v)::r else (g,x)::dY f v r
def ie (f g:Str) (v:V):∀fs:List (Str × V),(dY f v fs).lookup g=if g=f then some v else fs.lookup g
 |[]=>by
  show List.lookup g [(f,v)]=_
  by_cases h:g=f
  ·
   have a:(g==f)=true:=aan.mpr h
   simp only[List.lookup,a,if_pos h]
  ·
   have a:(g==f)=false:=Zy.mpr h
   simp only[List.lookup,a,if_neg h]
 | (k,x)::r=>by
  have c:=ie f g v r
  rw[show dY f v ((k,x)::r)=(if k=f then (k,v)::r else (k,x)::dY f v r) from rfl]
  by_cases b:k=f
  ·
   rw[if_pos b]
   by_cases h:g=k
   ·
    have a:(g==k)=true:=aan.mpr h
    simp only[List.lookup,a,if_pos (h.trans b)]
   ·
    have a:(g==k)=false:=Zy.mpr h
    simp only[List.lookup,a,if_neg (fun e:g=f=>h (e.trans b.symm))]
  ·
   rw[if_neg b]
   by_cases h:g=k
   ·
    have a:(g==k)=true:=aan.mpr h
    simp only[List.lookup,a,if_neg (fun e:g=f=>b (h.symm.trans e))]
   ·
    have a:(g==k)=false:=Zy.mpr h
    simp only[List.lookup,a]
    exact c
def gm (f:Str) (v:V):∀fs:List (Str × V),f∈(dY f v fs).map (·.1)/\∀g,g∈fs.map (·.1)->g∈(dY f v fs).map (·.1)
 |[]=>⟨by simp [dY],fun g h=>by simp at h⟩
 | (k,x)::r=>by
  obtain⟨b,c⟩:=gm f v r
  rw[show dY f v ((k,x)::r)=(if k=f then (k,v)::r else (k,x)::dY f v r) from rfl]
  by_cases a:k=f
  ·
   rw[if_pos a]
   subst a
   exact⟨by simp,fun g h=>by simpa using h⟩
  ·
   rw[if_neg a]
   refine⟨?_,fun g h=>?_⟩
   ·
    rw[J_]
    exact q_ _ b
   ·
    rw[J_] at h ⊢
    rcases x_.mp h with e | e
    ·
     exact x_.mpr (.inl e)
    ·
     exact q_ _ (c g e)
def kO (f:Str) (v:V):∀fs:List (Str × V),(dY f v fs).length<=fs.length+1
 |[]=>by simp [dY]
 | (k,x)::r=>by
  have b:=kO f v r
  rw[show dY f v ((k,x)::r)=(if k=f then (k,v)::r else (k,x)::dY f v r) from rfl]
  by_cases a:k=f
  ·
   rw[if_pos a,j_,j_];omega
  ·
   rw[if_neg a,j_,j_];omega
def acl.some_of (r:acl (some v) o):∃u,o=some u/\RelV v u:=by
 cases o with
 |none=>exact (show False from r).elim
 |some u=>exact⟨u,rfl,r⟩
def acl.none_of (r:acl none o):o=none:=by
 cases o with
 |none=>rfl
 |some u=>exact (show False from r).elim
def oK (r:RelV v u):handedIn u=true:=by
 cases v with
 |non=>cases (show u=Value.none from r);rfl
 |bl b=>cases (show u=Value.bool b from r);rfl
 |int i=>obtain⟨t,e⟩:=(show ∃t,u=Value.int i t from r);cases e;rfl
 |str x=>obtain⟨t,e⟩:=(show ∃t,u=Value.str x t from r);cases e;rfl
 |byt b=>obtain⟨t,e⟩:=(show ∃t,u=Value.bytes b t from r);cases e;rfl
 |flt b=>obtain⟨t,e⟩:=(show ∃t,u=Value.float b t from r);cases e;rfl
 |ref a=>cases (show u=Value.ref a from r);rfl
 |ty n=>cases (show u=Value.type n from r);rfl
section
variable {P:Program}{w:World}
def lJ (b:HOk P w H h) (e:H a=some (.ins C dx fs)):∃mA,adD h a dx C mA/\(∀f,acl (fs.lookup f) (mA f))/\PySem.Within mA (fs.map (·.1))/\fs.length<=1000/\H dx=some (.own a):=by
 obtain⟨d,z,g,c,mA,n,r,q⟩:=(show zc P w H h a (.ins C dx fs) from b a _ e);exact⟨mA,⟨c,n,g⟩,r,q,z,d⟩
end
structure Cls (K:Frag) (C:Addr):Prop where
 pg:plainGet K C Str.empty=true
 hd:hasDictIn K C=true
 po:plainOver K C=true
 sa:findIn K (.ref C) "__setattr__"=some (some (.builtin "object.__setattr__"))
def Cls.get {K:Frag} (c:Cls K C) (f:Str):plainGet K C f=true:=c.pg
def acG (K:Frag) (C:Addr) (f:Str):Prop:=findIn K (.ref C) f=some none
def acG.taker {K:Frag} (n:acG K C f):takerIn K C f=some none:=by
 unfold takerIn;rw[show findIn K (.ref C) f=some none from n];rfl
structure Meth (K:Frag) (C:Addr) (m:Str) (f:Addr):Prop where
 at_:findIn K (.ref C) m=some (some (.ref f))
 fn:isFn K (.ref f)=true
 kp:keepIn K (.ref f)=true
section
variable {X:Cx}{pins:List (Addr × Obj)}{Z:St}
def vp (I:Inv X pins Z H s) (e:H a=some (.ins C dx fs)) (c:Cls X.K C) (n:acG X.K C f) (l:fs.lookup f=some v) (h:∀u s',Inv X pins Z H s'->RelV v u->Q u s'):wpAny (model X.prog X.w) A (getAttr (.ref a) f b) Q E s:=by
 obtain⟨mA,O,r,_,_,_⟩:=lJ I.hok e;obtain⟨u,g,d⟩:=acl.some_of (v:=v) (o:=mA f) (by rw[<- l];exact r f);exact HX I.kIn O (c.get f) c.hd n g (oK d) (h u _ (I.tok _) d)
def vz (I:Inv X pins Z H s) (e:H a=some (.ins C dx fs)) (c:Cls X.K C) (k:Meth X.K C m g) (l:fs.lookup m=none) (h:Q (.ref g,[.ref a]) s):wpAny (model X.prog X.w) A (getMethod (.ref a) m pl) Q E s:=by
 obtain⟨mA,O,r,_,_,_⟩:=lJ I.hok e;have b:mA m=none:=acl.none_of (by rw[<- l];exact r m);exact Bk I.kIn O (c.get m) k.at_ k.fn b h
def vA (I:Inv X pins Z H s) (e:H a=some (.ins C dx fs)) (c:Cls X.K C) (n:acG X.K C f) (v:fs.length<1000) (l:RelV y u) (h:∀s',Inv X pins Z (upd H a (.ins C dx (dY f y fs))) s'->Q () s'):wpAny (model X.prog X.w) A (setAttr (.ref a) f u) Q E s:=by
 obtain⟨mA,O,r,i,_,d⟩:=lJ I.hok e;have m:(fs.map (·.1)).length<=sizeLine:=by rw[g_,abh];omega
 refine HY I.kIn O c.sa c.po n.taker c.hd i m fun h' O' k=>h _ ?_;have j:∃o,h'.get? dx=some o:=let ⟨o,_,_,e',_⟩:=O'.ns;⟨o,e'⟩;refine I.write (x:=a) (e:=dx) (by rw[e];exact True.intro) (.inr d) (fun b q p z=>(k.2 b p).trans z) j ?_;refine⟨by rw[aK O.ne];exact d,?_,O.ne,O'.obj,_,O'.ns,fun g=>?_,fun g t=>?_⟩
 ·have:=kO f y fs;omega
 ·show acl ((dY f y fs).lookup g) (if g=f then some u else mA g);rw[ie];by_cases q:g=f
  ·rw[if_pos q,if_pos q];exact l
  rw[if_neg q,if_neg q];exact r g
 by_cases q:g=f
 ·rw[q];exact (gm f y fs).1
 refine (gm f y fs).2 g (i g fun z=>t ?_);show (if g=f then some u else mA g)=none;rw[if_neg q];exact z
def Inv.made (I:Inv X pins Z H s):Inv X pins Z (upd (upd H s.heap.objs.size (.own (s.heap.objs.size+1))) (s.heap.objs.size+1) (.ins C s.heap.objs.size []))
  { s with heap:=(s.heap.push emptyDict).push (instObj C s.heap.objs.size)}:=by
 have d:(s.heap.push emptyDict).get? s.heap.objs.size=some emptyDict:=t_ s.heap rfl;have f:((s.heap.push emptyDict).push (instObj C s.heap.objs.size)).get? (s.heap.objs.size+1)=some (instObj C s.heap.objs.size):=by
  have:=t_ (s.heap.push emptyDict) (o:=instObj C s.heap.objs.size) rfl
  rwa [ZX] at this
 have g:(s.heap.push emptyDict).Ns s.heap.objs.size (fun _=>none):=⟨emptyDict,#[],_,d,rfl,(fun e j=>absurd j (by simp)),fun _=>rfl⟩;have h:=I.laid (a:=s.heap.objs.size) (o:=.own (s.heap.objs.size+1)) (h':=s.heap.push emptyDict) (t':=s.toks) (fun b u q=>b_ _ q) (m_ _) ⟨_,d⟩;refine h.laid (a:=s.heap.objs.size+1) (o:=.ins C s.heap.objs.size []) (t':=s.toks) (fun b u q=>b_ _ q) (abL (ZX _ _)) ?_;have c:s.heap.objs.size≠s.heap.objs.size+1:=K_ (ZZ _);refine⟨by rw[aK c,aY],Zx _,c,f,fun _=>none,(Heap.Ns1.of_empty g).at fun o q=>b_ _ q,fun _=>True.intro,fun y i=>absurd rfl i⟩
def xQ {a:Pos} (b:attributeBase e f env (eval e env)=eval e env) (h:wpAny (model prog w) A (eval e env) (fun o s₁=>wpAny (model prog w) A (getAttr o f true) Q E s₁) E s):wpAny (model prog w) A (eval (.Attribute e f a) env) Q E s :=
 Attribute_any_ h (by rw[arm_eval_Attribute,b])
end
def Ye (K:Frag) (c:TE) (f:Str):TE:=fun Z H Q=>c Z H fun x b=>∃a C d fs v,x=.ref a/\b a=some (.ins C d fs)/\Cls K C/\acG K C f/\fs.lookup f=some v/\Q v b
def Yg (K:Frag) (g e:TE) (f:Str):TS:=fun D Z H=>e Z H fun y d=>g Z d fun x c=>∃a C b fs,x=.ref a/\c a=some (.ins C b fs)/\Cls K C/\acG K C f/\fs.length<1000 /\
 D.nx Z (upd c a (.ins C b (dY f y fs)))
section
variable {X:Cx}{o e value:Expr}
def Pk (o:PE X e ta) (m:attributeBase e f X.env (eval e X.env)=eval e X.env):PE X (.Attribute e f pos) (Ye X.K ta f):=by
 intro b s Z H Q I h;refine xQ m (Ob (o b s Z H _ I h) fun u y ⟨x,j,i,k,a,C,w,fs,v,p,g,c,n,l,q⟩=>?_);subst p;obtain rfl:u=Value.ref a:=k;exact vp i g c n l fun t z r d=>⟨v,j,r,d,q⟩
def Pn (A:PE X o ta) (j:PE X value tv) (m:swapsWith value (some (.Attribute o f pos')) pos.line X.env=pure false):PS X (.Assign [.Attribute o f pos'] value pos) (Yg X.K ta tv f):=by
 intro b s Z H D I h;refine aa9 (Ob (j b s Z H _ I h) fun u k ⟨y,e,d,w,q⟩=>Ob (A b k Z e _ d q) fun i G ⟨x,F,p,g,a,C,E,fs,v,t,c,n,l,r⟩=>?_) m;subst v;obtain rfl:i=Value.ref a:=g;exact vA p t c n l w fun B z=>⟨Z,_,z,r⟩
variable {pins:List (Addr × Obj)}{Z:St}
inductive acQ (K:Frag) (H:Hp):V->Value->Prop where
 |non:acQ K H .non (.type "NoneType")
 |bl (x:Bool):acQ K H (.bl x) (.type "bool")
 |int (i:Int):acQ K H (.int i) (.type "int")
 |str (x:Str):acQ K H (.str x) (.type "str")
 |flt (x:UInt64):acQ K H (.flt x) (.type "float")
 |lst {a:Addr} {xs:List V} (e:H a=some (.lst xs)):acQ K H (.ref a) (.type "list")
 |frz {a:Addr} {o:Obj} {xs:List V} (e:H a=some (.frz o (.lst xs))):acQ K H (.ref a) (.type "list")
 |tup {a:Addr} {xs:List V} (e:H a=some (.tup xs)):acQ K H (.ref a) (.type "tuple")
 |dK {a:Addr} {kvs:List (Key × V)} (e:H a=some (.dK kvs)):acQ K H (.ref a) (.type "dict")
 |dT {a:Addr} {kvs:List (List Key × V)} (e:H a=some (.dT kvs)):acQ K H (.ref a) (.type "dict")
 |ins {a C dx:Addr} {fs:List (Str × V)} (e:H a=some (.ins C dx fs)) (cl:Cls K C) (ha:findIn K (.ref C) "__class__"=some (some (.builtin "object.__class__")))
   (hn:PySem.W.specialIn K (.builtin "object.__class__") "__get__"=some (some (.builtin "getset_descriptor.__get__"))) (htk:PySem.W.takesIn K (.builtin "object.__class__")=some true)
   (hm:mroIn K C (.type "object")=some true):acQ K H (.ref a) (.ref C)
def eZ (I:Inv X pins Z H s) (f:RelV x u) (r:acQ X.K H x t) (e:kitOne X.K t c=some b) (h:∀tk,Q (.bool b) { s with toks:=tk}):
  wpAny (model X.prog X.w) A (call (.builtin "isinstance") [u,c]) Q E s:=by
 cases r with
 |non=>cases (show u=Value.none from f);exact kia_one PySem.W.kitx_none I.kIn True.intro e (fun z=>nomatch z) h
 |bl y=>cases (show u=Value.bool y from f);exact kia_one PySem.W.kitx_bool I.kIn True.intro e (fun z=>nomatch z) h
 |int i=>obtain⟨t,q⟩:=(show ∃t,u=Value.int i t from f);cases q;exact kia_one PySem.W.kitx_int I.kIn True.intro e (fun z=>nomatch z) h
 |str y=>obtain⟨t,q⟩:=(show ∃t,u=Value.str y t from f);cases q;exact kia_one PySem.W.kitx_str I.kIn True.intro e (fun z=>nomatch z) h
 |flt y=>obtain⟨t,q⟩:=(show ∃t,u=Value.float y t from f);cases q;exact kia_one PySem.W.kitx_float I.kIn True.intro e (fun z=>nomatch z) h
 |@lst a xs d=>cases (show u=Value.ref a from f);obtain⟨_,_,n,_,g⟩:=(show zc X.prog X.w H s.heap a (.lst xs) from I.hok a _ d);exact kia_one kitx_list I.kIn ⟨_,g,rfl⟩ e (fun z=>nomatch z) h
 |@frz a D xs d=>cases (show u=Value.ref a from f);obtain⟨_,_,_,n,_,g⟩:=(show zc X.prog X.w H s.heap a (.frz D (.lst xs)) from I.hok a _ d);exact kia_one kitx_list I.kIn ⟨_,g,rfl⟩ e (fun z=>nomatch z) h
 |@tup a xs d=>cases (show u=Value.ref a from f);obtain⟨_,_,_,p⟩:=(show zc X.prog X.w H s.heap a (.tup xs) from I.hok a _ d);obtain⟨o,g,j,_⟩:=p;exact kia_one kitx_tuple I.kIn ⟨o,g,j⟩ e (fun z=>nomatch z) h
 |@dK a kvs d=>cases (show u=Value.ref a from f);obtain⟨_,_,vs,_,p⟩:=(show zc X.prog X.w H s.heap a (.dK kvs) from I.hok a _ d);obtain⟨o,m,ep,g,j,_⟩:=p;exact kia_one kitx_dict I.kIn ⟨o,g,j.1⟩ e (fun z=>nomatch z) h
 |@dT a kvs d=>cases (show u=Value.ref a from f);obtain⟨_,_,xs,_,o,m,ep,g,j,_⟩:=(show zc X.prog X.w H s.heap a (.dT kvs) from I.hok a _ d);exact kia_one kitx_dict I.kIn ⟨o,g,j.1⟩ e (fun z=>nomatch z) h
 |@ins a C G fs d l F B k v =>
 cases (show u=Value.ref a from f);obtain⟨mA,O,_⟩:=lJ I.hok d;obtain⟨od,J,_⟩:=O.look;exact kia_one (PySem.W.kitx_own (l.get _) l.hd F B k v) I.kIn J e (fun z=>nomatch z) h
end
structure t6 (k:Nat) (A:Around):Prop where
 hd:A.handled=none
 dp:A.depth+3*k+5<recursionLimit
 un:A.units+16*k+200<cLine
 gd:A.guards=some []
def t6.mono (r:t6 k A) (h:j<=k):t6 j A:=⟨r.hd,by have:=r.dp;omega,by have:=r.un;omega,r.gd⟩
def t6.deeper (r:t6 (k+1) A) (env:Env):t6 k (A.deeper env) :=
 ⟨r.hd,by have:=r.dp;show A.depth+1+3*k+5<_;omega,by have:=r.un;show A.units+3+16*k+200<_;omega,r.gd⟩
def vB {A:Around}:(A.under (.builtin "type.__call__" ⟨.ref C::us,a⟩)).depth=A.depth+1:=by
 first | rfl | simp [Around.under,Code.weight,Code.isCreation,Code.isGuard,Code.isCaller,Code.frames,Code.isFrame,guardIds]
def vC {A:Around}:(A.under (.builtin "type.__call__" ⟨.ref C::us,a⟩)).units=A.units+1:=by
 first | rfl | simp [Around.under,Code.cUnits,Code.frames,Code.isFrame]
def t6.make (r:t6 (k+1) A) (C:Addr) (us:List Value) (a:List (Str × Value)):t6 k (A.under (.builtin "type.__call__" ⟨.ref C::us,a⟩)) :=
 ⟨r.hd,by have:=r.dp;rw[vB];omega,by have:=r.un;rw[vC];omega,by first | exact r.gd | (simp [Around.under,Code.guards,Code.isGuard,guardIds,pushGuards,r.gd])⟩
def t6.depth (r:t6 k A):A.depth<recursionLimit:=by have:=r.dp;omega
def Yh:TA:=fun _ H Q=>Q [] H
def Um (c:TE) (d:TA):TA:=fun Z H Q=>c Z H fun x b=>d Z b fun xs a=>Q (x::xs) a
def Pq:PA X [] Yh:=fun _ _ _ _ H Q I h=>aa4 ⟨[],H,I,.nil,h⟩
def Ia (o:PE X e te) (n:PA X es t) (k:starEach (e::es) X.env=(false,eval e X.env)::starEach es X.env:=by rfl):PA X (e::es) (Um te t):=by
 intro b a s Z H Q I h;rw[k];show wpAny _ _ (spliced ((false,eval e X.env)::backTo b (starEach es X.env))) _ _ s;refine aaG (Ob (o a s Z H _ I h) fun u i ⟨x,m,d,l,g⟩=>?_);exact Ob (n b a i Z m _ d g) fun us q ⟨xs,j,p,f,c⟩=>⟨x::xs,j,p,.cons l f,c⟩
def Yi (t:TA):TE:=fun Z H Q=>t Z H fun xs a=>xs.length<=sizeLine/\∀p,a p=none->Q (.ref p) (upd a p (.tup xs))
def Yj (t:TA):TE:=fun Z H Q=>t Z H fun xs a=>xs.length<=sizeLine/\∀p,a p=none->Q (.ref p) (upd a p (.lst xs))
def Pu (h:PA X es t):PE X (.Tuple es x1 pos) (Yi t):=by
 intro a s Z H Q I g;refine wpAny_Tuple_spliced (Ob (h pos a s Z H _ I g) fun us c ⟨xs,f,d,r,z,q⟩=>⟨by rw[<- r.length];exact z,?_⟩);have i:f c.heap.objs.size=none:=d.hok.fresh (m_ _);refine⟨.ref c.heap.objs.size,upd f c.heap.objs.size (.tup xs),d.laid (t':=c.toks) (fun b u e=>b_ _ e) (m_ _) ?_,rfl,q _ i⟩;exact⟨z,us,r,⟨_,t_ _ rfl,rfl,_,rfl,rfl⟩⟩
def Px (h:PA X es t):PE X (.List es pos) (Yj t):=by
 intro a s Z H Q I g;refine wpAny_List_spliced (Ob (h pos a s Z H _ I g) fun us c ⟨xs,f,d,r,z,q⟩=>⟨by rw[<- r.length];exact z,?_⟩);have i:f c.heap.objs.size=none:=d.hok.fresh (m_ _);refine⟨.ref c.heap.objs.size,upd f c.heap.objs.size (.lst xs),d.laid (t':=c.toks) (fun b u e=>b_ _ e) (m_ _) ?_,rfl,q _ i⟩;exact⟨z,us,0,r,t_ _ rfl⟩
abbrev Sp:=List V->Hp->VK->XK->Prop
abbrev CXT:=List Env->Hp->Shared->XK->Value->Shared->Prop
structure adB (P:Program) (w:World) (K:Frag) (mg:Str->Option Value) (base:Heap) (A:Around) (outer:List Env) (s:Shared) (H:Hp):Prop where
 frames:A.frames=some outer
 mod:Mod K mg base
 bs:∀b o,base.get? b=some o->s.heap.get? b=some o/\H b=none
 bsz:base.objs.size<=s.heap.objs.size
 funs:s.heap.FunFrames base outer
 frf:∀b∈frs outer,H b=none
 hok:HOk P w H s.heap
 bare:AllBare s.gens
def CE (outer:List Env) (P:Program) (w:World) (H:Hp) (s:Shared) (Q:VK) (u:Value) (s':Shared):Prop :=
 ∃v H',s'.os=s.os/\AllBare s'.gens/\Un (frs outer) [] H H' s.heap s'.heap/\HOk P w H' s'.heap/\RelV v u/\Q v H'
def CR (CX:CXT) (outer:List Env) (P:Program) (w:World) (H:Hp) (s:Shared) (Q:VK) (E:XK) (r:Result) (s':Shared):Prop :=
 match r with
 |.ok (.ret u)=>CE outer P w H s Q u s'
 |.ok _=>False
 |.error e=>CX outer H s E e s'
structure acv (P:Program) (w:World) (K:Frag) (mg:Str->Option Value) (base:Heap) (CX:CXT) (k:Nat) (f:Addr) (fd:FuncData) (ps:List Str) (sp:Sp):Prop where
 len:∀vs H Q E,sp vs H Q E->vs.length=ps.length
 run:∀(A:Around) (outer:List Env) (s:Shared) (H:Hp) (args:Args) (us:List Value) (vs:List V) (Q:VK) (E:XK),t6 k A->adB P w K mg base A outer s H->BindsTo s fd args (ps.zip us)->Vals vs us->sp vs H Q E ->
  codeAny (model P w) A (.call (.ref f) args) (CR CX outer P w H s Q E) s
def adB.make {K:Frag} (e:adB P w K a base A outer s H) (C:Addr) (us:List Value) (b:List (Str × Value)):
  adB P w K a base (A.under (.builtin "type.__call__" ⟨.ref C::us,b⟩)) outer s H:=⟨by first | exact e.frames | (simpa [Around.under,Code.envs,Code.isFrame,pushEnvs] using e.frames),e.mod,e.bs,e.bsz,e.funs,e.frf,e.hok,e.bare⟩
section
variable {X:Cx}{pins:List (Addr × Obj)}{Z:St}
def Inv.env0 (I:Inv X pins Z H s):adB X.prog X.w X.K X.mg X.base X.A X.stack s H :=
 ⟨I.ok.frames,I.ok.mod,I.bs,R_ I.ok.bsz I.sz,I.stack,I.stkFree,I.hok,I.bare⟩
def Inv.after (I:Inv X pins Z H s) (h:CE X.stack X.prog X.w H s Q u s'):EP X pins Z Q u s':=by
 obtain⟨v,H',i,a,f,e,r,q⟩:=h;obtain⟨j,g,d,t,c⟩:=s';obtain rfl:c=s.os:=i;exact⟨v,H',I.call (h':=j) (g':=g) (d':=d) (t':=t) (ch:=[]) f e a (fun b z=>absurd z (by simp)),r,q⟩
end
def Uo (sp:Sp) (dvs:List V) (E:XK) (t:TA):TE:=fun Z H Q=>t Z H fun vs a=>sp (vs++dvs) a Q E
def Uq (C:Addr) (m:Str) (sp:Sp) (dvs:List V) (E:XK) (d:TE) (t:TA):TE:=fun Z H Q=>d Z H fun x b=>∃a e fs,x=.ref a/\b a=some (.ins C e fs)/\fs.lookup m=none /\
 t Z b fun vs c=>sp (x::(vs++dvs)) c Q E
def Ur (C:Addr) (sp:Sp) (dvs:List V) (E:XK) (t:TA):TE:=fun Z H Q=>t Z H fun vs b=>∀x a,b x=none->b a=none->a≠x ->
 sp (.ref x::(vs++dvs)) (upd (upd b a (.own x)) x (.ins C a [])) (fun v c=>v=.non/\Q (.ref x) c) E
def Binds (K:Frag) (b:FuncData) (ps:List Str) (a:List Value):Prop :=
 ∀(s:Shared) (us:List Value),K.In s.heap->(us++a).length=ps.length->BindsTo s b ⟨us,[]⟩ (ps.zip (us++a))
def Binds.all {K:Frag} (h:∀us:List Value,us.length=ps.length->bindArgs b ⟨us,[]⟩=pure (ps.zip us)):Binds K b ps []:=fun s us _ a=>by
 rw[W_] at a ⊢;exact .of_eq (h us a)
def jZ (CX:CXT) (X:Cx) (E:XK):Prop:=∀(a:List (Addr × Obj)) (Z:St) (H:Hp) (s:Shared) (e:Value) (s':Shared),Inv X a Z H s->CX X.stack H s E e s'->X.xe e s'
section
variable {X:Cx}{CX:CXT}{p pos apos:Pos}
def Bo {Z:St} (F:acv X.prog X.w X.K X.mg X.base CX k f fd ps sp) (g:t6 k X.A) (l:Binds X.K fd ps ds) (i:Vals dvs ds) (j:jZ CX X E) (I:Inv X a Z H s) (r:Vals vs us) (h:sp (vs++dvs) H Q E):wpAny (model X.prog X.w) X.A (call (.ref f) us) (EP X a Z Q) X.xe s:=by
 have c:Vals (vs++dvs) (us++ds):=r.append i;have m:(us++ds).length=ps.length:=by rw[<- c.length];exact F.len _ _ _ _ h
 refine wpAny_call (abw (F.run X.A X.stack s H ⟨us,[]⟩ (us++ds) (vs++dvs) Q E g I.env0 (l s us I.kIn m) c h) fun r s' b=>?_);cases r with
 |error e=>exact j a Z H s e s' I b
 |ok d =>
 cases d with
 |ret u=>exact I.after b
 |next=>exact False.elim b
 |brk=>exact False.elim b
 |cont=>exact False.elim b
def Ib (F:acv X.prog X.w X.K X.mg X.base CX k f fd ps sp) (u:t6 k X.A) (m:Gl X x) (j:X.mg x=some (.ref f)) (g:keepIn X.K (.ref f)=true) (n:Binds X.K fd ps ds) (i:Vals dvs ds) (l:jZ CX X E)
  (v:PA X (e::es) t) (b:(x==("__debug__":Str))=false:=by decide) (o:starEach (e::es) X.env=(false,eval e X.env)::starEach es X.env:=by rfl) (c:(backTo pos (starEach es X.env)).any (·.1)=false:=by rfl) :
  PE X (.Call (.Name x p) (e::es) [] pos) (Uo sp dvs E t):=by
 intro a s Z H Q I h;refine ZF (iH I m j ?_ b);refine callWith_K (h₀:=X.base) I.ok.mod.kin g (Ob (v pos a s Z H _ I h) fun us y ⟨vs,z,d,r,q⟩=>⟨d.kIn,?_⟩) o c;exact Bo F u n i l d r q
def Ie {pl:Sem Bool}(z:PE X o ta) (c:Cls X.K C) (j:Meth X.K C m f) (F:acv X.prog X.w X.K X.mg X.base CX k f fd ps sp) (L:t6 k X.A) (G:Binds X.K fd ps ds) (O:Vals dvs ds) (D:jZ CX X E) (p:PA X (e::es) t)
  (d:starEach (e::es) X.env=(false,eval e X.env)::starEach es X.env:=by rfl) (g:(backTo pos (starEach es X.env)).any (·.1)=false:=by rfl)
  (J:eval (.Call (.Attribute o m apos) (e::es) [] pos) X.env=(do
   let ov <- eval o X.env
   standAt apos.atName
   let (f,first) <- holding [ov] (getMethod ov m pl)
   callWith pos f first (backTo pos (starEach (e::es) X.env)) (backToKw pos (keywordEach [] X.env))):=by rfl) :
  PE X (.Call (.Attribute o m apos) (e::es) [] pos) (Uq C m sp dvs E ta t):=by
 intro b s Z H Q I h;refine PySem.W.methodCall_KW (pl:=pl) (Ob (z b s Z H _ I h) fun u B ⟨x,v,i,y,a,R,fs,P,N,l,q⟩=>?_) J;subst P;obtain rfl:u=Value.ref a:=y;refine vz i N c j l ?_;refine callWith_K (first:=[.ref a]) (h₀:=X.base) I.ok.mod.kin j.kp (Ob (p pos b B Z v _ i q) fun us T ⟨vs,S,n,r,M⟩=>⟨n.kIn,?_⟩) d g;exact Bo (us:=.ref a::us) (vs:=.ref a::vs) F L G O D n (.cons rfl r) M
structure Mk (K:Frag) (C f:Addr):Prop where
 makes:makesIn K C=true
 init:findIn K (.ref C) "__init__"=some (some (.ref f))
 fn:isFn K (.ref f)=true
 kp:keepIn K (.ref C)=true
def Bp {Z:St} (M:Mk X.K C f) (F:acv X.prog X.w X.K X.mg X.base CX k f fd ps sp) (m:t6 (k+1) X.A) (q:Binds X.K fd ps ds) (n:Vals dvs ds) (p:jZ CX X E) (I:Inv X a Z H s) (r:Vals vs us) (h:∀x dx,H x=none->H dx=none->dx≠x->sp (.ref x::(vs++dvs)) (upd (upd H dx (.own x)) x (.ins C dx [])) (fun v H2=>v=.non/\Q (.ref x) H2) E):
  wpAny (model X.prog X.w) X.A (call (.ref C) us) (EP X a Z Q) X.xe s:=by
 have d:=h (s.heap.objs.size+1) s.heap.objs.size (I.hok.fresh (aaE _)) (I.hok.fresh (m_ _)) (K_ (ZZ _));have c:=Inv.made (C:=C) I;have g:Vals (V.ref (s.heap.objs.size+1)::(vs++dvs)) (Value.ref (s.heap.objs.size+1)::(us++ds)):=.cons rfl (r.append n);have t:(Value.ref (s.heap.objs.size+1)::us++ds).length=ps.length:=by have e:=g.length;rw[F.len _ _ _ _ d] at e;exact e.symm
 refine wpAny_call (Bm (f:=f) I.kIn M.makes M.init (aan.mp M.fn) (abw (F.run _ X.stack _ _ ⟨Value.ref (s.heap.objs.size+1)::us,[]⟩ (Value.ref (s.heap.objs.size+1)::(us++ds)) _ _ E (m.make C us [])
  (c.env0.make C us []) (q _ (Value.ref (s.heap.objs.size+1)::us) c.kIn t) g d) fun r s' b=>?_))
 cases r with
 |error e=>exact p a Z _ _ e s' c b
 |ok l =>
 cases l with
 |ret u=>obtain⟨v,H',y,j,o,i⟩:=c.after b;subst o;exact⟨j,⟨V.ref (s.heap.objs.size+1),H',y,rfl,i⟩⟩
 |next=>exact False.elim b
 |brk=>exact False.elim b
 |cont=>exact False.elim b
def Ig (M:Mk X.K C f) (F:acv X.prog X.w X.K X.mg X.base CX k f fd ps sp) (o:t6 (k+1) X.A) (l:Gl X x) (i:X.mg x=some (.ref C)) (m:Binds X.K fd ps ds) (g:Vals dvs ds) (j:jZ CX X E)
  (u:PA X (e::es) t) (b:(x==("__debug__":Str))=false:=by decide) (n:starEach (e::es) X.env=(false,eval e X.env)::starEach es X.env:=by rfl) (c:(backTo pos (starEach es X.env)).any (·.1)=false:=by rfl) :
  PE X (.Call (.Name x p) (e::es) [] pos) (Ur C sp dvs E t):=by
 intro a s Z H Q I h;refine ZF (iH I l i ?_ b);refine callWith_K (h₀:=X.base) I.ok.mod.kin M.kp (Ob (u pos a s Z H _ I h) fun us v ⟨vs,y,d,r,q⟩=>⟨d.kIn,?_⟩) n c;exact Bp M F o m g j d r q
end
structure gV (N P:List Str) (sc:Scope):Prop where
 kind:sc.kind=.function
 co:sc.isCoroutine=false
 gen:sc.isGenerator=false
 nd:N.Nodup
 pre:N.take P.length=P
 par:∀x∈P,sc.names.lookup x=some .local\/sc.names.lookup x=some .cell
 nofree:∀y∈sc.names,y.2≠.free
def oM:∀{a:List (Str × Value)}{m:Str->Option Value},(∀v,(x,v)∉a)->bindL b a m x=m x
 |[],_,_=>rfl
 | (n,v)::r,m,h=>by
  unfold bindL
  rw[oM fun w c=>h w (q_ _ c)]
  split
  ·
   have:x≠n:=by rintro rfl;exact h v l_
   simp [this]
  ·
   rfl
def oN:∀{a:List (Str × Value)}{m:Str->Option Value},(∀v,(x,v)∉a)->bindC b a m x=m x
 |[],_,_=>rfl
 | (n,v)::r,m,h=>by
  unfold bindC
  rw[oN fun w c=>h w (q_ _ c)]
  split
  ·
   rfl
  ·
   have:x≠n:=by rintro rfl;exact h v l_
   simp [this]
def oO:∀{P:List Str}{vs:List Value}{i:Nat}{m:Str->Option Value},P.Nodup->P[i]?=some x->vs[i]?=some v->a x=some .local ->
  bindL a (P.zip vs) m x=some v
 |[],_,_,_,_,h,_,_=>by simp at h
 |_::_,[],_,_,_,_,h,_=>by simp at h
 |p::P,w::vs,0,m,nd,h1,h2,hk=>by
  simp at h1 h2;subst h1;subst h2
  show bindL a ((p,w)::P.zip vs) m p=_
  unfold bindL
  rw[oM fun v b=>(ZP.mp nd).1 (abo b).1,if_pos hk]
  simp
 |p::P,w::vs,i+1,m,nd,h1,h2,hk=>by
  show bindL a ((p,w)::P.zip vs) m x=_
  unfold bindL
  exact oO (i:=i) (ZP.mp nd).2 (by simpa using h1) (by simpa using h2) hk
def oR:∀{P:List Str}{vs:List Value}{i:Nat}{m:Str->Option Value},P.Nodup->P[i]?=some x->vs[i]?=some v->a x≠some .local ->
  bindC a (P.zip vs) m x=some v
 |[],_,_,_,_,h,_,_=>by simp at h
 |_::_,[],_,_,_,_,h,_=>by simp at h
 |p::P,w::vs,0,m,nd,h1,h2,hk=>by
  simp at h1 h2;subst h1;subst h2
  show bindC a ((p,w)::P.zip vs) m p=_
  unfold bindC
  rw[oN fun v b=>(ZP.mp nd).1 (abo b).1,if_neg hk]
  simp
 |p::P,w::vs,i+1,m,nd,h1,h2,hk=>by
  show bindC a ((p,w)::P.zip vs) m x=_
  unfold bindC
  exact oR (i:=i) (ZP.mp nd).2 (by simpa using h1) (by simpa using h2) hk
def start (N:List Str) (vs:List V):St:=vs.map some++List.replicate (N.length - vs.length) none
def mD (CX:CXT) (P:Program) (w:World) (K:Frag) (mg:Str->Option Value) (base:Heap) (N:List Str) (a:Str) (scope:Scope) (f:Addr) (c:Value) (A:Around) (outer:List Env) (s:Shared) (H:Hp) (E:XK):Cx where
 prog:=P
 w:=w
 K:=K
 mg:=mg
 base:=base
 A:=A.deeper (envOfC a scope s.heap.objs.size f c)
 N:=N
 s₀:=s
 H₀:=H
 env:=envOfC a scope s.heap.objs.size f c
 outer:=outer
 stack:=envOfC a scope s.heap.objs.size f c::outer
 ex:=[]
 calm:=true
 fn:=fun _=>true
 pn:=[]
 xe:=fun e s'=>wpAny (model P w) (A.deeper (envOfC a scope s.heap.objs.size f c)) (leaving (envOfC a scope s.heap.objs.size f c) e) (fun _ b=>CX outer H s E e b) (fun d b=>CX outer H s E d b) s'
def jw {a:Scope} (h:a.names.lookup x=some .cell):∃c,(cellsFrom n a.names []).lookup x=some c:=by
 have q:=cellsFrom_some a.names n [] (.inl h);exact abz.mp q
def zK {K:Frag} (S:gV N ps scope) (O:A.handled=none) (j:adB P w K F base A outer s H) (T:vs.length=ps.length) (r:Vals vs us) (x:InCallC s s.heap.objs.size (bindL (envOfC d scope s.heap.objs.size f B).kindOf (ps.zip us) fun _=>none) (cellsFrom (s.heap.objs.size+1) scope.names []) (bindC (envOfC d scope s.heap.objs.size f B).kindOf (ps.zip us) fun _=>none) I):
  Inv (mD CX P w K F base N d scope f B A outer s H E) [] (start N vs) H I:=by
 have L:ps.length<=N.length:=by have:=T_ List.length S.pre;rw[Z0] at this;omega
 obtain⟨C,tk,rfl,G⟩:=x.done;have l:∀b:Addr,b∉(mD CX P w K F base N d scope f B A outer s H E).ex:=fun b z=>absurd (show b∈([]:List Addr) from z) (by simp);refine⟨⟨j.mod,S.kind,rfl,rfl,m_ _,fun y z c C g=>?_,fun y m=>?_,fun y c _ h=>?_,fun _=>O,Around.frames_deeper j.frames,.inr ⟨rfl,rfl⟩,fun b z=>absurd z (l b),j.bs,j.bsz,fun b _ _=>l b,fun b z=>absurd z (l b),j.funs,j.frf⟩,
  rfl,j.bare,Un.kept G,⟨_,x.toInCall.ns,fun i y v C g R=>?_⟩,fun y c h=>⟨_,x.cell y c h⟩,j.hok.fresh (m_ _),fun y c h=>?_,fun p o=>absurd (show p∈([]:List (Addr × Obj)) from o) (by simp),j.hok.kept G,?_⟩
 ·exact name_of_addr x.apart (mem_of_lookup C) (mem_of_lookup g)
 ·have m:scope.names.lookup y=some .cell\/scope.names.lookup y=some .free:=m;rcases m with m | m
  ·exact jw m
  exact absurd rfl (S.nofree _ (mem_of_lookup m))
 ·exact aar (x.above y c (mem_of_lookup h))
 ·have D:i<vs.length:=by
   unfold start at g;by_cases D:i<vs.length
   ·exact D
   rw[Q_ (by simpa using D)] at g;rw[abb] at g;split at g <;> cases g
  have Q:vs[i]?=some v:=by
   unfold start at g;rw[Zn (by simpa using D),B_] at g;cases e:vs[i]? with
   |none=>rw[e] at g;cases g
   |some a=>rw[e] at g;cases g;rfl
  obtain⟨u,J,M⟩:=r.get Q;have o:ps[i]?=some y:=by rw[<- S.pre,List.getElem?_take_of_lt (by omega)];exact C
  have t:ps.Nodup:=by rw[<- S.pre];exact S.nd.sublist (List.take_sublist _ _)
  refine⟨u,M,?_⟩;rcases S.par y (Y_ o) with k | k
  ·exact .inl ⟨k,oO t o J k⟩
  obtain⟨c,e⟩:=jw (n:=s.heap.objs.size+1) k;refine .inr ⟨.inl k,c,e,?_⟩;have q:=x.cell y c e;rw[oR t o J (by show scope.names.lookup y≠_;rw[k];decide)] at q;exact q
 ·exact j.hok.fresh (aar (x.above y c (mem_of_lookup h)))
 unfold start;show _=N.length;rw[d_,g_,ZJ];omega
def Lx {K:Frag}{dV kV z R c T oc:Value} (lk:K.lookup f=some ⟨oc,od,.func (fnOf name a d g scope dV kV z R U c T),F⟩) (O:codeIn K c a=true) (S:gV N ps scope) (l:∀vs H Q E,sp vs H Q E->vs.length=ps.length) (i:∀(A:Around) (outer:List Env) (s:Shared) (H:Hp) (vs:List V) (Q:VK) (E:XK),t6 k (A.deeper (envOfC a scope s.heap.objs.size f c))->sp vs H Q E ->
   ∃t,PSs (mD CX P w K C base N a scope f c A outer s H E) g t/\t { nx:=fun _ H'=>Q .non H',rt:=Q} (start N vs) H):
  acv P w K C base CX (k+1) f (fnOf name a d g scope dV kV z R U c T) ps sp:=by
 refine⟨l,fun A outer s H Z us vs Q E M p hb r m=>?_⟩;have hl:=l _ _ _ _ m;have X:K.In s.heap:=p.mod.kin.keeps fun b o e=>(p.bs b o e).1;have L:s.heap.NoLimit:=p.mod.nolimit.keeps fun b o e=>(p.bs b o e).1;have h:∀y∈ps.zip us,scope.names.lookup y.1=some .local\/(scope.names.lookup y.1=some .cell/\((cellsFrom (s.heap.objs.size+1) scope.names []).lookup y.1).isSome=true):=fun ⟨n,v⟩ hy=>by
  rcases S.par n (abo hy).1 with q | q
  ·exact .inl q
  exact .inr ⟨q,cellsFrom_some _ _ _ (.inl q)⟩
 refine codeAny_call_function M.depth (X _ _ lk) rfl S.co S.gen rfl (PySem.W.codeRec_of X O) (hb _ _ _ _ ?_);refine wpAny_newFunctionEnv_cells S.kind h fun env he Y x=>?_;subst he;refine⟨L.keeps x.toInCall.keep,codeAny_func ?_⟩;obtain⟨t,ht,hq⟩:=i A outer s H vs Q E (M.deeper _) m;have I:Inv (mD CX P w K C base N a scope f c A outer s H E) [] (start N vs) H Y:=zK S M.hd p hl r x;refine Zz (ht [] Y (start N vs) H _ I hq) (fun fl s' j=>?_) fun e s' j=>j;have B:∀{D:St} {H':Hp} {v:V} {u:Value},Inv (mD CX P w K C base N a scope f c A outer s H E) [] D H' s'->RelV v u->Q v H'->CE outer P w H s Q u s' :=
  fun {D H' v u} J G q=>⟨v,H',J.os,J.bare,J.base,J.hok,G,q⟩
 cases fl with
 |ret u=>obtain⟨v,D,H',J,G,q⟩:=j;exact B J G q
 |next=>obtain⟨D,H',J,q⟩:=j;exact B (v:=V.non) (u:=Value.none) J rfl q
 |brk=>obtain⟨_,_,_,q⟩:=j;exact False.elim q
 |cont =>
 obtain⟨_,_,_,q⟩:=j;exact False.elim q
section
variable {p pos:Pos}{id T:String}
def tCB (r:List V->Hp->VK->Prop) (t:TA):TE:=fun Z H Q=>t Z H fun vs a=>r vs a Q
def Bq (l:ab1 X (.builtin id) r) (n:Gl X x) (g:X.mg x=none) (f:bootBuiltins x=some (.builtin id)) (q:PA X (e::es) t) (j:x≠"__name__":=by decide) (b:(x==("__debug__":Str))=false:=by decide)
  (o:starEach (e::es) X.env=(false,eval e X.env)::starEach es X.env:=by rfl) (c:(backTo pos (starEach es X.env)).any (·.1)=false:=by rfl):PE X (.Call (.Name x p) (e::es) [] pos) (tCB r t):=by
 intro a s Z H Q I h;refine ZF (fX I n g f ?_ j b);exact PyProof.Rows.callWith_builtin1 (Ob (q pos a s Z H _ I h) fun us i ⟨vs,k,d,m,u⟩=>l a i Z k vs us Q d m u) o c
def zL (l:ab1 X (.type T) r) (n:Gl X x) (g:X.mg x=none) (f:bootBuiltins x=some (.type T)) (q:PA X (e::es) t) (j:x≠"__name__":=by decide) (b:(x==("__debug__":Str))=false:=by decide)
  (o:starEach (e::es) X.env=(false,eval e X.env)::starEach es X.env:=by rfl) (c:(backTo pos (starEach es X.env)).any (·.1)=false:=by rfl):PE X (.Call (.Name x p) (e::es) [] pos) (tCB r t):=by
 intro a s Z H Q I h;refine ZF (fX I n g f ?_ j b);exact Zv (Ob (q pos a s Z H _ I h) fun us i ⟨vs,k,d,m,u⟩=>l a i Z k vs us Q d m u) o c
end
end L2
namespace HT
open PySem PyProof.Rows
section
open PySem.SeqAt
open PySem.AutoSeq1 (wpAny_loadPart')
open PySem.MeetsSeq PySem.MeetsSeq2 PySem.MeetsSeq3
def aeM (x:IsTup s.heap t vs.toArray) (v:IsTup s.heap b ws.toArray) (p:vs≠[]) (y:ws=[]->Q (.ref t) s) (u:ws≠[]->Q (.ref s.heap.objs.size) { s with heap:=s.heap.push { cls:=.type "tuple",data:=.seq (vs++ws).toArray}}) (hsz:vs.length+ws.length<=sizeLine):wpAny (model prog w) A (binaryOp .Add (.ref t) (.ref b)) Q E s:=by
 obtain⟨⟨cls,k,data,m⟩,h,l,n,q⟩:=id x;obtain⟨⟨o,f,j,g⟩,a,c,r,d⟩:=id v;simp only at l q c d;subst l q c d;have e:vs.toArray++ws.toArray=(vs++ws).toArray:=by simp
 by_cases i:ws=[]
 ·exact concat_meets ⟨_,h,rfl⟩ ⟨_,a,rfl⟩ noFill_tuple_add seq_tuple_add PySem.F.slot_tuple_add PySem.F.entry_tuple_add (abA _ _)
   (tuple_addW1 t b vs.toArray ws.toArray n r k f m g (by simpa using p) (by simp [i])) ⟨h,a,y i⟩
 refine concat_meets ⟨_,h,rfl⟩ ⟨_,a,rfl⟩ noFill_tuple_add seq_tuple_add PySem.F.slot_tuple_add PySem.F.entry_tuple_add (abA _ _)
  (tuple_addW2 t b vs.toArray ws.toArray n r k f m g (by simpa using p) (by simpa using i) (by rw[p_,p_];exact hsz)) ⟨h,a,?_⟩
 rw[e];exact u i
def sIx (n d:Nat):Option Int->Nat
 |none=>d
 |some v=>if v<0 then (v+(n:Int)).toNat else min v.toNat n
def aee (n d:Nat):sIx n d none=d:=rfl
def adT (n d k:Nat):sIx n d (some (k:Int))=min k n:=by
 show (if (k:Int)<0 then ((k:Int)+(n:Int)).toNat else min (k:Int).toNat n)=min k n;rw[if_neg (by omega),aab]
def Py (n d:Nat) (b:d<=n) (o:Option Int):sIx n d o<=n:=by
 cases o with
 |none=>exact b
 |some v =>
  show (if v<0 then (v+(n:Int)).toNat else min v.toNat n)<=n
  by_cases a:v<0
  ·
   rw[if_pos a];omega
  ·
   rw[if_neg a];exact Nat.min_le_right _ _
def xR (v:Int) (n d:Nat):(if v<0 then max (v+(n:Int)) 0 else min v (n:Int))=((sIx n d (some v):Nat):Int):=by
 show (if v<0 then max (v+(n:Int)) 0 else min v (n:Int))=(((if v<0 then (v+(n:Int)).toNat else min v.toNat n):Nat):Int);by_cases a:v<0
 ·simp only[if_pos a];omega
 simp only[if_neg a];omega
def vD (b a:Option Int) (n:Nat):Builtin.Slice.sliceAdjust b a 1 (n:Int)=(((sIx n 0 b:Nat):Int),((sIx n n a:Nat):Int)):=by
 have c:¬((1:Int)<0):=by omega
 unfold Builtin.Slice.sliceAdjust;simp only[c,Zb];refine Prod.ext ?_ ?_
 ·cases b with
  |none=>rfl
  |some v=>exact xR v n 0
 cases a with
 |none=>rfl
 |some v=>exact xR v n n
def vG (i j:Nat):Builtin.Slice.slicePlaces (i:Int) (j:Int) 1=j - i:=by
 unfold Builtin.Slice.slicePlaces;have a:(1:Int)>0:=by omega
 simp only[a,if_true,Int.ediv_one];split <;> omega
def jc (p:IsPart v o) (h:Q o s):wpAny (model prog w) A (Builtin.Slice.slicePartIndex v) Q E s:=by
 cases p with
 |none=>exact slicePart_none h
 |int i t=>exact slicePart_int h
def gA {Q:Int × Int × Nat->Shared->Prop} (j:s.heap.IsSliceOf g f e .none) (pl:IsPart f a) (i:IsPart e d) (h:Q (((sIx n 0 a:Nat):Int),1,sIx n n d - sIx n 0 a) s):wpAny (model prog w) A (Builtin.Slice.sliceApplied (.ref g) (pure (n:Int))) Q E s:=by
 obtain⟨l,b,k,c⟩:=id j;unfold Builtin.Slice.sliceApplied Builtin.Slice.sliceFields;refine a_ (a_ (Zq b c (x:=f) rfl (a_ (Zq b c (x:=e) rfl (a_ (Zq b c (x:=.none) rfl (k_ ?_)))))));refine a_ (slicePart_none ?_);show wpAny _ _ (if ((1:Int)==0)=true then _ else _) _ _ s;rw[if_neg (by decide)];refine a_ (jc pl (a_ (jc i (a_ (k_ ?_)))));show wpAny _ _ (match Builtin.Slice.sliceAdjust a d 1 (n:Int) with | (a,d)=>pure (a,(1:Int),Builtin.Slice.slicePlaces a d 1)) _ _ s;rw[vD a d n];show wpAny _ _ (pure (((sIx n 0 a:Nat):Int),(1:Int),Builtin.Slice.slicePlaces ((sIx n 0 a:Nat):Int) ((sIx n n d:Nat):Int) 1)) _ _ s;rw[vG];exact k_ h
def Br (xs : Array Value) (i k : Nat) : ((List.range k).filterMap fun (m : Nat) => xs[((i : Int) + (m : Int) * 1).toNat]?).toArray = ((xs.toList.drop i).take k).toArray:=by
 have e:(fun (m:Nat)=>xs[((i:Int)+(m:Int)*1).toNat]?)=fun m=>xs[i+m]?:=by
  funext m;have:((i:Int)+(m:Int)*1).toNat=i+m:=by omega
  rw[this]
 rw [e];have:=pick_run xs i k;rw [List.filterMap_map] at this;have a : ((fun x => xs[x]?) ∘ fun x => i + x) = fun m => xs[i + m]?:=rfl;rw [a] at this;rw [this]
def acL (e:IsTup s.heap t a) (n:s.heap.IsSliceOf i l o .none) (pl:IsPart l c) (p:IsPart o d) (u:¬(sIx a.size 0 c=0/\sIx a.size a.size d=a.size)) (h:Q (.ref s.heap.objs.size) { s with heap:=s.heap.push { cls:=.type "tuple",data:=.seq ((a.toList.drop (sIx a.size 0 c)).take (sIx a.size a.size d - sIx a.size 0 c)).toArray}}) (hsz:a.size<=sizeLine):wpAny (model prog w) A (getItem (.ref t) (.ref i)) Q E s:=by
 have b:sizeOk (.seq ((a.toList.drop (sIx a.size 0 c)).take (sIx a.size a.size d - sIx a.size 0 c)).toArray):=by show ((a.toList.drop (sIx a.size 0 c)).take (sIx a.size a.size d - sIx a.size 0 c)).toArray.size<=sizeLine;rw[p_,Z0,abx,aaT];omega
 have x:sIx a.size a.size d<=a.size:=Py _ _ (m_ _) d;obtain⟨r,f,k,v⟩:=id n;have g:s.TypeIs (.ref i) "slice":=⟨r,f,k⟩;unfold getItem;try with_reducible refine aaj ?_
 first | refine a_ (k_ ?_) | skip
 refine a_ (wpAny_sequenceKey e.typeIs (by decide) ?_);refine a_ (aaf (name:=Str.ofString "__getitem__") e.typeIs Zj
  (aak Zj e.typeIs entry_tuple_getitem ?_ (args_tuple_getitem _ _)))
 show wpAny _ _ (Builtin.Tuple.tupleItemsOf (.ref t) >>= _) _ _ s;refine a_ (tupleItemsOf_ e ?_);refine a_ (abM g ?_);rw[if_pos (by decide)];refine a_ (gA n pl p ?_);have j:¬((((sIx a.size 0 c:Nat):Int)==0&&(1:Int)==1&&(sIx a.size a.size d - sIx a.size 0 c)==a.size)=true):=by intro q;rw[Zi,Zi] at q;have z:((sIx a.size 0 c:Nat):Int)=0:=eq_of_beq q.1.1;have y:sIx a.size a.size d - sIx a.size 0 c=a.size:=eq_of_beq q.2;exact u ⟨by omega,by omega⟩
 show wpAny _ _ (if (((sIx a.size 0 c:Nat):Int)==0&&(1:Int)==1&&(sIx a.size a.size d - sIx a.size 0 c)==a.size)=true then _ else _) _ _ s;rw[if_neg j,Br];first
  |exact a_ (m:=Builtin.Tuple.tupleExact _) (ZC (k_ ⟨_,rfl,k_ h⟩) b)
  |exact a_ (m:=Builtin.Tuple.tupleExact _) (ZC (a_ (k_ (k_ ⟨_,rfl,k_ h⟩))) b)
  |exact a_ (a_ (m:=Builtin.Tuple.tupleExact _) (ZC (k_ (k_ ⟨_,rfl,k_ h⟩)) b))
  |exact a_ (a_ (m:=Builtin.Tuple.tupleExact _) (ZC (k_ ⟨_,rfl,k_ h⟩) b))
end
end HT
namespace L2
abbrev TO:=St->Hp->(Option Int->Hp->Prop)->Prop
def PO (X:Cx) (e:Option Expr) (t:TO):Prop :=
 ∀(a:List (Addr × Obj)) (s:Shared) (Z:St) (H:Hp) (Q:Option Int->Hp->Prop),Inv X a Z H s->t Z H Q ->
  wpAny (model X.prog X.w) X.A (evalPart e X.env) (fun u s'=>∃o H',Inv X a Z H' s'/\IsPart u o/\Q o H') X.xe s
def Ih:TO:=fun _ H Q=>Q none H
def Us (t:TE):TO:=fun Z H Q=>t Z H fun x a=>∃i,x=.int i/\Q (some i) a
section
variable {lo hi:Option Expr}
def Ii:PO X none Ih:=by
 intro a s Z H Q I h;rw[evalPart_none];exact k_ ⟨none,H,I,.none,h⟩
def Ij (h:PE X e te):PO X (some e) (Us te):=by
 intro a s Z H Q I f;rw[evalPart_some];refine Ob (h a s Z H _ I f) fun u j ⟨x,c,b,d,g⟩=>?_;obtain⟨i,rfl,q⟩:=g;obtain⟨t,rfl⟩:=d;exact⟨some i,c,b,.int i t,q⟩
def SlR (X:Cx) (r:V->Option Int->Option Int->Hp->VK->Prop):Prop :=
 ∀(a:List (Addr × Obj)) (s:Shared) (Z:St) (H:Hp) (x:V) (v f c:Value) (b e:Option Int) (d:Addr) (Q:VK),Inv X a Z H s->RelV x v->s.heap.IsSliceOf d f c .none->IsPart f b->IsPart c e->r x b e H Q ->
  ∃T g,typeLookup (.type T) "__getitem__"=pure (some (.builtin g))/\s.TypeIs v T/\wpAny (model X.prog X.w) X.A (getItem v (.ref d)) (EP X a Z Q) X.xe s
def SlR.or (h:SlR X r) (h':SlR X d):SlR X (fun x c b H Q=>r x c b H Q\/d x c b H Q):=by
 intro a s Z H x v k f c b g Q I j i pl e q;rcases q with q | q
 ·exact h a s Z H x v k f c b g Q I j i pl e q
 exact h' a s Z H x v k f c b g Q I j i pl e q
def tSl (r:V->Option Int->Option Int->Hp->VK->Prop) (te:TE) (d c:TO):TE:=fun Z H Q=>te Z H fun x b=>d Z b fun l a=>c Z a fun u H3=>r x l u H3 Q
def rM (B:SlR X r) (n:PE X e te) (i:PO X lo tl) (F:PO X hi th):PE X (.Subscript e (.Slice lo hi none p2) pos) (tSl r te tl th):=by
 intro a s Z H Q I h;refine Subscript_ (Ob (n a s Z H _ I h) fun v t ⟨x,k,j,y,K⟩=>?_);refine wpAny_Slice (Ob (i a t Z k _ j K) fun c G ⟨l,p,C,pl,E⟩=>Ob (F a G Z p _ C E) fun d s3 ⟨u,H3,J,f,D⟩=>?_);rw[evalPart_none];refine k_ ?_;have o:Inv X a Z H3 { s3 with heap:=s3.heap.push { cls:=.type "slice",data:=.fields #[c,d,.none]}}:=J.kept (t':=s3.toks) fun b M q=>b_ _ q;obtain⟨T,L,g,z,m⟩:=B a { s3 with heap:=s3.heap.push { cls:=.type "slice",data:=.fields #[c,d,.none]}} Z H3 x v c d l u s3.heap.objs.size Q o y (Heap.IsSliceOf.new ..) pl f D;show wpAny (model X.prog X.w) X.A (subscriptTail e (.Slice lo hi none p2) v (.ref s3.heap.objs.size)) (EP X a Z Q) X.xe { s3 with heap:=s3.heap.push { cls:=.type "slice",data:=.fields #[c,d,.none]}};exact tail_any (ops:=[.ref s3.heap.objs.size,v]) z g m (by with_unfolding_all rfl)
def rN (xs:List V) (a b:Option Int):List V:=(xs.drop (HT.sIx xs.length 0 a)).take (HT.sIx xs.length xs.length b - HT.sIx xs.length 0 a)
def kW (xs:List V) (b a:Option Int):(rN xs b a).length<=xs.length:=by
 unfold rN;rw[Z0,abx];omega
def Yk (K:Frag):V->Option Int->Option Int->Hp->VK->Prop:=fun x c b H Q=>∃a xs,x=.ref a/\SqT K H a xs /\
 ¬(HT.sIx xs.length 0 c=0/\HT.sIx xs.length xs.length b=xs.length)/\∀p,H p=none->Q (.ref p) (upd H p (.tup (rN xs c b)))
def aec:SlR X (Yk X.K):=by
 intro g s Z H x v y t d f u Q I n m pl k h;obtain⟨a,xs,rfl,l,p,q⟩:=h;cases n;obtain⟨e,r,i,j⟩:=I.tuple l;have c:e.toArray.size=xs.length:=by rw[p_];exact r.length.symm
 refine⟨"tuple",_,Zj.lookup,i.typeIs,?_⟩;refine HT.acL i m pl k (by rw[c];exact p) ?_ (by rw[c];exact j);rw[c];refine⟨.ref s.heap.objs.size,_,I.laid (t':=s.toks) (o:=.tup (rN xs d f)) (fun b w q=>b_ _ q) (m_ _) ?_,rfl,q _ (I.hok.fresh (m_ _))⟩;exact⟨R_ (kW xs d f) j,_,(r.drop (HT.sIx xs.length 0 d)).take (HT.sIx xs.length xs.length f - HT.sIx xs.length 0 d),acR.new _ _⟩
def Ut (K:Frag):R2:=fun x y H Q=>∃a b xs c,x=.ref a/\y=.ref b/\SqT K H a xs/\SqT K H b c/\xs≠[]/\xs.length+c.length<=sizeLine /\
 (c=[]->Q (.ref a) H)/\(c≠[]->∀p,H p=none->Q (.ref p) (upd H p (.tup (xs++c))))
def Vals.nil_iff (r:Vals xs us):us=[]↔xs=[]:=by
 cases r with
 |nil=>simp
 |cons _ _=>simp
def aeL:OpR X (binaryOp .Add) (Ut X.K):=by
 intro e s Z H x y v u Q I r l h;obtain⟨a,b,xs,k,rfl,rfl,t,n,m,f,A,j⟩:=h;cases r;cases l;obtain⟨i,d,p1,_⟩:=I.tuple t;obtain⟨g,c,p,_⟩:=I.tuple n;refine HT.aeM p1 p (fun z=>m (d.nil_iff.mp z)) (fun z=>⟨.ref a,H,I,rfl,A (c.nil_iff.mp z)⟩) (fun z=>?_) (by rw[<- d.length,<- c.length];exact f);refine⟨.ref s.heap.objs.size,_,I.laid (t':=s.toks) (o:=.tup (xs++k)) (fun b B q=>b_ _ q) (m_ _) ?_,rfl,j (fun w=>z (c.nil_iff.mpr w)) _ (I.hok.fresh (m_ _))⟩;exact⟨by rw[d_];exact f,_,d.append c,acR.new _ _⟩
end
def ixN (n:Nat) (i:Int):Option Nat:=if 0<=i then (if i<n then some i.toNat else none) else if -(n:Int)<=i then some (i+n).toNat else none
def atI {a:Type}(xs:List a) (i:Int):Option a:=(ixN xs.length i).bind fun j=>xs[j]?
def xT (h:ixN n i=some j):seqIndex? i n=some j/\j<n /\ -(n:Int)<=i/\i<n:=by
 unfold ixN at h;by_cases b:0<=i
 ·rw[if_pos b] at h;by_cases a:i<n
  ·rw[if_pos a] at h;have e:i.toNat=j:=F_ h;exact⟨by rw[seqIndex_of b a,e],by omega,by omega,a⟩
  rw[if_neg a] at h;cases h
 rw[if_neg b] at h;by_cases a : -(n:Int)<=i
 ·rw[if_pos a] at h;have e:(i+n).toNat=j:=F_ h;exact⟨by rw[seqIndex_neg (by omega) a,e],by omega,a,by omega⟩
 rw[if_neg a] at h;cases h
def qb {xs:List a}{v:a} (h:atI xs i=some v):∃j,seqIndex? i xs.length=some j/\xs[j]?=some v/\j<xs.length /\ -(xs.length:Int)<=i/\i<xs.length:=by
 unfold atI at h;cases e:ixN xs.length i with
 |none=>rw[e] at h;cases h
 |some j =>
 rw[e] at h;obtain⟨f,b,c,d⟩:=xT e;exact⟨j,f,h,b,c,d⟩
def cB {xs:List a}{j:Nat}{v:a} (h:xs[j]?=some v):atI xs (j:Int)=some v:=by
 have b:j<xs.length:=(ZV.mp h).1;have e:ixN xs.length (j:Int)=some j:=by unfold ixN;rw[if_pos (by omega),if_pos (by omega)];simp
 unfold atI;rw[e];exact h
def Bs (xs:List a) (v:a):atI (xs++[v]) (-1)=some v:=by
 have b:(xs++[v]).length=xs.length+1:=by simp
 have e:ixN (xs++[v]).length (-1)=some xs.length:=by unfold ixN;rw[b,if_neg (by decide),if_pos (by omega)];congr 1;omega
 unfold atI;rw[e];show (xs++[v])[xs.length]?=some v;simp
def xU (b:Expr):Prop:=∀o i,subscripted b false o i=operate [o,i] (getItem o i)
def IxR (X:Cx) (r:R2):Prop :=
 ∀(c a:Expr) (b:List (Addr × Obj)) (s:Shared) (Z:St) (H:Hp) (x y:V) (v u:Value) (Q:VK),Inv X b Z H s->RelV x v->RelV y u->r x y H Q ->
  subscripted a false v u=operate [v,u] (getItem v u)->wpAny (model X.prog X.w) X.A (subscriptTail c a v u) (EP X b Z Q) X.xe s
def MtR (X:Cx) (b:String) (r:V->List V->Hp->VK->Prop):Prop :=
 ∀(a:List (Addr × Obj)) (s:Shared) (Z:St) (H:Hp) (x:V) (xs:List V) (v:Value) (us:List Value) (Q:VK),Inv X a Z H s->RelV x v->Vals xs us->r x xs H Q ->
  wpAny (model X.prog X.w) X.A (call (.builtin b) (v::us)) (EP X a Z Q) X.xe s
section
variable {X:Cx}{a b:Expr}
def IxR.or (h:IxR X r) (h':IxR X d):IxR X (fun x y H Q=>r x y H Q\/d x y H Q):=by
 intro b a c s Z H x y v u Q I f g q e;rcases q with q | q
 ·exact h b a c s Z H x y v u Q I f g q e
 exact h' b a c s Z H x y v u Q I f g q e
def Uu (k:IxR X r) (l:PE X a ta) (i:PE X b tb) (f:xU b):PE X (.Subscript a b pos) (tOp r ta tb):=by
 intro c s Z H Q I h;exact Subscript_ (O7 l i I h fun v u e x y d m g j q=>k a b c e Z d x y v u Q m g j q (f _ _))
def Uv (K:Frag):R2:=fun x y H Q=>∃p xs i v,x=.ref p/\y=.int i/\SqL K H p xs/\atI xs i=some v/\Q v H
def Uw (K:Frag):R2:=fun x y H Q=>∃p xs i v,x=.ref p/\y=.int i/\SqT K H p xs/\atI xs i=some v/\Q v H
def Ux:R2:=fun x y H Q=>∃z i c,x=.str z/\y=.int i/\z.length<=sizeLine/\atI z.cps.toList i=some c/\Q (.str ⟨#[c]⟩) H
def aeP:IxR X (Uv X.K):=by
 intro d k a s Z H x y v u Q I E G h l;obtain⟨p,xs,i,z,rfl,rfl,o,F,q⟩:=h;cases E;obtain⟨t,rfl⟩:=G;obtain⟨f,r,pl,M⟩:=I.list o;obtain⟨j,c,A,J,C,B⟩:=qb F;obtain⟨w,m,g⟩:=r.get A;have D:=r.length;have L:=jX;have b:EP X a Z Q w s:=⟨z,H,I,g,q⟩;by_cases n:0<=i
 ·have e:i.toNat=j:=by rw[seqIndex_of n B] at c;exact F_ c
  exact item_listR pl.isList n (by omega) (by rw[e];simpa using m) b l
 have e:(i+(f.toArray.size:Int)).toNat=j:=by rw[seqIndex_neg (by omega) C] at c;rw[p_,<- D];exact F_ c
 exact subscriptTail_builtinR (x:=w) pl.isList.typeIs slot_list_getitem.lookup
  (wpAny_getItem_list_neg (Q:=fun r s'=>r=w/\EP X a Z Q r s') pl.isList (by omega) (by rw[p_] <;> omega) (by omega) (by rw[e];simpa using m) ⟨rfl,b⟩) l
def afs:IxR X (Uw X.K):=by
 intro b d a s Z H x y v u Q I m C h o;obtain⟨p,xs,i,z,rfl,rfl,f,n,q⟩:=h;cases m;obtain⟨t,rfl⟩:=C;obtain⟨l,r,pl,J⟩:=I.tuple f;obtain⟨j,B,g,D,F,E⟩:=qb n;obtain⟨w,A,c⟩:=r.get g;have k:=r.length;have G:=jX;have e:EP X a Z Q w s:=⟨z,H,I,c,q⟩;exact subscriptTail_builtinR (x:=w) pl.typeIs slot_tuple_getitem.lookup
  (getItem_tuple (j:=j) (Q:=fun r s'=>r=w/\EP X a Z Q r s') pl (by omega) (by omega) (by rw[p_,<- k];exact B) (by simpa using A) ⟨rfl,e⟩) o
def Pz:IxR X Ux:=by
 intro b a d s Z H x y v u Q I o m h n;obtain⟨z,i,c,rfl,rfl,C,p,q⟩:=h;obtain⟨t,rfl⟩:=o;obtain⟨t',rfl⟩:=m;obtain⟨j,e,g,A,l,k⟩:=qb p;have r:z.cps.toList.length=z.length:=by simp [Str.length]
 rw[r] at e l k;have B:=jX;exact tail_any (typeIs_str s z t) slot_str_getitem.lookup (getItem_str (c:=c) (by
  have w:decide (i < -(2^63:Int))=false:=I_ (by omega)
  have f:decide (i ≥ 2^63)=false:=I_ (by omega)
  rw[w,f,Bool.or_false]) (by rw[e];simpa using g) ⟨.str ⟨#[c]⟩,H,I.tok _,⟨_,rfl⟩,q⟩) n
def rIx (K:Frag):R2:=fun x y H Q=>Uv K x y H Q\/Uw K x y H Q\/Ux x y H Q
def PB:IxR X (rIx X.K):=aeP.or (afs.or Pz)
def vH (a:List Value) (n j:Nat) (u:Value):Obj.mapSeq (·.setIfInBounds j u) { cls:=.type "list",data:=.seq a.toArray n}={ cls:=.type "list",data:=.seq (a.set j u).toArray n}:=by
 simp [Obj.mapSeq]
def Inv.lst {b:List (Addr × Obj)}{Z:St}{H:Hp}{s:Shared}{p:Addr}{xs:List V}(I:Inv X b Z H s) (h:H p=some (.lst xs)) :
  ∃(a:List Value) (n:Nat),Vals xs a/\s.heap.get? p=some { cls:=.type "list",data:=.seq a.toArray n}/\xs.length<=sizeLine:=by
 obtain⟨z,a,n,r,e⟩:=I.hok p _ h;exact⟨a,n,r,e,z⟩
def Inv.lstUpd {a:List (Addr × Obj)}{Z:St}{c its':List Value} (I:Inv X a Z H s) (h:H p=some (.lst xs)) (j:s.heap.get? p=some { cls:=.type "list",data:=.seq c.toArray n}) (i:f { cls:=.type "list",data:=.seq c.toArray n}={ cls:=.type "list",data:=.seq its'.toArray d}) (r:Vals g its') (k:g.length<=sizeLine) (t:Nat):
  Inv X a Z (upd H p (.lst g)) { s with heap:=s.heap.update p f,toks:=t}:=by
 have e:(s.heap.update p f).get? p=some { cls:=.type "list",data:=.seq its'.toArray d}:=by rw[aaq f j (by rw[i] <;> rfl),i]
 refine I.write (x:=p) (e:=p) (by rw[h];trivial) (.inl rfl) (fun b u l q=>(Zm _ _ (Ne.symm l)).trans q) ⟨_,e⟩ ?_;exact⟨k,its',d,r,e⟩
def Uy:V->V->V->Hp->(Hp->Prop)->Prop:=fun o i v H Q=>∃p xs k j,o=.ref p/\i=.int k/\H p=some (.lst xs)/\ixN xs.length k=some j/\Q (upd H p (.lst (xs.set j v)))
def set_list:adF X Uy:=by
 intro b s Z H o i v F E u Q I y B A h;obtain⟨p,xs,k,j,rfl,rfl,m,z,q⟩:=h;cases y;obtain⟨t,rfl⟩:=B;obtain⟨a,n,r,d,C⟩:=I.lst m;obtain⟨c,D,g,l⟩:=xT z;have e:=r.length;have G:=jX;have x:Inv X b Z (upd H p (.lst (xs.set j v))) { s with heap:=s.heap.update p (Obj.mapSeq (·.setIfInBounds j u))} :=
  I.lstUpd m d (vH a n j u) (r.set A j) (by rw[abE];exact C) s.toks
 by_cases w:0<=k
 ·have f:k.toNat=j:=by rw[seqIndex_of w l] at c;exact F_ c
  exact PySem.W.ki_setAt d w (by omega) (by rw[p_,<- e];exact l) (by rw[f];exact⟨_,x,q⟩)
 have f:(k+(a.toArray.size:Int)).toNat=j:=by rw[seqIndex_neg (by omega) g] at c;rw[p_,<- e];exact F_ c
 exact PySem.W.ki_setBack d (by omega) (by rw[p_,<- e];exact g) (by omega) (by rw[f];exact⟨_,x,q⟩)
def qd (b a:Option Int) (n:Nat):(sliceBounds b a none n).1=((HT.sIx n 0 b:Nat):Int)/\(sliceBounds b a none n).2.1=((HT.sIx n n a:Nat):Int)/\(sliceBounds b a none n).2.2=1:=by
 refine⟨?_,?_,rfl⟩
 ·cases b with
  |none=>simp [sliceBounds,HT.sIx]
  |some i =>
  simp only[sliceBounds,HT.sIx,Option.getD_none,show (1:Int)>0 by decide,if_true];by_cases h:i<0
  ·simp only[h,if_true] <;> omega
  simp only[h,Zb] <;> omega
 cases a with
 |none=>simp [sliceBounds,HT.sIx]
 |some i =>
 simp only[sliceBounds,HT.sIx,Option.getD_none,show (1:Int)>0 by decide,if_true];by_cases h:i<0
 ·simp only[h,if_true] <;> omega
 simp only[h,Zb] <;> omega
def nY (a:List Value) (b c:Option Int):slicePick a.toArray b c none=((a.drop (HT.sIx a.length 0 b)).take (HT.sIx a.length a.length c - HT.sIx a.length 0 b)).toArray:=by
 obtain⟨f,d,e⟩:=qd b c a.toArray.size;unfold slicePick;rw[f,d,e];simp only[sliceRange_one,pick_run,p_] <;> rfl
def Yl (K:Frag):V->Option Int->Option Int->Hp->VK->Prop:=fun x c b H Q=>∃a xs,x=.ref a/\SqL K H a xs/\∀p,H p=none->Q (.ref p) (upd H p (.lst (rN xs c b)))
def aeK:SlR X (Yl X.K):=by
 intro f s Z H x v w p d e t Q I m l pl j h;obtain⟨a,xs,rfl,k,q⟩:=h;cases m;obtain⟨i,r,g,n⟩:=I.list k;have c:=r.length;refine⟨"list",_,slot_list_getitem.lookup,g.isList.typeIs,?_⟩;refine wpAny_getItem_list_slice g.isList l pl j .none (by simp) ?_ (by rw[p_] <;> omega);rw[nY,<- c];refine⟨.ref s.heap.objs.size,_,I.laid (t':=s.toks) (o:=.lst (rN xs d e)) (fun b u q=>b_ _ q) (m_ _) ?_,rfl,q _ (I.hok.fresh (m_ _))⟩;exact⟨R_ (kW xs d e) n,_,0,(r.drop (HT.sIx xs.length 0 d)).take (HT.sIx xs.length xs.length e - HT.sIx xs.length 0 d),t_ _ rfl⟩
def adb:ab1 X (.builtin "len") (fun xs H Q=>∃p b,xs=[.ref p]/\(SqL X.K H p b\/SqT X.K H p b)/\Q (.int b.length) H):=by
 intro f s Z H xs us Q I r h;obtain⟨p,b,rfl,c,q⟩:=h;obtain⟨u,rfl,g⟩:=vals1 r;cases g;have j:=jX;rcases c with c | c
 ·obtain⟨d,e,pl,i⟩:=I.list c;have a:=e.length;exact Calls.call_len_list pl.isList (by simp only[p_] <;> omega) ⟨.int b.length,H,I.tok _,⟨s.toks+1,by rw[p_,a]⟩,q⟩
 obtain⟨d,e,pl,i⟩:=I.tuple c;have a:=e.length;exact len_tuple pl (by simp only[p_] <;> omega) ⟨.int b.length,H,I.tok _,⟨s.toks+1,by rw[p_,a]⟩,q⟩
def qe:ab1 X (.builtin "len") (fun xs H Q=>∃z,xs=[.str z]/\z.length<=sizeLine/\Q (.int z.length) H):=by
 intro a s Z H xs us Q I r h;obtain⟨z,rfl,c,q⟩:=h;obtain⟨u,rfl,t,rfl⟩:=vals1 r;have b:=jX;exact len_str (by omega) ⟨.int z.length,H,I.tok _,⟨_,rfl⟩,q⟩
def ab1.or {r b:List V->Hp->VK->Prop} (h:ab1 X f r) (h':ab1 X f b):ab1 X f (fun xs H Q=>r xs H Q\/b xs H Q):=by
 intro a s Z H xs us Q I c q;rcases q with q | q
 ·exact h a s Z H xs us Q I c q
 exact h' a s Z H xs us Q I c q
def qg:ab1 X (.type "list") (fun xs H Q=>∃p d,xs=[.ref p]/\(SqL X.K H p d\/SqT X.K H p d)/\∀l,H l=none->Q (.ref l) (upd H l (.lst d))):=by
 intro j s Z H xs us Q I r h;obtain⟨p,d,rfl,g,q⟩:=h;obtain⟨u,rfl,A⟩:=vals1 r;cases A;have k:∀(a:List Value),Vals d a->d.length<=sizeLine->∀(h':Heap) (f:Nat),(∀b z,s.heap.get? b=some z->h'.get? b=some z) ->
   h'.get? s.heap.objs.size=some { cls:=.type "list",dict:=none,data:=.seq a.toArray f,slots:=#[]}->EP X j Z Q (.ref s.heap.objs.size) { s with heap:=h'}:=fun a c m h' f i e =>
  ⟨.ref s.heap.objs.size,_,I.laid (t':=s.toks) i (m_ _) (show zc X.prog X.w _ h' _ (.lst d) from ⟨m,a,f,c,e⟩),rfl,q _ (I.hok.fresh (m_ _))⟩
 rcases g with g | g
 ·obtain⟨a,c,pl,m⟩:=I.list g;have t:=c.length;obtain⟨o,v,y,n,x⟩:=pl.isList;exact call_list_seq p (.inl rfl) v y x (fun h' f i e=>k a c m h' f i e) (by simp only[p_] <;> omega)
 obtain⟨a,c,pl,m⟩:=I.tuple g;have t:=c.length;obtain⟨o,v,y,n,x⟩:=pl;exact call_list_seq p (.inr rfl) v y x (fun h' f i e=>k a c m h' f i e) (by simp only[p_] <;> omega)
def nZ:ab1 X (.type "tuple") (fun xs H Q=>∃p d,xs=[.ref p]/\((SqL X.K H p d/\∀l,H l=none->Q (.ref l) (upd H l (.tup d)))\/(SqT X.K H p d/\Q (.ref p) H))):=by
 intro a s Z H xs us Q I r h;obtain⟨p,d,rfl,h⟩:=h;obtain⟨u,rfl,n⟩:=vals1 r;cases n;rcases h with ⟨g,q⟩ | ⟨g,q⟩
 ·obtain⟨c,f,pl,j⟩:=I.list g;have k:=f.length;refine call_tuple_list pl.isList (fun h' m=>?_) (by simp only[p_] <;> omega);have i:Inv X a Z H { s with heap:=h'}:=I.kept (t':=s.toks) m;have t:Inv X a Z (upd H h'.objs.size (.tup d)) { s with heap:=h'.push { cls:=.type "tuple",data:=.seq c.toArray}} :=
   i.laid (t':=s.toks) (fun b o e=>b_ _ e) (m_ _) (show zc X.prog X.w _ _ _ (.tup d) from ⟨j,c,f,acR.new _ _⟩)
  exact⟨.ref h'.objs.size,_,t,rfl,q _ (i.hok.fresh (m_ _))⟩
 obtain⟨c,f,pl,j⟩:=I.tuple g;exact call_tuple_same pl ⟨.ref p,H,I,rfl,q⟩
def tyV (K:Frag) (T:String) (x:V) (H:Hp):Prop:=match x with
 |.str _=>T="str"
 |.int _=>T="int"
 |.ref p=>(T="list"/\∃xs,SqL K H p xs)\/(T="tuple"/\∃xs,SqT K H p xs) \/
   (T="dict"/\((∃kvs,H p=some (.dK kvs))\/∃kvs,H p=some (.dT kvs)))\/(T="set"/\∃S n,H p=some (.set S n))
 |_=>False
def Bt {Z:St} (I:Inv X g Z H s) (r:RelV x v) (j:tyV X.K T x H):
  s.TypeIs v T/\∀a,v=.ref a->∃q,s.heap.get? a=some q/\q.dict=none:=by
 cases x with
 |str z=>obtain⟨t,rfl⟩:=r;cases (show T="str" from j);exact⟨typeIs_str s z t,fun _ e=>nomatch e⟩
 |int i=>obtain⟨t,rfl⟩:=r;cases (show T="int" from j);exact⟨typeIs_int s i t,fun _ e=>nomatch e⟩
 |ref p =>
  cases r;rcases j with ⟨rfl,xs,u⟩ | ⟨rfl,xs,b⟩ | ⟨rfl,b⟩ | ⟨rfl,S,n,b⟩
  ·obtain⟨f,_,pl,_⟩:=I.list u;refine⟨pl.isList.typeIs,fun a e=>?_⟩;cases e;obtain⟨o,n,e,c,h,_⟩:=pl;exact⟨o,e,h⟩
  ·rcases b with b | ⟨o,f,n,b,l,h,_⟩
   ·obtain⟨_,f,r,o,m,l,n,h,w⟩:=b.ok I.hok;refine⟨⟨o,m,l⟩,fun a e=>?_⟩;cases e;exact⟨o,m,w⟩
   refine⟨⟨o,I.kIn p o b,l⟩,fun a e=>?_⟩;cases e;exact⟨o,I.kIn _ o b,h⟩
  ·have z:∃o,s.heap.get? p=some o/\o.ExactDict:=by
    rcases b with ⟨kvs,b⟩ | ⟨kvs,b⟩
    ·obtain⟨_,_,_,_,o,_,_,e,d,_⟩:=I.hok p _ b;exact⟨o,e,d⟩
    obtain⟨_,_,_,_,o,_,_,e,d,_⟩:=I.hok p _ b;exact⟨o,e,d⟩
   obtain⟨o,e,d⟩:=z;refine⟨⟨o,e,d.1⟩,fun a k=>?_⟩;cases k;exact⟨o,e,d.2.1⟩
  obtain⟨o,_,_,_,e,d,_⟩:=I.hok p _ b;refine⟨⟨o,e,d.1⟩,fun a k=>?_⟩;cases k;exact⟨o,e,d.2.1⟩
 |_=>exact False.elim j
def Ym (K:Frag) (T:String) (r:V->List V->Hp->VK->Prop) (b:TE):TE:=fun Z H Q=>b Z H fun x a=>tyV K T x a/\r x [] a Q
def tBM (K:Frag) (T:String) (r:V->List V->Hp->VK->Prop) (c:TE) (t:TA):TE:=fun Z H Q=>c Z H fun x a=>tyV K T x a/\t Z a fun xs b=>r x xs b Q
variable {apos cpos:Pos}{T id:String}
def PJ (k:PlainAttrs T) (d:Slot T name id) (e:typeOf (.builtin id)=pure (.type "method_descriptor")) (l:MtR X id r) (j:PE X o to)
  (b:attributeBase o name X.env (eval o X.env)=eval o X.env:=by rfl) (c:(apos.endLine==cpos.line)=true:=by rfl):PE X (.Call (.Attribute o name apos) [] [] cpos) (Ym X.K T r to):=by
 intro a s Z H Q I h;refine wpAny_Call_method0_late b c (Ob (j a s Z H _ I h) fun v m ⟨x,p,f,g,q,t⟩=>?_);obtain⟨n,i⟩:=Bt f g q;exact⟨T,id,k,d,e,n,i,abk rfl (PySem.evalArgs_none (l a m Z p x [] v [] Q f g .nil t))⟩
def Uz (q:PlainAttrs T) (g:Slot T name id) (i:typeOf (.builtin id)=pure (.type "method_descriptor")) (y:MtR X id r) (n:PE X o to) (G:PA X (e::es) t)
  (d:attributeBase o name X.env (eval o X.env)=eval o X.env:=by rfl)
  (f:((backTo cpos (starEach (e::es) X.env)).all (fun x=>!x.1)&&(backToKw cpos (keywordEach [] X.env)).all (fun x=>x.1.isSome)
   && decide ((e::es).length+([]:List Keyword).length+(if ([]:List Keyword).isEmpty then 0 else 1)<30))=true:=by rfl)
  (c:(apos.endLine==cpos.line)=true:=by rfl) (A:starEach (e::es) X.env=(false,eval e X.env)::starEach es X.env:=by rfl) (b:(backTo cpos (starEach es X.env)).any (·.1)=false:=by rfl) :
  PE X (.Call (.Attribute o name apos) (e::es) [] cpos) (tBM X.K T r to t):=by
 intro a s Z H Q I h;refine wpAny_Call_method_late d f c rfl (Ob (n a s Z H _ I h) fun v z ⟨x,u,k,l,p,J⟩=>?_);obtain⟨E,m⟩:=Bt k l p;refine⟨T,id,q,g,i,E,m,?_⟩;have j:=G cpos a z Z u _ k J;rw[A] at j ⊢;refine abk (by show (false||(backTo cpos (starEach es X.env)).any (·.1))=false;rw[b] <;> rfl) (Calls.evalArgs_plain ?_);exact Ob j fun us F ⟨vs,w,B,D,C⟩=>y a F Z w x vs v us Q B l D C
end
def MtM (X:Cx) (b:String) (r:V->List V->Hp->VK->Prop):Prop :=
 ∀(a:List (Addr × Obj)) (s:Shared) (Z:St) (H:Hp) (x:V) (xs:List V) (v:Value) (us:List Value) (Q:VK),Inv X a Z H s->RelV x v->Vals xs us->r x xs H Q ->
  wpAny (model X.prog X.w) X.A (call (.builtin b) (v::us)) (EP X a Z Q) X.xe s
def Vals.one (r:Vals [x] us):∃u,us=[u]/\RelV x u:=vals1 r
def Vals.zero:∀{us:List Value},Vals [] us->us=[]
 |_,.nil=>rfl
def Vals.dropLast (h:Vals xs us):Vals xs.dropLast us.dropLast:=by
 induction h with
 |nil=>exact .nil
 |cons r t a =>
 cases t with
 |nil=>exact .nil
 |cons q t'=>exact .cons r a
def Vals.reverse (h:Vals xs us):Vals xs.reverse us.reverse:=by
 induction h with
 |nil=>exact .nil
 |cons r t a=>rw[List.reverse_cons,List.reverse_cons];exact Vals.append a (.cons r .nil)
def Vals.rep (h:Vals xs us):∀k:Nat,Vals (List.replicate k xs).flatten (List.replicate k us).flatten
 |0=>.nil
 |k+1=>by
  rw[ZK,ZK,aac,aac]
  exact Vals.append h (Vals.rep h k)
def vI {c:Type}(l:List c):l.eraseIdx (l.length - 1)=l.dropLast:=by
 induction l with
 |nil=>rfl
 |cons a r d =>
 cases r with
 |nil=>rfl
 |cons b r =>
  have e:(a::b::r).length - 1=((b::r).length - 1)+1:=by
   have f:(a::b::r).length=r.length+2:=rfl
   have g:(b::r).length=r.length+1:=rfl
   omega
  rw[e,List.eraseIdx_cons_succ,d]
  all_goals rfl
def foldl_rep (a:List Value):∀(k:Nat) (b:List Value),
  List.foldl (fun f d=>f++d) b.toArray (List.replicate k a.toArray)=(b++(List.replicate k a).flatten).toArray
 |0,b=>by simp
 |k+1,b=>by
  have e:b.toArray++a.toArray=(b++a).toArray:=by simp
  have c:(b++a)++(List.replicate k a).flatten=b++(List.replicate (k+1) a).flatten:=by
   rw[ZK,aac,Zt]
  rw[<- c,<- foldl_rep a k (b++a),<- e,ZK,List.foldl_cons]
section
variable {X:Cx}{pins:List (Addr × Obj)}{Z:St}
def Inv.lset {a its':List Value} (I:Inv X pins Z H s) (b:H l=some (.lst xs)) (e:s.heap.get? l=some { cls:=.type "list",data:=.seq a.toArray n}) (i:f a.toArray=its'.toArray) (c:Vals ys its') (g:ys.length<=sizeLine):
  Inv X pins Z (upd H l (.lst ys)) { s with heap:=s.heap.update l (Obj.mapSeq f),toks:=t'}:=by
 have q:=PySem.IsL.update e f;rw[i] at q;refine I.write (x:=l) (e:=l) (by rw[b];exact trivial) (.inl rfl) (fun j u h d=>(Zm s.heap (Obj.mapSeq f) (Ne.symm h)).trans d) ⟨_,q⟩ ?_;exact⟨g,its',_,c,q⟩
def Inv.lnew (I:Inv X pins Z H s) (c:Vals ys a) (b:ys.length<=sizeLine):
  Inv X pins Z (upd H s.heap.objs.size (.lst ys)) { s with heap:=s.heap.push { cls:=.type "list",data:=.seq a.toArray},toks:=t'} :=
 I.laid (fun _ _ q=>b_ _ q) (m_ _) ⟨b,a,0,c,t_ _ rfl⟩
def Inv.fresh (I:Inv X pins Z H s):H s.heap.objs.size=none:=I.hok.fresh (m_ _)
def Inv.lstM (I:Inv X pins Z H s) (b:H l=some (.lst xs)):xs.length<=sizeLine/\∃(a:List Value) (n:Nat),Vals xs a/\xs.length=a.length/\s.heap.get? l=some { cls:=.type "list",data:=.seq a.toArray n}:=by
 obtain⟨z,a,n,r,e⟩:=I.hok l _ b;exact⟨z,a,n,r,r.length,e⟩
def rO (h:n<=sizeLine):Builtin.List.listTooLong n=false:=by
 unfold Builtin.List.listTooLong;exact I_ (by omega)
def Ik:V->List V->Hp->VK->Prop:=fun x vs H Q=>∃l xs y,x=.ref l/\vs=[y]/\H l=some (.lst xs)/\xs.length<sizeLine/\Q .non (upd H l (.lst (xs++[y])))
def zM:MtM X "list.append" Ik:=by
 intro c s Z H x vs v us Q I g f h;obtain⟨l,xs,y,rfl,rfl,b,i,q⟩:=h;cases g;obtain⟨u,rfl,d⟩:=f.one;obtain⟨z,a,n,r,j,e⟩:=I.lstM b;refine abQ F.slot_list_append ⟨_,e,rfl⟩ F.entry_list_append (F.args_list_append_2 _ _) (list_append l a.toArray n u (by rw[p_];omega)) ⟨e,?_⟩;refine⟨.non,_,I.lset (its':=a++[u]) b e (by simp) (r.append (.cons d .nil)) ?_,rfl,q⟩;rw[d_,v_];omega
def Il:V->List V->Hp->VK->Prop:=fun x vs H Q=>∃l b xs a,x=.ref l/\vs=[.ref b]/\H l=some (.lst xs)/\H b=some (.lst a)/\xs.length+a.length<=sizeLine/\Q .non (upd H l (.lst (xs++a)))
def zN:MtM X "list.extend" Il:=by
 intro g s Z H x vs v us Q I t k h;obtain⟨l,b,xs,B,rfl,rfl,f,p,A,q⟩:=h;cases t;obtain⟨u,rfl,i⟩:=k.one;cases i;obtain⟨z,c,n,r,C,e⟩:=I.lstM f;obtain⟨y,a,o,m,w,j⟩:=I.lstM p;have hsz:c.toArray.size+a.toArray.size<=sizeLine:=by rw[p_,p_];omega
 have d:¬(!c.toArray.isEmpty&&Builtin.List.listTooLong (c.toArray.size+a.toArray.size))=true:=by rw[rO hsz,Bool.and_false];exact G_
 refine abQ F.slot_list_extend ⟨_,e,rfl⟩ F.entry_list_extend (F.args_list_extend_2 _ _)
  (AutoSeq1.list_extend_list_list_0 l c.toArray n b a.toArray o d (by rw[p_];omega) (by omega)) ⟨e,j,?_⟩
 refine⟨.non,_,I.lset (its':=c++a) f e (by simp) (r.append m) ?_,rfl,q⟩;rw[d_];omega
def Yn:V->List V->Hp->VK->Prop:=fun x vs H Q=>∃l xs y,x=.ref l/\vs=[]/\H l=some (.lst xs)/\xs[xs.length - 1]?=some y/\Q y (upd H l (.lst xs.dropLast))
def PK:MtM X "list.pop" Yn:=by
 intro f s Z H x vs v us Q I k i h;obtain⟨l,xs,y,rfl,rfl,d,m,q⟩:=h;cases k;have b:=i.zero;subst b;obtain⟨z,a,n,r,o,e⟩:=I.lstM d;obtain⟨u,j,g⟩:=r.get m;have c:a.toArray[a.toArray.size - 1]?=some u:=by show a.toArray[a.length - 1]?=some u;rw[<- abt,<- o];exact j
 refine abQ F.slot_list_pop ⟨_,e,rfl⟩ F.entry_list_pop (F.args_list_pop_1 _) (MeetsSeq.list_pop_last l a.toArray n u c (by rw[p_];omega)) ⟨e,?_⟩;refine⟨y,_,I.lset (its':=a.dropLast) d e ?_ r.dropLast ?_,g,q⟩
 ·show a.toArray.eraseIdxIfInBounds (a.toArray.size - 1)=a.dropLast.toArray;rw[p_,List.eraseIdxIfInBounds_toArray,vI]
 rw[List.length_dropLast];omega
def Bu:V->List V->Hp->VK->Prop:=fun x vs H Q=>∃l xs,x=.ref l/\vs=[]/\H l=some (.lst xs)/\Q .non (upd H l (.lst xs.reverse))
def vJ:MtM X "list.reverse" Bu:=by
 intro d s Z H x vs v us Q I g f h;obtain⟨l,xs,rfl,rfl,c,q⟩:=h;cases g;have b:=f.zero;subst b;obtain⟨z,a,n,r,i,e⟩:=I.lstM c;refine abQ F.slot_list_reverse ⟨_,e,rfl⟩ F.entry_list_reverse (F.args_list_reverse_1 _) (AutoSeq1.list_reverse_list_0 l a.toArray n (by rw[p_];omega)) ⟨e,?_⟩;refine⟨.non,_,I.lset (its':=a.reverse) c e (by simp) r.reverse ?_,rfl,q⟩;rw[aaa];omega
def Yo:R2:=fun x y H Q=>∃l b xs a,x=.ref l/\y=.ref b/\H l=some (.lst xs)/\H b=some (.lst a)/\xs.length+a.length<=sizeLine/\∀p,H p=none->Q (.ref p) (upd H p (.lst (xs++a)))
def afl:OpR X (binaryOp .Add) Yo:=by
 intro d s Z H x y v u Q I m o h;obtain⟨l,b,xs,B,rfl,rfl,g,k,A,q⟩:=h;cases m;cases o;obtain⟨z,c,n,r,C,e⟩:=I.lstM g;obtain⟨t,a,w,j,p,f⟩:=I.lstM k;refine PySem.P.add_list e f ?_ (by rw[p_,p_];omega);have i:c.toArray++a.toArray=(c++a).toArray:=by simp
 rw[i];exact⟨.ref _,_,I.lnew (t':=s.toks) (r.append j) (by rw[d_];omega),rfl,q _ I.fresh⟩
def Yp:R2:=fun x y H Q=>∃l k xs,x=.ref l/\y=.int k/\H l=some (.lst xs) /\ -(2^63)<=k/\k<2^63/\xs.length*k.toNat<=sizeLine /\
 ∀p,H p=none->Q (.ref p) (upd H p (.lst (List.replicate k.toNat xs).flatten))
def len_rep {a:Type}(xs:List a) (k:Nat):(List.replicate k xs).flatten.length=k*xs.length:=by
 induction k with
 |zero=>simp
 |succ k b=>rw[ZK,aac,d_,b,Nat.succ_mul,Nat.add_comm]
def PL:OpR X (binaryOp .Mult) Yp:=by
 intro p s Z H x y v u Q I E C h;obtain⟨l,k,xs,rfl,rfl,A,D,B,w,q⟩:=h;cases E;obtain⟨t,rfl⟩:=C;obtain⟨z,b,n,r,J,e⟩:=I.lstM A;have i:b.toArray.size*k.toNat<=sizeLine:=by rw[p_,<- J];exact w
 have d:¬b.toArray.size*k.toNat>(2^63 - 1) / 8:=by
  have:(sizeLine:Nat)<=(2^63 - 1) / 8:=by decide
  omega
 have g:¬(!Builtin.List.listFitsIndex k)=true:=by rw[fitsIndex_both D B];exact G_
 have c:¬Builtin.List.listTooLong (b.toArray.size*k.toNat)=true:=by rw[rO i];exact G_
 have f:List.foldl (fun o j=>o++j) #[] (List.replicate (if b.toArray.isEmpty=true then 0 else k.toNat) b.toArray)=(List.replicate k.toNat b).flatten.toArray:=by
  have G:∀m:Nat,List.foldl (fun o j=>o++j) #[] (List.replicate m b.toArray)=(List.replicate m b).flatten.toArray:=fun m=>by have:=foldl_rep b m [];rw[aa2] at this;exact this
  rw[G];cases b with
  |nil=>simp
  |cons a K=>rw[if_neg (by simp)]
 refine wpAny_binaryOp_repeat_ref (T:="list") (U:="int") (by decide) ⟨_,e,rfl⟩ (fun s'=>typeIs_int s' k t) noFill_list_mul F.fills_int_mul F.slot_int_rmul repeat_list F.slot_int_index.lookup
  (abQ F.slot_int_rmul (typeIs_int s k t) F.entry_int_rmul (F.args_int_rmul_2 _ _) (int___rmul___int_list k t l b.toArray n)
   ⟨e,rfl,⟨_,e,rfl⟩,abQ F.slot_list_mul ⟨_,e,rfl⟩ F.entry_list_mul (F.args_list_mul_2 _ _) (AutoListH.list___mul___list_int_3 l b.toArray n k t g d c) ⟨e,?_⟩⟩)
 rw[f];exact⟨.ref _,_,I.lnew (t':=s.toks) (r.rep k.toNat) (by rw[len_rep,Nat.mul_comm];exact w),rfl,q _ I.fresh⟩
set_option maxRecDepth 100000 in
end
section
variable {κ:Type}[DecidableEq κ]
def fC (kvs:List (κ × V)) (k:κ):Option V:=(kvs.find? fun a=>decide (a.1=k)).map (·.2)
def putK (kvs:List (κ × V)) (k:κ) (v:V):List (κ × V) :=
 if (kvs.any fun a=>decide (a.1=k))=true then kvs.map (fun a=>if a.1=k then (a.1,v) else a) else kvs++[(k,v)]
def fG {k:κ} (e:p.1=k):fC (p::r) k=some p.2:=by simp [fC,aaQ,e]
def fH {k:κ} (e:¬p.1=k):fC (p::r) k=fC r k:=by simp [fC,aaQ,e]
def rP (k:κ):∀kvs:List (κ × V),(kvs.any fun a=>decide (a.1=k))=(fC kvs k).isSome
 |[]=>rfl
 |p::r=>by
  rw[abB]
  by_cases e:p.1=k
  ·
   simp only[fG e,L_ e,Bool.true_or,aaH]
  ·
   rw[fH e,I_ e,Bool.false_or];exact rP k r
def fL (kvs:List (κ × V)) (k:κ) (v:V):(putK kvs k v).length<=kvs.length+1:=by
 unfold putK;split
 ·rw[g_];omega
 rw[d_,j_,Zu];omega
def acl.isSome_eq (r:acl o u):o.isSome=u.isSome:=by
 cases o with
 |none=>cases u with
  |none=>rfl
  |some _=>exact (show False from r).elim
 |some _=>cases u with
  |none=>exact (show False from r).elim
  |some _=>rfl
def KV.val (r:KV kvs vs) (k:κ):acl (fC kvs k) (valueAt vs k):=by
 unfold KV at r;induction r with
 |nil=>exact True.intro
 |@cons p q ps a h t g =>
 obtain⟨d,f⟩:=h;by_cases e:p.1=k
 ·have c:q.1=k:=d.symm.trans e;have b:valueAt (q::a) k=some q.2:=by simp [valueAt,aaQ,c]
  rw[fG e,b];exact f
 have c:¬q.1=k:=fun z=>e (d.trans z);have b:valueAt (q::a) k=valueAt a k:=by simp [valueAt,aaQ,c]
 rw[fH e,b];exact g
def KV.any (r:KV kvs vs) (k:κ):(kvs.any fun a=>decide (a.1=k))=vs.any fun a=>decide (a.1=k):=by
 unfold KV at r;induction r with
 |nil=>rfl
 |cons h t b=>rw[abB,abB,b,h.1]
def KV.repl (r:KV kvs vs) (k:κ) (d:RelV y u):
  KV (kvs.map fun a=>if a.1=k then (a.1,y) else a) (vs.map fun a=>if a.1=k then (a.1,u) else a):=by
 unfold KV at r ⊢;induction r with
 |nil=>exact .nil
 |@cons p q ps g h t f =>
 rw[J_,J_];refine .cons ?_ f;obtain⟨b,c⟩:=h;by_cases e:p.1=k
 ·rw[if_pos e,if_pos (b.symm.trans e)];exact⟨b,d⟩
 rw[if_neg e,if_neg (fun z=>e (b.trans z))];exact⟨b,c⟩
def KV.put (r:KV kvs vs) (k:κ) (a:RelV y u):KV (putK kvs k y) (stored vs k u):=by
 unfold putK stored;rw[r.any k];by_cases e:(vs.any fun b=>decide (b.1=k))=true
 ·rw[if_pos e,if_pos e];exact r.repl k a
 rw[if_neg e,if_neg e];exact Paired.snoc r ⟨rfl,a⟩
def KV.length {vs:List (κ × Value)} (r:KV kvs vs):kvs.length=vs.length:=aa7 r
end
def mF (r:RelV (kV k) u):(bI P w).is k u=true:=by
 cases k with
 |inl i=>obtain⟨t,e⟩:=(show ∃t,u=Value.int i t from r);subst e;exact rF P w i t
 |inr x=>obtain⟨t,e⟩:=(show ∃t,u=Value.str x t from r);subst e;exact rG P w x t
def oU:∀{a:List Key}{us:List Value},Vals (a.map kV) us->ItemsAre (bI P w) a us
 |[],_,r=>by rw[aaA] at r;cases r;exact .nil
 |k::a,_,r=>by
  rw[J_] at r
  cases r with
  |cons h t=>exact .cons (mF h) (oU t)
abbrev KT (H:Hp):List (List Key × V)->List (List Key × Addr × Value)->Prop:=Paired fun p q=>p.1=q.1/\H q.2.1=some (.tup (p.1.map kV))/\RelV p.2 q.2.2
def KT.val (r:KT H kvs xs) (k:List Key):acl (fC kvs k) ((atKey xs k).map (·.2)):=by
 induction r with
 |nil=>exact True.intro
 |@cons p q ps a h t g =>
 obtain⟨d,_,f⟩:=h;by_cases e:p.1=k
 ·have c:q.1=k:=d.symm.trans e;have b:atKey (q::a) k=some q.2:=by simp [atKey,aaQ,c]
  rw[fG e,b];exact f
 have c:¬q.1=k:=fun z=>e (d.trans z);have b:atKey (q::a) k=atKey a k:=by simp [atKey,aaQ,c]
 rw[fH e,b];exact g
def KT.repl (r:KT H kvs xs) (k:List Key) (f:RelV y u):
  KT H (kvs.map fun b=>if b.1=k then (b.1,y) else b) (xs.map (putAt k u)):=by
 induction r with
 |nil=>exact .nil
 |@cons p q ps i h t g =>
 rw[J_,J_];refine .cons ?_ g;obtain⟨a,c,d⟩:=h;unfold putAt;by_cases e:p.1=k
 ·rw[if_pos e,if_pos (a.symm.trans e)];exact⟨a,c,f⟩
 rw[if_neg e,if_neg (fun z=>e (a.trans z))];exact⟨a,c,d⟩
def KT.put (r:KT H kvs xs) (k:List Key) (d:H b=some (.tup (k.map kV))) (a:RelV y u):
  KT H (putK kvs k y) (storedH xs k b u):=by
 have e:(kvs.any fun c=>decide (c.1=k))=(atKey xs k).isSome:=by rw[rP,(r.val k).isSome_eq,Option.isSome_map]
 unfold putK storedH;rw[e];by_cases q:(atKey xs k).isSome=true
 ·rw[if_pos q,if_pos q];exact r.repl k a
 rw[if_neg q,if_neg q];exact Paired.snoc r ⟨rfl,d,a⟩
def KT.keeps (r:KT H kvs xs) (a:∀b ys,H b=some (.tup ys)->H' b=some (.tup ys)):KT H' kvs xs :=
 Paired.mapP r fun _ _ z=>⟨z.1,a _ _ z.2.1,z.2.2⟩
section
variable {P:Program}{w:World}
def Ly (b:HOk P w H h) (e:Rd H a u):zc P w H h a u:=e.ok b
def oV (b:HOk P w H h) (e:Rd H a (.dK kvs)):kvs.length<=sizeLine/\(a==sysModules)=false/\∃vs,KV kvs vs/\h.DictOf (bI P w) a vs :=
 show zc P w H h a (.dK kvs) from Ly b e
def rQ (b:HOk P w H h) (e:H a=some (.dK kvs)):kvs.length<=sizeLine/\(a==sysModules)=false/\∃vs,KV kvs vs/\h.DictOf (bI P w) a vs:=oV b (.inl e)
def mG (i:HOk P w H h) (e:H a=some (.tup (c.map kV))):(tupleKind (bI P w)).is h c a:=by
 obtain⟨_,b,r,o,g,d,n,f,_⟩:=(show zc P w H h a (.tup (c.map kV)) from i a _ e);exact⟨o,b.toArray,n,g,d,f,by simpa using oU r⟩
def oW (f:HOk P w H h) (e:Rd H a (.dT kvs)):kvs.length<=sizeLine/\(a==sysModules)=false /\
  ∃xs,KT H kvs xs/\h.DictOfH (tupleKind (bI P w)) a xs:=by
 obtain⟨z,y,xs,r,o,n,ep,s,g,i,k,j⟩:=(show zc P w H h a (.dT kvs) from Ly f e);refine⟨z,y,xs,r,o,n,ep,s,g,i,k,fun x b=>?_,j⟩;have c:∀{l:List (List Key × V)} {m:List (List Key × Addr × Value)},KT H l m->∀x∈m,(tupleKind (bI P w)).is h x.1 x.2.1:=by
  intro l m q;induction q with
  |nil=>intro x b;exact nomatch b
  |@cons p q ps v d t u =>
  intro x b;rcases x_.mp b with e | b
  ·subst e;exact mG f (by rw[<- d.1];exact d.2.1)
  exact u x b
 exact c r x b
def UG (b:HOk P w H h) (e:H a=some (.dT kvs)):kvs.length<=sizeLine/\(a==sysModules)=false /\
  ∃xs,KT H kvs xs/\h.DictOfH (tupleKind (bI P w)) a xs:=oW b (.inl e)
end
def acB (H:Hp) (a:Addr) (y:V) (r:Option V):Prop :=
 (∃kvs k,Rd H a (.dK kvs)/\y=kV k/\r=fC kvs k)\/∃kvs k b,Rd H a (.dT kvs)/\y=.ref b/\H b=some (.tup (k.map kV))/\r=fC kvs k
def adE (H:Hp) (a:Addr) (y v:V) (H':Hp):Prop :=
 (∃kvs k,H a=some (.dK kvs)/\y=kV k/\kvs.length<sizeLine/\H'=upd H a (.dK (putK kvs k v))) \/
 ∃kvs k b,H a=some (.dT kvs)/\y=.ref b/\H b=some (.tup (k.map kV))/\kvs.length<sizeLine/\H'=upd H a (.dT (putK kvs k v))
def acB.k {k:Key} (e:H a=some (.dK kvs)):acB H a (kV k) (fC kvs k):=.inl ⟨kvs,k,.inl e,rfl,rfl⟩
def acB.t {k:List Key} (e:H a=some (.dT kvs)) (c:H b=some (.tup (k.map kV))):acB H a (.ref b) (fC kvs k):=.inr ⟨kvs,k,b,.inl e,rfl,c,rfl⟩
def adE.k {k:Key} (e:H a=some (.dK kvs)) (b:kvs.length<sizeLine):adE H a (kV k) v (upd H a (.dK (putK kvs k v))):=.inl ⟨kvs,k,e,rfl,b,rfl⟩
def adE.t {k:List Key} (e:H a=some (.dT kvs)) (d:H b=some (.tup (k.map kV))) (c:kvs.length<sizeLine):
  adE H a (.ref b) v (upd H a (.dT (putK kvs k v))):=.inr ⟨kvs,k,b,e,rfl,d,c,rfl⟩
section
variable {X:Cx}{pins:List (Addr × Obj)}{Z:St}
def Inv.big (I:Inv X pins Z H s):sysModules<s.heap.objs.size:=by
 have h:mainGlobals<s.heap.objs.size:=(I.mod.glob.keeps I.bk).lt;exact Zo (by decide) h
def zO (x:A.units+1<cLine) (I:Inv X pins Z H s) (g:acB H a y (some v)) (q:RelV y u) (h:∀f s',Inv X pins Z H s'->RelV v f->Q f s'):
  wpAny (model X.prog X.w) A (getItem (.ref a) u) Q E s:=by
 rcases g with ⟨kvs,k,e,j,l⟩ | ⟨kvs,k,b,e,j,B,l⟩
 ·subst j;obtain⟨z,t,vs,d,i⟩:=oV I.hok e;obtain⟨f,n,c⟩:=acl.some_of (v:=v) (o:=valueAt vs k) (by rw[l];exact d.val k);exact wpAny_getItem_of (mF q) i.mapOf n (h f _ (I.tok _) c)
 subst j;cases (show u=Value.ref b from q);obtain⟨z,t,xs,d,i⟩:=oW I.hok e;obtain⟨f,n,c⟩:=acl.some_of (v:=v) (o:=(atKey xs k).map (·.2)) (by rw[l];exact d.val k);obtain⟨p,r,m⟩:=abl.mp n;refine wpAny_getItem_heap (abF x) (mG I.hok B) i r ?_;rw[m];exact h f _ (I.tok _) c
def Yq (m:A.units+1<cLine) (I:Inv X pins Z H s) (g:acB H a y o) (j:RelV y u) (h:∀s',Inv X pins Z H s'->Q (.bool o.isSome) s'):
  wpAny (model X.prog X.w) A (compareOp .In u (.ref a)) Q E s:=by
 rcases g with ⟨kvs,k,e,f,l⟩ | ⟨kvs,k,b,e,f,n,l⟩
 ·subst f;obtain⟨z,i,vs,c,d⟩:=oV I.hok e;refine wpAny_in_of (mF j) i d.mapOf ?_;rw[<- (c.val k).isSome_eq,<- l];exact h _ (I.tok _)
 subst f;cases (show u=Value.ref b from j);obtain⟨z,i,xs,c,d⟩:=oW I.hok e;refine wpAny_in_heap (abF m) (mG I.hok n) i d ?_;have q:=(c.val k).isSome_eq;rw[Option.isSome_map] at q;rw[<- q,<- l];exact h _ (I.tok _)
def Im (m:A.units+1<cLine) (I:Inv X pins Z H s) (g:acB H a y o) (j:RelV y u) (h:∀s',Inv X pins Z H s'->Q (.bool (!o.isSome)) s'):
  wpAny (model X.prog X.w) A (compareOp .NotIn u (.ref a)) Q E s:=by
 rcases g with ⟨kvs,k,e,f,l⟩ | ⟨kvs,k,b,e,f,n,l⟩
 ·subst f;obtain⟨z,i,vs,c,d⟩:=oV I.hok e;refine wpAny_notIn_of (mF j) i d.mapOf ?_;rw[<- (c.val k).isSome_eq,<- l];exact h _ (I.tok _)
 subst f;cases (show u=Value.ref b from j);obtain⟨z,i,xs,c,d⟩:=oW I.hok e;refine wpAny_notIn_heap (abF m) (mG I.hok n) i d ?_;have q:=(c.val k).isSome_eq;rw[Option.isSome_map] at q;rw[<- q,<- l];exact h _ (I.tok _)
def lK (I:Inv X pins Z H s) (mu:Mut (H a)) (f:Heap.SameBut a s.heap h') (h:∃q,h'.get? a=some q) (c:zc X.prog X.w (upd H a d) h' a d):
  Inv X pins Z (upd H a d) { s with heap:=h',toks:=t'} :=
 I.write (x:=a) (e:=a) mu (.inl rfl) (fun b q g z=>(f.2 b g).trans z) h c
def vK (z:kvs.length<=sizeLine) (c:(a==sysModules)=false) (b:KV kvs vs) (d:h'.DictOf (bI P w) a vs):
  zc P w H' h' a (.dK kvs):=⟨z,c,vs,b,d⟩
def zP (O:A.units+1<cLine) (I:Inv X pins Z H s) (g:adE H a y v H') (B:RelV y u) (D:RelV v r) (h:∀s',Inv X pins Z H' s'->Q () s'):
  wpAny (model X.prog X.w) A (setItem (.ref a) u r) Q E s:=by
 rcases g with ⟨kvs,k,e,p,l,n⟩ | ⟨kvs,k,b,e,p,C,l,n⟩
 ·subst p n;obtain⟨z,t,vs,d,j⟩:=rQ I.hok e;have x:vs.length<=sizeLine:=by rw[<- d.length];exact z
  have m:(putK kvs k v).length<=sizeLine:=by have:=fL kvs k v;omega
  refine wpAny_setItem_pairs (hsz:=x) (mF B) j fun h' f o=>h _ ?_;have M:∃q,h'.get? a=some q:=let ⟨q,_,_,i,_⟩:=f;⟨q,i⟩;exact lK I (by rw[e];exact True.intro) o M (vK m t (d.put k D) f)
 subst p n;cases (show u=Value.ref b from B);obtain⟨z,t,xs,d,j⟩:=UG I.hok e;have x:xs.length<=sizeLine:=by rw[<- aa7 d];exact z
 have m:(putK kvs k v).length<=sizeLine:=by have:=fL kvs k v;omega
 refine wpAny_setItem_heap (hsz:=x) (abF O) (mG I.hok C) j fun h' f o=>h _ ?_;obtain⟨q,N,ep,i,G,J,L,_,K⟩:=f;refine lK I (by rw[e];exact True.intro) o ⟨q,i⟩ ⟨m,t,_,(d.put k C D).keeps fun c P F=>?_,q,N,ep,i,G,J,L,K⟩;rw[aK (TJ F e (fun z=>nomatch z))];exact F
end
def Io (i:Expr):Prop:=∀b a,subscripted i false b a=operate [b,a] (getItem b a)
def Ip (q:typeLookup (.type T) "__getitem__"=pure (some (.builtin n))) (p:Io a) (h:wpAny (model prog w) A (eval b env) (fun o e=>wpAny (model prog w) A (eval a env) (fun i c=>c.TypeIs o T/\wpAny (model prog w) A (getItem o i) Q E c) E e) E s):
  wpAny (model prog w) A (eval (.Subscript b a l) env) Q E s:=by
 refine Subscript_ (Zz h (fun o e k=>Zz k (fun i c d=>?_) fun _ _ x=>x) fun _ _ x=>x);obtain⟨m,d⟩:=d;unfold subscriptTail;refine a_ ?_;rw[getitemInPython_of_ne m.not_modules];refine a_ (wpAny_specialOf m q ?_);have g:wpAny (model prog w) A (subscripted a false o i) (fun r f=>wpAny (model prog w) A (letTemporaryGo b o r >>= fun _=>pure r) Q E f) E c:=by rw[p o i];exact wpAny_operating (Zz d (fun r f j=>a_ (wpAny_letTemporaryGo (k_ j))) fun _ _ x=>x)
 first
  |exact k_ (a_ g)
  |exact a_ (k_ (a_ g))
  |exact a_ g
def rR {Z:St} (I:Inv X c Z H s) (g:acB H a y o):s.TypeIs (.ref a) "dict":=by
 rcases g with ⟨kvs,k,e,_,_⟩ | ⟨kvs,k,b,e,_,_,_⟩
 ·obtain⟨_,_,vs,_,d⟩:=oV I.hok e;exact d.typeIs
 obtain⟨_,_,xs,_,d⟩:=oW I.hok e;exact d.typeIs
def UJ (d e:TE):TE:=fun Z H Q=>d Z H fun x c=>e Z c fun y b=>∃a v,x=.ref a/\acB b a y (some v)/\Q v b
def Yr (e d:TE):TE:=fun Z H Q=>e Z H fun y c=>d Z c fun x b=>∃a o,x=.ref a/\acB b a y o/\Q (.bl o.isSome) b
def Ir (e d:TE):TE:=fun Z H Q=>e Z H fun y c=>d Z c fun x b=>∃a o,x=.ref a/\acB b a y o/\Q (.bl (!o.isSome)) b
def UL (c f g:TE):TS:=fun D Z H=>g Z H fun v e=>c Z e fun x d=>f Z d fun y H3=>∃a b,x=.ref a/\adE H3 a y v b/\D.nx Z b
def xV (q:X.A.units+1<cLine) (e:PE X o td) (t:PE X i ty) (n:Io i):PE X (.Subscript o i pos) (UJ td ty):=by
 intro b s Z H Q I h;refine Ip PySem.F.slot_dict_getitem.lookup n (Ob (e b s Z H _ I h) fun u m ⟨x,j,f,k,B⟩=>Ob (t b m Z j _ f B) fun E G ⟨y,l,d,r,a,v,z,g,p⟩=>?_);subst z;obtain rfl:u=Value.ref a:=k;exact⟨rR d g,zO q d g r fun D C w c=>⟨v,l,w,c,p⟩⟩
def PN (p:X.A.units+1<cLine) (r:PE X i ty) (c:PE X o td):PC X .In i o (Yr ty td):=by
 intro b s Z H Q I h;refine Ob (r b s Z H _ I h) fun B l ⟨y,e,d,q,w⟩=>Ob (c b l Z e _ d w) fun u C ⟨x,k,m,f,a,j,v,g,n⟩=>?_;subst v;obtain rfl:u=Value.ref a:=f;exact Yq p m g q fun z t=>⟨.bl j.isSome,k,t,rfl,n⟩
def oX (p:X.A.units+1<cLine) (r:PE X i ty) (c:PE X o td):PC X .NotIn i o (Ir ty td):=by
 intro b s Z H Q I h;refine Ob (r b s Z H _ I h) fun B l ⟨y,e,d,q,w⟩=>Ob (c b l Z e _ d w) fun u C ⟨x,k,m,f,a,j,v,g,n⟩=>?_;subst v;obtain rfl:u=Value.ref a:=f;exact Im p m g q fun z t=>⟨.bl (!j.isSome),k,t,rfl,n⟩
def Iu (B:X.A.units+1<cLine) (c:PE X o td) (F:PE X i ty) (l:PE X value tv) (p:swapsWith value (some (.Subscript o i pos')) pos.line X.env=pure false) :
  PS X (.Assign [.Subscript o i pos'] value pos) (UL td ty tv):=by
 intro b s Z H D I h;refine wpAny_Assign_Subscript (Ob (l b s Z H _ I h) fun r n ⟨v,f,e,d,K⟩=>Ob (c b n Z f _ e K) fun u C ⟨x,m,q,j,w⟩=>Ob (F b C Z m _ q w) fun M L ⟨y,H3,G,E,a,z,J,g,t⟩=>?_) p;subst J;obtain rfl:u=Value.ref a:=j;exact zP B G g E d fun N k=>⟨Z,z,k,t⟩
def rT (h:Heap) (a:sysModules<h.objs.size):zc P w H (h.push { cls:=.type "dict",data:=.dict #[]}) h.objs.size (.dK []) :=
 ⟨Zx _,Zy.mpr (Ne.symm (K_ a)),[],.nil,Heap.DictOf.new h⟩
def PP:TE:=fun _ H Q=>∀p,H p=none->Q (.ref p) (upd H p (.dK []))
def rW:PE X (.Dict [] [] pos) PP:=fun b s Z H Q I h =>
 wpAny_Dict_empty ⟨.ref s.heap.objs.size,_,I.laid (a:=s.heap.objs.size) (o:=.dK []) (t':=s.toks) (fun _ _ q=>b_ _ q) (m_ _) (rT s.heap I.big),rfl,h _ (I.hok.fresh (m_ _))⟩
def vL:List (TE × TE)->St->Hp->(List (V × V)->Hp->Prop)->Prop
 |[],_,H,Q=>Q [] H
 | (tk,tv)::r,Z,H,Q=>tk Z H fun x b=>tv Z b fun y a=>vL r Z a fun ps H3=>Q ((x,y)::ps) H3
abbrev VV:List (V × V)->List (Value × Value)->Prop:=Paired fun p q=>RelV p.1 q.1/\RelV p.2 q.2
def PPs (X:Cx) (d:Pos) (c:List (Option Expr)) (a:List Expr) (e:List (TE × TE)):Prop :=
 ∀(b:List (Addr × Obj)) (s:Shared) (Z:St) (H:Hp) (Q:List (V × V)->Hp->Prop),Inv X b Z H s->vL e Z H Q ->
  wpAny (model X.prog X.w) X.A (evalPairs (pairTrees c a X.env d)) (fun vs s'=>∃ps H',Inv X b Z H' s'/\VV ps vs/\Q ps H') X.xe s
def xW:PPs X a [] [] []:=fun b s Z H Q I h=>pairTrees_nil_walk ⟨[],H,I,.nil,h⟩
def rY (g:PE X k tk) (m:PE X v e) (p:PPs X c f vs b):
  PPs X c (some k::f) (v::vs) ((tk,e)::b):=fun a s Z H Q I h =>
 pairTrees_cons_walk (Ob (g a s Z H _ I h) fun u o ⟨x,j,i,l,B⟩=>Ob (m a o Z j _ i B) fun D w ⟨y,n,q,z,t⟩ =>
  Ob (p a w Z n _ q t) fun ws C ⟨ps,H3,A,d,r⟩=>⟨(x,y)::ps,H3,A,.cons ⟨l,z⟩ d,r⟩)
def jd (kvs a:List (Key × V)):List (Key × V):=a.foldl (fun b c=>putK b c.1 c.2) kvs
def KV.merge:∀{a:List (Key × V)}{b:List (Key × Value)}{kvs:List (Key × V)}{vs:List (Key × Value)},KV a b->KV kvs vs->KV (jd kvs a) (merged vs b):=by
 intro a b kvs vs r;unfold KV at r;induction r generalizing kvs vs with
 |nil=>intro q;exact q
 |@cons p q ps f h t d =>
 intro c;have e:KV (putK kvs p.1 p.2) (stored vs q.1 q.2):=by have:=c.put p.1 h.2;rw[<- h.1];exact this
 exact d e
def iY:∀(a kvs:List (Key × V)),(jd kvs a).length<=kvs.length+a.length
 |[],kvs=>by show kvs.length<=kvs.length+0;omega
 |p::r,kvs=>by
  have b:=iY r (putK kvs p.1 p.2)
  have c:=fL kvs p.1 p.2
  show (jd (putK kvs p.1 p.2) r).length<=_
  rw[j_];omega
def mH:∀{kvs:List (Key × V)}{ws:List (Value × Value)},VV (kvs.map fun e=>(kV e.1,e.2)) ws->∃d,Carries (bI P w) ws d/\KV kvs d
 |[],_,r=>by rw[aaA] at r;cases r;exact⟨[],True.intro,.nil⟩
 |p::kvs,_,r=>by
  rw[J_] at r
  cases r with
  |@cons a b i g h t =>
   obtain⟨d,c,q⟩:=mH (P:=P) (w:=w) t
   obtain⟨j,f⟩:=b
   exact⟨(p.1,f)::d,⟨mF h.1,rfl,c⟩,.cons ⟨rfl,h.2⟩ q⟩
def UT (a:List (TE × TE)):TE:=fun Z H Q=>∀p,H p=none->vL a Z (upd H p (.dK [])) fun ps b=>b p=some (.dK [])/\∃kvs:List (Key × V),ps=kvs.map (fun c=>(kV c.1,c.2))/\kvs.length<=15/\Q (.ref p) (upd b p (.dK (jd [] kvs)))
def xX (h:PPs X i b d k) (g:b.all (·.isSome)=true) (t:b.length=d.length) (C:b≠[]) (l:b.length<=15):PE X (.Dict b d i) (UT k):=by
 intro j s Z H Q I q;have A:=I.hok.fresh (m_ s.heap.objs.size);have u:=I.laid (a:=s.heap.objs.size) (o:=.dK []) (h':=s.heap.push { cls:=.type "dict",data:=.dict #[]}) (t':=s.toks) (fun _ _ q=>b_ _ q) (m_ _) (rT s.heap I.big);refine wpAny_Dict_walk (knd:=bI X.prog X.w) g t C l (Ob (h j _ Z _ _ u (q _ A)) fun ws M ⟨ps,K,n,m,e,kvs,ep,L,D⟩=>?_);subst ep;obtain⟨y,c,v⟩:=mH (P:=X.prog) (w:=X.w) m;obtain⟨z,F,E,r,p⟩:=rQ n.hok e;cases r;refine⟨y,c,p,fun h' f B=>⟨.ref s.heap.objs.size,_,?_,rfl,D⟩⟩;have J:(jd [] kvs).length<=sizeLine:=by have G:=iY kvs [];rw[Zu] at G;rw[abh];omega
 have x:∃q,h'.get? s.heap.objs.size=some q:=let ⟨q,_,_,hq,_⟩:=f;⟨q,hq⟩;exact lK n (by rw[e];exact True.intro) B x (vK J F (v.merge .nil) f)
structure M2 (X:Cx) (o:Expr) (m:Str) (apos:Pos) (e f:Expr) (cpos:Pos):Prop where
 base:attributeBase o m X.env (eval o X.env)=eval o X.env
 few:((backTo cpos (starEach [e,f] X.env)).all (fun x=>!x.1)&&(backToKw cpos (keywordEach [] X.env)).all (fun x=>x.1.isSome)
  && decide (([e,f]:List Expr).length+([]:List Keyword).length+(if ([]:List Keyword).isEmpty then 0 else 1)<30))=true
 line:(apos.endLine==cpos.line)=true
 trees:backTo cpos (starEach [e,f] X.env)=[(false,eval e X.env),(false,eval f X.env)]
def IsD (H:Hp) (a:Addr):Prop:=(∃kvs,Rd H a (.dK kvs))\/∃kvs,Rd H a (.dT kvs)
def Bv {Z:St} (I:Inv X g Z H s) (d:IsD H a):
  s.TypeIs (.ref a) "dict"/\(∀b,Value.ref a=.ref b->∃c,s.heap.get? b=some c/\c.dict=none)/\(a==sysModules)=false:=by
 rcases d with ⟨kvs,e⟩ | ⟨kvs,e⟩
 ·obtain⟨_,i,vs,_,f⟩:=oV I.hok e;refine⟨f.typeIs,fun b q=>?_,i⟩;cases q;obtain⟨c,_,_,j,h,_⟩:=f;exact⟨c,j,h.2.1⟩
 obtain⟨_,i,xs,_,f⟩:=oW I.hok e;refine⟨f.typeIs,fun b q=>?_,i⟩;cases q;obtain⟨c,_,_,j,h,_⟩:=f;exact⟨c,j,h.2.1⟩
end L2
namespace Att
open PySem PySem.W PySem.Calls PyProof.Rows
def lD:∀(ns:List Int) (vs:List Value),WellAll P h vs (ns.map WData.int)->IntsAre vs ns:=by
 intro ns;induction ns with
 |nil=>intro vs w;rw[aaA] at w;cases w;exact .nil
 |cons n ns c =>
 intro vs w;rw[J_] at w;cases w with
 |cons a b =>
 cases a;exact .cons _ _ (c _ b)
def zQ {l:OpenLaw} (w:l.most=some n) (b:l.row.toRowW.claim.pre args=true) (k:WellAll P h c args):
  ∃a vs ns,c=[Value.ref a]/\args=[WData.list (ns.map WData.int)]/\h.get? a=some { cls:=.type "list",data:=.seq vs.toArray}/\IntsAre vs ns/\ns.length<=n:=by
 have j:WShape.hasAll [] args [.list .int]=true:=(pre_splitW b).1;have m:l.pre.holds [] { args:=args}=true:=(pre_splitW b).2;obtain⟨d,r,rfl,v,p⟩:=hasAllW_cons j;obtain rfl:=hasAllW_nil p;obtain⟨xs,rfl,s⟩:=hasW_list v;obtain⟨ns,rfl⟩:=items_int s;have e:ns.length<=n:=by
  unfold OpenLaw.pre at m;have i:(WTm.not (.lt (.lit (.int (n:Int))) (.len (.arg 0)))).holds [] { args:=[.list (ns.map .int)]}=true:=by have i:=(holds_andW m).1;rw[w] at i;exact i
  have g:=condW_of i (w_not (w_lt w_lit (w_len_list (w_arg rfl))));rw[g_] at g;refine Nat.le_of_not_lt fun q=>?_;have u:(n:Int)<((ns.length:Nat):Int):=by omega
  first
   | (rw[L_ u] at g;exact absurd g (by decide))
   | (simp at g;omega)
 cases k with
 |cons x t =>
 cases t;cases x with
 |list o f=>exact⟨_,_,ns,rfl,rfl,o,lD ns _ f,e⟩
def zR (l:OpenLaw) (args:List WData):l.row.toRowW.claim.post args (.bool true) args=true :=
 postW_of (r:=l.row.toRowW) (X:=(true==true))
  (show WShape.has [] (.bool true) .bool=true by first | rfl | decide | simp [WShape.has,WShape.arms,WShape.armsAll])
  (show (WTm.eq .res (.lit (.bool true))).value [] { args:=args,res:=some (.bool true),after:=args}=some (.bool (true==true)) from w_eq_bool (w_res rfl) w_lit) rfl
def adx {l:OpenLaw} (N:l.most=some n) (v:d.params.defaults=[]) (i:∀(w:World) (c b:Shared) (p x:Str->Option Value) (k:Addr) (o:Obj) (t s e:Value) (a:Addr) (vs:List Value) (ns:List Int),
   Ground q loose [] XP w c p x b.heap->YP w b.heap ->
   b.heap.get? k=some o->o.data=.func (docDef d.name d.params d.body d.scope t s e)->b.heap.CodeRec s d.name->p d.name=some (.ref k) ->
   b.heap.get? a=some { cls:=.type "list",data:=.seq vs.toArray}->IntsAre vs ns->ns.length<=n->b.gens=#[] ->
   codeAny (model l.prog w) callerA (.call (.ref k) ⟨[.ref a],[]⟩) (fun r s'=>r=.ok (.ret (.bool true))/\OldK b.heap s'.heap/\s'.os=b.os/\AllBare s'.gens) b):
  WalkO q loose XP YP l.row.toRowW d [] (fun f vs=>PySem.call f vs):=by
 intro w c b p x G Y k o t s e dV kV H O z B u L C D Q j A P y K;obtain rfl:dV=.none:=Dflts.none B v;obtain rfl:kV=.none:=Dflts.noKw B;obtain⟨a,vs,ns,rfl,rfl,m,g,h⟩:=zQ N j y;refine enter_call (abw (i w c b p x k o t s e a vs ns G Y H (fd_plain O) z u m g h L) fun r s' E=>?_);obtain⟨rfl,F,I,J⟩:=E;exact⟨.inl ⟨.bool true,.bool true,[],rfl,fun _=>rfl,.bool true,zR l _,fun _=>⟨List.Pairwise.nil,fun _ M=>(nomatch M)⟩⟩,F,I,J⟩
def ledger (h : Heap) (L d : Addr) : List (Addr × Obj):=(List.range h.objs.size).filterMap fun a => if a = L \/ a = d then none else (h.get? a).map fun o => (a,o)
end Att
namespace L2
def oY:∀{vs:List Value}{ns:List Int},IntsAre vs ns->Vals (ns.map V.int) vs
 |_,_,.nil=>.nil
 |_,_,.cons n t h=>.cons ⟨t,rfl⟩ (oY h)
def Only (H:Hp):Prop:=∀b,H b=none\/∃o xs,H b=some (.frz o (.lst xs))
def Bw {K:Frag} (KX:K.In c.heap) (y:c.heap.Ns mainGlobals t) (g:c.heap.Ns builtinsNs T) (M:∀x:Str,x≠"__name__"->T x=bootBuiltins x) (I:c.heap.NoLimit) (hg:c.gens=#[]) (J:c.heap.get? a=some { cls:=.type "list",data:=.seq vs.toArray}) (hi:IntsAre vs ns) (X:ns.length<=sizeLine) (hr:t6 k callerA) (F:∀base:Heap,K.In base->base.Ns mainGlobals t->acv P w K t base CX k S Z [x] sp) (l:∀(s:Shared) (u:Value),BindsTo s Z ⟨[u],[]⟩ [(x,u)]) (R:∀H:Hp,Only H->SqL K H a (ns.map V.int)->sp [.ref a] H (fun v _=>v=.bl true) fun _ _ _=>False) (O:∀H e s',CX [] H c (fun _ _ _=>False) e s'->False):
  codeAny (model P w) callerA (.call (.ref S) ⟨[.ref a],[]⟩) (fun r s'=>r=.ok (.ret (.bool true))/\OldK c.heap s'.heap/\s'.os=c.os/\AllBare s'.gens) c:=by
 have Y:=oY hi;have p:=hi.length
 have j:∀H:Hp,Only H->SqL K H a (ns.map V.int)->HOk P w H c.heap->(∀b,H b≠none->b=a)->(H a≠none->K.lookup a=none) ->
   codeAny (model P w) callerA (.call (.ref S) ⟨[.ref a],[]⟩) (fun r s'=>r=.ok (.ret (.bool true))/\OldK c.heap s'.heap/\s'.os=c.os/\AllBare s'.gens) c:=by
  intro H hO hS A W hK
  have f:∀{b:Addr} {o:Obj},c.heap.get? b=some o->H b=none->(pZ c.heap H).get? b=some o:=fun e n=>Bd e n
  have L:∀{b:Addr} {o:Obj} {E:Array DictEntry} {ep:Nat},c.heap.get? b=some o->o.data=.dict E ep->H b=none:=fun {b o E ep} e d=>by
   cases q:H b with
   |none=>rfl
   |some u =>
    have Q:b=a:=W b (by rw[q];simp)
    subst Q
    rw[J] at e;cases e
    have d':Data.seq vs.toArray _=Data.dict E ep:=d
    cases d'
  have i:∀{b:Addr} {m:Str->Option Value},c.heap.Ns b m->(pZ c.heap H).Ns b m:=fun {b m} ⟨o,E,ep,e,d,r⟩=>⟨o,E,ep,f e (L e d),d,r⟩
  have D:K.In (pZ c.heap H):=fun b o e=>f (KX b o e) (by
   cases q:H b with
   |none=>rfl
   |some u =>
    have Q:b=a:=W b (by rw[q];simp)
    subst Q
    rw[hK (by rw[q];simp)] at e;cases e)
  have hM:Mod K t (pZ c.heap H):=⟨D,i y,⟨T,i g,M⟩,let ⟨mc,h1,h2⟩:=I;⟨mc,i h1,h2⟩⟩
  have e0:adB P w K t (pZ c.heap H) callerA [] c H:=⟨rfl,hM,fun b o e=>Hw e,abL (zA _ _),trivial,fun b g=>absurd (show b∈([]:List Addr) from g) (by simp),A,.of_eq hg⟩
  refine abw ((F _ D (i y)).run callerA [] c H ⟨[.ref a],[]⟩ [.ref a] [.ref a] _ _ hr e0 (l c (.ref a)) (.cons rfl .nil) (R H hO hS)) fun r s' h=>?_
  cases r with
  |error e=>exact (O H e s' h).elim
  |ok fl =>
   cases fl with
   |next=>exact False.elim h
   |brk=>exact False.elim h
   |cont=>exact False.elim h
   |ret u =>
    obtain⟨v,H',os,C,U,B,r',q⟩:=h
    have q':v=.bl true:=q
    subst q'
    obtain rfl:u=Value.bool true:=r'
    refine⟨rfl,OldK.of_keep fun b o e=>?_,os,C⟩
    cases q:H b with
    |none=>exact U.keep b o e q (by intro z;exact absurd (show b∈([]:List Addr) from z) (by simp)) (by simp)
    |some u =>
     rcases hO b with z | ⟨ob,xs,z⟩
     ·
      rw[q] at z;cases z
     ·
      have z2:=U.frzs b ob _ z
      obtain⟨e1,_⟩:=A b _ z
      obtain⟨e2,_⟩:=B b _ z2
      rw[e] at e1;cases e1
      exact e2
 cases N:K.lookup a with
 |some o =>
  have e:=KX a o N
  rw[J] at e
  cases e
  refine j (fun _=>none) (fun _=>.inl rfl) (.inr ⟨_,vs.toArray,_,N,rfl,rfl,rfl,by rw[p_,p];exact X,by simpa using Y⟩) (fun b u z=>by have G:(none:Option HO)=some u:=z;cases G) (fun b z=>absurd rfl z) fun z=>absurd rfl z
 |none =>
 refine j (fun b=>if b=a then some (.frz { cls:=.type "list",data:=.seq vs.toArray} (.lst (ns.map V.int))) else none) (fun b=>?_) (.inl (.inr ⟨{ cls:=.type "list",data:=.seq vs.toArray},if_pos rfl⟩)) (fun b u z=>?_) (fun b z=>?_) fun _=>N
 ·by_cases g:b=a
  ·exact .inr ⟨_,_,if_pos g⟩
  exact .inl (if_neg g)
 ·by_cases g:b=a
  ·have G:=(if_pos g).symm.trans z;cases G;subst g;exact⟨J,by rw[g_];exact X,vs,_,Y,J⟩
  have G:=(if_neg g).symm.trans z;cases G
 by_cases g:b=a
 ·exact g
 exact absurd (if_neg g) z
abbrev KOf {K:Frag}{h:Heap}(_:K.In h):Frag:=K
def aeD {l:PySem.W.OpenLaw}{K:Params->Frag}{CX:World->CXT}{sp:World->Sp} (N:l.most=some n) (C:n<=sizeLine) (B:d.params.defaults=[]) (P:t6 k callerA) (L:∀(w:World) (h:Heap),YP w h->(K w.params).In h) (F:∀(w:World) (j:Str->Option Value) (r:Addr) (h:Heap),(K w.params).In h->h.Ns mainGlobals j->j d.name=some (.ref r) ->
   ∃t:FuncData,(∀(s:Shared) (u:Value),BindsTo s t ⟨[u],[]⟩ [(x,u)]) /\
    ∀base:Heap,(K w.params).In base->base.Ns mainGlobals j->acv l.prog w (K w.params) j base (CX w) k r t [x] (sp w)) (z:∀(w:World) (H:Hp) (a:Addr) (ns:List Int),ns.length<=n->Only H->SqL (K w.params) H a (ns.map V.int)->sp w [.ref a] H (fun v _=>v=.bl true) fun _ _ _=>False) (y:∀(w:World) (H:Hp) (s:Shared) (e:Value) (s':Shared),CX w [] H s (fun _ _ _=>False) e s'->False):
  PySem.W.WalkO q loose XP YP l.row.toRowW d [] (fun f vs=>PySem.call f vs):=by
 refine Att.adx N B fun w D m j mb r o X cd M a vs ns G Y U Z S A p i c J=>?_;have E:=L w _ Y;obtain⟨t,O,I⟩:=F w j r _ E G.T.g A;exact Bw E G.T.g G.T.b G.T.builtins G.T.nolimit J p i (R_ c C) P I O (fun H Q R=>z w H a ns c Q R) fun H e s'=>y w H m e s'
end L2
namespace L2
abbrev CX0:CXT:=fun _ _ _ _ _ _=>False
abbrev E0:XK:=fun _ _ _=>False
def Bx:jZ CX0 X E0:=fun _ _ _ _ _ _ _ h=>h.elim
structure Fun (K:Frag) (x qual:Str) (st:Stmt) (f:Addr) (fd:FuncData):Prop where
 ex:∃(oc:Value) (od:Option Addr) (kV doc pm:Value) (an:Option Addr) (cdv ct:Value) (osl:Array (Option Value)),
  fd=fnOf x qual (cV st) (cC st) (aB st) .none kV doc pm an cdv ct/\K.lookup f=some ⟨oc,od,.func fd,osl⟩/\codeIn K cdv qual=true
 kp:keepIn K (.ref f)=true
section
variable {P:Program}{w:World}{K:Frag}
def Fun.ok {st:Stmt} (F:Fun K x a st f i) (S:gV N ps (aB st)) (d:∀vs H Q E,sp vs H Q E->vs.length=ps.length) (c:∀(b:Value) (A:Around) (outer:List Env) (s:Shared) (H:Hp) (vs:List V) (Q:VK) (E:XK),t6 k (A.deeper (envOfC a (aB st) s.heap.objs.size f b))->sp vs H Q E ->
   ∃t,PSs (mD CX0 P w K mg base N a (aB st) f b A outer s H E).nox (cC st) t/\t { nx:=fun _ H'=>Q .non H',rt:=Q} (start N vs) H):acv P w K mg base CX0 (k+1) f i ps sp:=by
 obtain⟨p,od,kV,l,o,u,b,r,j,rfl,m,e⟩:=F.ex;refine Lx m e S d fun A outer s H vs Q E n g=>?_;obtain⟨t,h,q⟩:=c b A outer s H vs Q E n g;exact⟨t,h.nox,q⟩
def Fun.binds {st:Stmt} (F:Fun K x a st f i) (h:∀(kV b d:Value) (e:Option Addr) (c g:Value) (us:List Value),us.length=ps.length->bindArgs (fnOf x a (cV st) (cC st) (aB st) .none kV b d e c g) ⟨us,[]⟩=pure (ps.zip us)):Binds K i ps []:=by
 obtain⟨l,od,kV,b,d,e,c,g,j,rfl,m,k⟩:=F.ex;exact .all (h kV b d e c g)
def By {st:Stmt}{kV d g b i:Value} (l:K.lookup f=some ⟨j,od,.func (fnOf x a (cV st) (cC st) (aB st) .none kV d g h b i),e⟩) (c:codeIn K b a=true) (k:keepIn K (.ref f)=true):Fun K x a st f (fnOf x a (cV st) (cC st) (aB st) .none kV d g h b i):=⟨⟨j,od,kV,d,g,h,b,i,e,rfl,l,c⟩,k⟩
variable {X:Cx}
def pv (i:Nat) {a:Pos} (e:X.N[i]?=some x:=by rfl) (d:Vis X.env.scope x:=by first | exact Or.inl rfl | exact Or.inr (Or.inl rfl) | exact Or.inr (Or.inr rfl)) (c:(x==("__debug__":Str))=false:=by decide) (b:(x==("__classdict__":Str))=false:=by decide):PE X (.Name x a) (TQ i):=Oi e d c b
end
def Ys {A B:Prop}(h:B):if false=true then A else B:=by
 rw[if_neg G_];exact h
def Yt {A B:Prop}(h:A):if true=true then A else B:=by
 rw[if_pos rfl];exact h
section
variable {κ:Type}[DecidableEq κ]
def fM:∀{l:List κ}{k:κ},l.Nodup->¬k∈l->(l++[k]).Nodup
 |[],k,_,_=>by simp
 |a::r,k,h,hk=>by
  obtain⟨b,c⟩:=ZP.mp h
  show (a::(r++[k])).Nodup
  refine ZP.mpr ⟨fun m=>?_,fM c fun m=>hk (x_.mpr (Or.inr m))⟩
  rcases u_.mp m with q | q
  ·
   exact b q
  ·
   exact hk (x_.mpr (Or.inl (i_.mp q).symm))
end
def kY {F:Str × NameKind->Str × NameKind} (b:∀p,(F p).1=p.1):∀{a:List (Str × NameKind)},a.lookup x=some k->(a.map F).lookup x=some (F (x,k)).2
 |[],h=>by cases h
 | (m,q)::r,h=>by
  have c:=b (m,q)
  rw[J_,show F (m,q)=(m,(F (m,q)).2) from Prod.ext c rfl]
  by_cases e:x=m
  ·
   subst e
   rw[List.lookup_cons_self] at h ⊢
   cases h
   rfl
  ·
   have d:(x==m)=false:=Zy.mpr e
   simp only[List.lookup,d] at h ⊢
   exact kY b h
def iR {env:Env}{a:List (Str × NameKind)} (h:a.lookup x=some .free):
  (a.map fun (n,k)=>if (k==NameKind.free&&env.scope.kind==.function&&env.kindOf n==some .cell) then (n,NameKind.cell) else (n,k)).lookup x=some .cell \/
  (a.map fun (n,k)=>if (k==NameKind.free&&env.scope.kind==.function&&env.kindOf n==some .cell) then (n,NameKind.cell) else (n,k)).lookup x=some .free:=by
 rw[kY (F:=fun (n,k)=>if (k==NameKind.free&&env.scope.kind==.function&&env.kindOf n==some .cell) then (n,NameKind.cell) else (n,k)) (fun p=>by dsimp only;split <;> rfl) h];dsimp only;split
 ·exact .inl rfl
 exact .inr rfl
def mJ (h:∀y∈scope.names,y.2=.free->∃c,env.cells.lookup y.1=some c):
  ∃d,closureFor scope env=pure d/\(∀x c,d.lookup x=some c->env.cells.lookup x=some c)/\∀y∈scope.names,y.2=.free->∃c,d.lookup y.1=some c:=by
 have key:∀(b:List (Str × NameKind)) (g:List (Str × Addr)),(∀y∈b,y.2=.free->∃c,env.cells.lookup y.1=some c)->(∀x c,g.lookup x=some c->env.cells.lookup x=some c) ->
   ∃d:List (Str × Addr),(forIn b g (fun (x:Str × NameKind) (r:List (Str × Addr))=>(do
    if x.2==.free then do
     let a <- cellOf env x.1
     pure (ForInStep.yield ((x.1,a)::r))
    else pure (ForInStep.yield r):Sem (ForInStep (List (Str × Addr))))):Sem (List (Str × Addr)))=pure d/\(∀x c,d.lookup x=some c->env.cells.lookup x=some c) /\
    (∀x c,g.lookup x=some c->∃s,d.lookup x=some s)/\∀y∈b,y.2=.free->∃c,d.lookup y.1=some c:=by
  intro b
  induction b with
  |nil=>intro g _ u;exact⟨g,rfl,u,fun x c e=>⟨c,e⟩,fun y f=>nomatch f⟩
  |cons y r A =>
   intro g w u
   obtain⟨n,k⟩:=y
   by_cases v:k=.free
   ·
    subst v
    obtain⟨c,z⟩:=w (n,.free) l_ rfl
    have i:cellOf env n=pure c:=by unfold cellOf;rw[z]
    obtain⟨d,e,p,l,o⟩:=A ((n,c)::g) (fun y f=>w y (q_ _ f)) (fun x s q=>by
     simp only[Z9] at q
     cases j:x==n with
     |true=>rw[j] at q;cases q;rw[eq_of_beq j];exact z
     |false=>rw[j] at q;exact u x s q)
    refine⟨d,?_,p,fun x s q=>?_,fun y f t=>?_⟩
    ·
     rw[List.forIn_cons]
     show ((if (NameKind.free==NameKind.free)=true then (cellOf env n >>= fun a=>pure (ForInStep.yield ((n,a)::g))) else pure (ForInStep.yield g)) >>= _)=_
     rw[i]
     exact e
    ·
     cases j:x==n with
     |true=>exact l x c (by simp only[Z9,j])
     |false=>exact l x s (by simp only[Z9,j];exact q)
    ·
     rcases x_.mp f with rfl | f
     ·
      exact l n c (by simp [Z9])
     ·
      exact o y f t
   ·
    obtain⟨d,e,p,l,o⟩:=A g (fun y f=>w y (q_ _ f)) u
    have B:(k==NameKind.free)=false:=by simpa using v
    refine⟨d,?_,p,l,fun y f t=>?_⟩
    ·
     rw[List.forIn_cons]
     show ((if (k==NameKind.free)=true then (cellOf env n >>= fun a=>pure (ForInStep.yield ((n,a)::g))) else pure (ForInStep.yield g)) >>= _)=_
     rw[B]
     exact e
    ·
     rcases x_.mp f with rfl | f
     ·
      exact absurd t v
     ·
      exact o y f t
 obtain⟨d,e,p,_,o⟩:=key scope.names [] h (fun x c q=>by simp at q);refine⟨d,?_,p,o⟩;unfold closureFor;exact T_ (fun m=>m >>= fun r=>pure r) e
def bQ (X:Cx) (N':List Str) (scope:Scope) (b:List (Str × Addr)) (a:List (Addr × Obj)) (s:Shared) (H:Hp) (C:Addr) (c:List Addr):Cx where
 prog:=X.prog
 w:=X.w
 K:=X.K
 mg:=X.mg
 base:=X.base
 A:=X.A
 N:=N'
 s₀:=s
 H₀:=H
 env:=compEnvC scope b C X.env
 outer:=X.stack
 stack:=X.stack
 ex:=c
 fn:=fun x=>scope.names.lookup x==some .cell
 calm:=X.calm
 pn:=X.pn++a
 xe:=fun _ _=>False
def PIf (X:Cx) (b:List Expr) (t:TT):Prop :=
 ∀(a:List (Addr × Obj)) (s:Shared) (Z:St) (H:Hp) (Q:Bool->Hp->Prop),Inv X a Z H s->t Z H Q ->
  wpAny (model X.prog X.w) X.A (forIn b true fun c r=>if r=true then do let d <- isTrue c X.env (eval c X.env);pure (ForInStep.yield d) else pure (ForInStep.yield r)) (TP X a Z Q) X.xe s
def Yu:TT:=fun _ H Q=>Q true H
def Iv:PIf X [] Yu:=fun _ _ _ H _ I h=>wpAny_tests_nil ⟨H,I,h⟩
def Iw (h:PT X c t):PIf X [c] t:=fun a s Z H Q I b=>wpAny_tests_one (h a s Z H Q I b)
def qi (I:Nat->Shared->Prop) (C:∀n s,I n s->wpAny (model prog w) A (pyNext it) (fun r e=>match r with | .none=>R (.ok .next) e | .some v=>wpAny (model prog w) A (letOwnedTupleGo a it v) (fun _ d=>wpAny (model prog w) A (assign a env v) (fun _ p=>wpAny (model prog w) A (forIn y true fun c r=>if r=true then do let B <- isTrue c env (eval c env);pure (ForInStep.yield B) else pure (ForInStep.yield r)) (fun B b=>if B=true then wpAny (model prog w) A (eval u env) (fun x l=>wpAny (model prog w) A (call (.builtin "list.append") [t,x]) (fun _ g=>∃m,m<n/\I m g) (fun _ _=>False) l) (fun _ _=>False) b else ∃m,m<n/\I m b) (fun _ _=>False) p) (fun _ _=>False) d) (fun _ _=>False) e) (fun _ _=>False) s) (n:Nat) (h:I n s):codeAny (model prog w) A (.compLoop (.ListComp u [⟨a,f,y,0⟩] scope D) 0 it t env) R s:=by
 refine codeAny_loop rfl I (fun j k G=>?_) n h;show wpAny _ A ((compTurn (.ListComp u [⟨a,f,y,0⟩] scope D) 0 it t env).onRaise (fun x=>do noteFrame x env;theTreesLotGoes x)) _ _ k;refine wpAny_noted ?_;rw[compTurn_list];refine a_ (abr (a_ (Zz (C j k G) (fun r e o=>?_) fun _ _ h'=>h'.elim)));cases r with
 |none=>exact k_ o
 |some v =>
 refine a_ (Zz o (fun _ d q=>?_) fun _ _ h'=>h'.elim);refine a_ (Zz q (fun _ p F=>a_ (Zz F (fun B b i=>?_) fun _ _ h'=>h'.elim)) fun _ _ h'=>h'.elim);cases B with
 |false=>exact (k_ (And.intro rfl i))
 |true =>
 exact a_ (a_ (Zz i (fun x l z=>a_ (Zz z (fun _ g E=>k_ (k_ ⟨rfl,E⟩)) fun _ _ h'=>h'.elim)) fun _ _ h'=>h'.elim))
def xY (J:It) (g:TG) (tt:TT) (te:TE) (h:List V->Hp->Prop) (e:St) (c:Hp):Prop :=
 ∃W:Nat->Nat->List V->St->Hp->Prop,(∃m,W 0 m [] e c)/\∀i m a Z H,W i m a Z H ->
  (J.stop i H/\a.length<=sizeLine/\h a H) \/
  (J.go i H/\∀x H',J.yld i H x H'->g x Z H' fun f k=>tt f k fun b H3=>if b=true then te f H3 fun y j=>a.length<sizeLine/\∃d,d<m/\W (i+1) d (a++[y]) f j else ∃d,d<m/\W (i+1) d a f H3)
def n6 (nt:Nat) (cap:List Nat) (Z:St):St:=List.replicate nt none++cap.map fun j=>(Z[j]?).getD none
structure acy (X:Cx) (N':List Str) (nt:Nat) (cap:List Nat) (scope:Scope):Prop where
 kind:scope.kind=.function
 cells:∀y∈scope.names,y.2=.cell->scope.names.lookup y.1=some .cell
 names:∀x∈scope.names,x.2=.local->scope.names.lookup x.1=some .local
 free:∀y∈scope.names,y.2=.free->X.env.kindOf y.1=some .cell\/X.env.kindOf y.1=some .free
 len:N'.length=nt+cap.length
 caps:∀(j:Nat) (x:Str),N'[nt+j]?=some x->∃i,cap[j]?=some i/\X.N[i]?=some x/\scope.names.lookup x=some .free
def lE (e:s.heap.get? l=some { cls:=.type "list",data:=.seq a.toArray n}) (f:a.length<sizeLine) (h:∀h' n',h'.get? l=some { cls:=.type "list",data:=.seq (a++[u]).toArray n'}->(∀b o,b≠l->s.heap.get? b=some o->h'.get? b=some o)->Q .none { s with heap:=h'}):
  wpAny (model P w) A (call (.builtin "list.append") [.ref l,u]) Q E s:=by
 refine abQ F.slot_list_append ⟨_,e,rfl⟩ F.entry_list_append (F.args_list_append_2 _ _) (list_append l a.toArray n u (by rw[p_];omega)) ⟨e,?_⟩;have q:=PySem.IsL.update e (·.push u);rw[List.push_toArray] at q;exact h _ _ q (fun b o d c=>(Zm s.heap _ (Ne.symm d)).trans c)
def bV:∀(a:List (Str × NameKind)) (n:Nat) (b:List (Str × Addr)),cellsFrom n a b=cellsFrom n a []++b
 |[],_,_=>rfl
 | (x,k)::r,n,b=>by
  unfold cellsFrom
  split
  ·
   rw[bV r (n+1) ((x,n)::b),bV r (n+1) [(x,n)],Zt]
   rfl
  ·
   exact bV r n b
def dR {a:Type}(x:Str):∀(l m:List (Str × a)),(l++m).lookup x=(l.lookup x).or (m.lookup x)
 |[],_=>rfl
 | (y,v)::r,m=>by
  rw[abd,Z9,Z9,dR x r m]
  cases x==y <;> rfl
def gJ (h:(cellsFrom n a b).lookup x=some c):(cellsFrom n a []).lookup x=some c\/((cellsFrom n a []).lookup x=none/\b.lookup x=some c):=by
 rw[bV,dR] at h;cases e:(cellsFrom n a []).lookup x with
 |some d=>rw[e] at h;exact .inl h
 |none=>rw[e] at h;exact .inr ⟨rfl,h⟩
def je:∀{a:List (Str × NameKind)}{n:Nat}{b:List (Str × Addr)},(x,c)∈cellsFrom n a b->(x,NameKind.cell)∈a\/(x,c)∈b
 |[],_,_,h=>.inr h
 | (y,k)::r,n,b,h=>by
  unfold cellsFrom at h
  split at h
  ·
   rename_i d
   rcases je h with q | q
   ·
    exact .inl (q_ _ q)
   ·
    rcases x_.mp q with q | q
    ·
     cases q
     have:k=.cell:=by simpa using d
     subst this
     exact .inl l_
    ·
     exact .inr q
  ·
   rcases je h with q | q
   ·
    exact .inl (q_ _ q)
   ·
    exact .inr q
def Iz (g:Q (newEnv scope s.heap.objs.size b (cellsFrom (s.heap.objs.size+1) scope.names a) c none .none (some env) builtinsNs) { s with heap:=pushCells (s.heap.push { cls:=.type "dict",data:=.dict #[]}) scope.names}):
  wpAny M A (newFunctionEnv scope b a [] c none .none (some env)) Q E s:=by
 simp only[newFunctionEnv,aaH,if_true];refine a_ (wpAny_alloc ?_);refine a_ (wpAny_layCells _ (fun name d f=>by cases e:d==NameKind.cell <;> simp [e]) _ _ _ _ ?_);rw[show ({ s with heap:=s.heap.push { cls:=.type "dict",data:=.dict #[]}}:Shared).heap.objs.size=s.heap.objs.size+1 from ZX ..];refine a_ ?_;rw[List.forIn_nil];exact k_ (k_ g)
def BJ {Z:St}{T:List Addr}{C:Addr} (S:acy X N' nt cap scope) (I:Inv X g Z H s) (M:∀x c,l.lookup x=some c->X.env.cells.lookup x=some c) (D:∀y∈scope.names,y.2=.free->∃c,l.lookup y.1=some c) (hf:∀b∈T,my X g H b) (N:∀b∈T,b<s.heap.objs.size) (B:s.heap.objs.size<C) (hn:h'.Ns C fun _=>none) (G:∀b o,s.heap.get? b=some o->h'.get? b=some o) (hp:∀p∈pl,h'.get? p.1=some p.2/\s.heap.objs.size=p.1/\∀v,p.2.data≠.cell v) (t:CellsOk h' (C+1) (cellsFrom (C+1) scope.names [])):
  Inv (bQ X N' scope (cellsFrom (C+1) scope.names l) g s H C T) pl (n6 nt cap Z) H { s with heap:=h',toks:=tk}:=by
 have h:∀x c,(cellsFrom (C+1) scope.names l).lookup x=some c->(C+1<=c/\(cellsFrom (C+1) scope.names []).lookup x=some c)\/X.env.cells.lookup x=some c:=fun x c e=>by
  rcases gJ e with q | q
  ·exact .inl ⟨(t.empty x c (mem_of_lookup q)).2,q⟩
  exact .inr (M x c q.2)
 have O:∀x c,X.env.cells.lookup x=some c->c<s.heap.objs.size:=fun x c e=>by obtain⟨v,q⟩:=I.cell x c e;exact q.lt
 have hok:(bQ X N' scope (cellsFrom (C+1) scope.names l) g s H C T).Ok:=by
  refine⟨I.ok.mod,S.kind,I.ok.glob,I.ok.blt,aar B,fun x y c e1 w=>?_,fun x hx=>?_,fun x c z e=>?_,I.ok.hd,I.ok.frames,.inl rfl,fun b A=>?_,I.bs,R_ I.ok.bsz I.sz,fun b o e A=>?_,fun b A z=>?_,I.stack,I.stkFree⟩
  ·rcases h x c e1 with ⟨V,p1⟩ | V
   ·rcases h y c w with ⟨K,p2⟩ | K
    ·exact name_of_addr t.apart (mem_of_lookup p1) (mem_of_lookup p2)
    exact absurd (M_ (aad (Zo (O y c K) B)) V) (Zr _)
   rcases h y c w with ⟨K,p2⟩ | K
   ·exact absurd (M_ (aad (Zo (O x c V) B)) K) (Zr _)
   exact I.ok.inj x y c V K
  ·have hx':(relabel scope X.env).names.lookup x=some .cell\/(relabel scope X.env).names.lookup x=some .free:=hx;have hm:∃k,(x,k)∈(relabel scope X.env).names/\(k=.cell\/k=.free):=by
    rcases hx' with z | z
    ·exact⟨_,mem_of_lookup z,.inl rfl⟩
    exact⟨_,mem_of_lookup z,.inr rfl⟩
   obtain⟨k,hm,G⟩:=hm;obtain⟨⟨n,U⟩,P,e⟩:=A_.mp hm;have E:(if (U==NameKind.free&&X.env.scope.kind==.function&&X.env.kindOf n==some .cell)=true then (n,NameKind.cell) else (n,U))=(x,k):=e;by_cases J:U=.free
   ·subst J;have en:n=x:=by split at E <;> exact T_ Prod.fst E
    subst en;obtain⟨c,ec⟩:=D (n,.free) P rfl;show ∃c,(cellsFrom (C+1) scope.names l).lookup n=some c;rw[bV,dR,ec];cases (cellsFrom (C+1) scope.names []).lookup n with
    |none=>exact⟨c,rfl⟩
    |some d=>exact⟨d,rfl⟩
   have A:(U==NameKind.free)=false:=by simpa using J
   rw[A] at E;simp only[abK,y_,Zb] at E;cases E;rcases G with rfl | rfl
   ·obtain⟨c,ec⟩:=jw (n:=C+1) (S.cells _ P rfl);refine⟨c,?_⟩;show (cellsFrom (C+1) scope.names l).lookup _=some c;rw[bV,dR,ec];rfl
   exact absurd rfl J
  ·have z':scope.names.lookup x=some .cell:=by simpa [bQ] using z
   obtain⟨d,ed⟩:=jw (n:=C+1) z';have E:(cellsFrom (C+1) scope.names l).lookup x=some c:=e;rw[bV,dR,ed] at E;cases E;have:=(t.empty x _ (mem_of_lookup ed)).2;show s.heap.objs.size<=_;omega
  ·obtain⟨f0,f1,f2,Y,f4,f5⟩:=hf b A;refine⟨fun z=>absurd (N b A) (abG.mpr (by rw[show b=C from z];exact aar B)),fun x c e=>?_⟩;rcases h x c e with ⟨q,_⟩ | q
   ·intro z;rw[z] at q;exact absurd (M_ (aad (Zo (N b A) B)) q) (Zr _)
   exact f4 x c q
  ·obtain⟨f0,f1,f2,Y,f4,f5⟩:=hf b A;rcases Y with q | q
   ·exact I.ok.noex b o e q
   exact absurd (o_ (I.ok.bs b o e).1) (abG.mpr q)
  obtain⟨f0,f1,f2,Y,f4,f5⟩:=hf b A;rcases x_.mp (I.stkSub b z) with q | q
  ·exact f1 q
  exact f2 q
 obtain⟨m,hnm,hl⟩:=id I.loc;refine⟨hok,rfl,I.bare,Un.kept G,⟨_,hn,fun i x v e1 w e3=>?_⟩,fun x c e=>?_,I.hok.fresh (aar B),fun x c e=>?_,fun p hp'=>?_,I.hok.kept G,?_⟩
 ·-- a name of the block: one that it takes from around
  unfold n6 at w;by_cases hi:i<nt
  ·rw[Zn (by simpa using hi),abb] at w;split at w <;> cases w
  obtain⟨j,rfl⟩:∃j,i=nt+j:=⟨i - nt,by omega⟩;obtain⟨k,ck,hN,f⟩:=S.caps j x e1;rw[Q_ (by simp),ZJ,Nat.add_sub_cancel_left,B_,ck] at w;have r:(Z[k]?).getD none=some v:=F_ w;have Q:Z[k]?=some (some v):=by
   cases q:Z[k]? with
   |none=>rw[q] at r;cases r
   |some z=>rw[q] at r;exact T_ some r
  have L:=S.free (x,.free) (mem_of_lookup f) rfl;obtain⟨u,ru,lk⟩:=hl k x v hN Q (.inr L);refine⟨u,ru,.inr ⟨iR f,?_⟩⟩;rcases lk with ⟨kl,_⟩ | ⟨_,c,hc,F⟩
  ·rcases L with z | z <;> (rw[kl] at z;cases z)
  obtain⟨c',R⟩:=D (x,.free) (mem_of_lookup f) rfl;have e:=M x c' R;rw[hc] at e;cases e;obtain⟨o,W,hd⟩:=F;refine⟨c,?_,o,G _ _ W,hd⟩;show (cellsFrom (C+1) scope.names l).lookup x=some c;rw[bV,dR];cases q:(cellsFrom (C+1) scope.names []).lookup x with
  |none=>exact R
  |some d =>
  rcases je (mem_of_lookup q) with z | z
  ·have:=S.cells _ z rfl;rw[f] at this;cases this
  cases z
 ·rcases h x c e with ⟨_,q⟩ | q
  ·exact⟨none,(t.empty x c (mem_of_lookup q)).1⟩
  obtain⟨v,o,W,hd⟩:=I.cell x c q;exact⟨v,o,G _ _ W,hd⟩
 ·rcases h x c e with ⟨q,_⟩ | q
  ·exact I.hok.fresh (aar (M_ (aad B) q))
  exact I.freeC x c q
 ·rcases u_.mp hp' with z | z
  ·obtain⟨e,n,n1,n2,d⟩:=I.pin p z;refine⟨G _ _ e,n,fun q=>?_,fun q=>?_,d⟩
   ·exact absurd (o_ e) (abG.mpr (by rw[show p.1=C from q];exact aar B))
   rcases x_.mp (I.stkSub p.1 q) with q | q
   ·exact n1 q
   exact n2 q
  obtain⟨e,n,d⟩:=hp p z;refine⟨e,I.hok.fresh (by omega),fun q=>?_,fun q=>?_,d⟩
  ·exact absurd (n.trans (show p.1=C from q)) (K_ B)
  have:=I.stkSub p.1 q;rcases x_.mp this with q | q
  ·exact absurd I.lt (abG.mpr (by rw[<- q,n];exact m_ _))
  exact I.nofs (by omega) q
 unfold n6;show _=N'.length;rw[d_,ZJ,g_,S.len]
def HOk.track (x:HOk P w H h) (i:H a=none) (l:H C=none) (k:∀b u,b≠C->h.get? b=some u->h'.get? b=some u) (d:zc P w (upd H a o) h' a o):HOk P w (upd H a o) h':=fun b u e=>by
 by_cases j:b=a
 ·subst j;rw[aY] at e;cases e;exact d
 rw[aK j] at e;have g:∀c z,H c=some z->c≠C:=fun c z q r=>by rw[r,l] at q;cases q
 refine (x b u e).stay (fun c v f q=>k c v ?_ q) (fun c q=>by rw[aK (cG q i)];exact q) fun c xs q=>by rw[aK (cG q i)];exact q
 rcases f with rfl | f
 ·exact g c u e
 exact g c _ f
def rZ {Z:St}{RR:Value->Addr->Result->Shared->Prop} (hc:X.calm=true) (S:acy X N' nt cap scope) (hcl:∀x c,L.lookup x=some c->X.env.cells.lookup x=some c) (hclh:∀y∈scope.names,y.2=.free->∃c,L.lookup y.1=some c) (hX:∀L a s H C l,PG (bQ X N' scope L a s H C l) tg g/\PIf (bQ X N' scope L a s H C l) ifs tt/\PE (bQ X N' scope L a s H C l) elt te) (I:Inv X a Z f s₂) (T:Turn X.prog X.w X.K tg J l it tn) (st:tn 0 s₂.heap) (hf:∀b∈l,my X a f b) (hw:xY J g tt te fin (n6 nt cap Z) f) (hRR:∀(D C:Addr) (s₄:Shared) (m:Str->Option Value) (U:List V) (H':Hp),s₄.heap.Ns C m->s₂.heap.objs.size<=D->s₂.heap.objs.size<=C->C≠D->H' D=none->H' C=none->U.length<=sizeLine->fin U H' ->
   (∀h',(∀b o,b≠C->s₄.heap.get? b=some o->h'.get? b=some o)->Inv X a Z (upd H' D (.lst U)) { s₄ with heap:=h'})->RR (.ref D) C (.ok .next) s₄):
  wpAny (model X.prog X.w) X.A (newList []) (fun acc G=>wpAny (model X.prog X.w) X.A (newFunctionEnv scope X.env.globals L [] X.env.qual none .none (some X.env)) (fun cenv s₄ =>
   codeAny (model X.prog X.w) X.A (.compStart (.ListComp elt [⟨tg,iter,ifs,0⟩] scope pos) 0 (.ref it) acc { cenv with scope:=relabel scope X.env}) (RR acc cenv.locals) s₄) E G) E s₂:=by
 refine ZC (Iz ?_);dsimp only;generalize hH2:s₂.heap.push { cls:=.type "list",dict:=none,data:=.seq ([]:List Value).toArray}=B;generalize hD:s₂.heap.objs.size=D;have hB:B.objs.size=D+1:=by rw[<- hH2,ZX,hD]
 have F:CellsOk (pushCells (B.push { cls:=.type "dict",data:=.dict #[]}) scope.names) (B.objs.size+1) (cellsFrom (B.objs.size+1) scope.names []):=by have:=cellsFrom_ok scope.names (B.push { cls:=.type "dict",data:=.dict #[]}) (B.objs.size+1) [] ⟨fun _ _ hm=>(nomatch hm),List.Pairwise.nil⟩ (by rw[ZX];exact m_ _);rw[ZX] at this;exact this
 have t:(pushCells (B.push { cls:=.type "dict",data:=.dict #[]}) scope.names).Ns B.objs.size fun _=>none:=(Heap.Ns.new B (.type "dict")).keeps (pushCells_keeps _ _);have M:∀b o,B.get? b=some o->(pushCells (B.push { cls:=.type "dict",data:=.dict #[]}) scope.names).get? b=some o:=fun b o e=>pushCells_keeps _ _ b o (b_ _ e);generalize hCe:B.objs.size=C at t F ⊢;generalize pushCells (B.push { cls:=.type "dict",data:=.dict #[]}) scope.names=O at t F M ⊢;have hCD:C=D+1:=hCe.symm.trans hB;have hDC:D≠C:=by rw[hCD];exact K_ (ZZ _)
 have Q:s₂.heap.objs.size<C:=by rw[hD,hCD];exact ZZ _
 have below:∀b o,s₂.heap.get? b=some o->b≠C/\b≠D:=fun b o e=>by have:=o_ e;rw[hD] at this;exact⟨by rw[hCD];exact K_ (aad this),K_ this⟩
 have old:∀b o,s₂.heap.get? b=some o->O.get? b=some o:=fun b o e=>M b o (hH2▸b_ _ e);have hacc:O.get? D=some { cls:=.type "list",data:=.seq ([]:List Value).toArray 0}:=M _ _ (hH2▸hD▸t_ _ rfl);have P:tn 0 O:=T.keep _ _ _ st fun b j o e=>old b o e;have hfl:∀b∈l,b<s₂.heap.objs.size:=fun b j=>by obtain⟨o,e,_⟩:=T.obj _ _ st b j;exact o_ e
 obtain⟨W,⟨m0,w0⟩,turn⟩:=hw;obtain⟨hg,hi,he⟩:=hX (cellsFrom (C+1) scope.names L) a s₂ f C l;have stat:∀{H':Hp} {k:Nat} {h:List Value},(∀b∈l,H' b=none)->∀b∈l,my (bQ X N' scope (cellsFrom (C+1) scope.names L) a s₂ f C l) [(D,{ cls:=.type "list",data:=.seq h.toArray k})] H' b:=fun {H' k h} hn b j=>by
  obtain⟨f0,f1,f2,f3,f4,f5⟩:=hf b j;have Y:=hfl b j;refine⟨hn b j,fun z=>?_,fun z=>?_,.inl j,fun x c e=>?_,fun p hp=>?_⟩
  ·rw[show b=C from z] at Y;exact absurd Y (abG.mpr (aar Q))
  ·rcases x_.mp (I.stkSub b z) with q | q
   ·exact f1 q
   exact f2 q
  ·rcases gJ e with q | q
   ·have:=(F.empty x c (mem_of_lookup q)).2;intro z;rw[z] at this;exact absurd (M_ (aad (Zo Y Q)) this) (Zr _)
   exact f4 x c (hcl x c q.2)
  rcases u_.mp hp with z | z
  ·exact f5 p z
  rw[i_.mp z];intro e;rw[<- (show D=b from e),hD] at Y;exact Zr _ Y
 have loop:∀G:Shared,G={ s₂ with heap:=O}->codeAny (model X.prog X.w) X.A (.compLoop (.ListComp elt [⟨tg,iter,ifs,0⟩] scope pos) 0 (.ref it) (.ref D) (compEnvC scope (cellsFrom (C+1) scope.names L) C X.env)) (RR (.ref D) C) G:=by
  rintro G rfl;refine qi (fun n s'=>∃i U h k Z' H',Inv (bQ X N' scope (cellsFrom (C+1) scope.names L) a s₂ f C l) [(D,{ cls:=.type "list",data:=.seq h.toArray k})] Z' H' s'/\Vals U h/\tn i s'.heap/\(∀b∈l,H' b=none)/\W i n U Z' H'/\U.length<=sizeLine) ?_ m0
   ⟨0,[],[],0,n6 nt cap Z,f,BJ (tk:=s₂.toks) S I hcl hclh hf hfl Q t old (fun p hp=>?_) F,.nil,P,fun b j=>(hf b j).1,w0,Zx _⟩
  ·rintro n s3 ⟨i,U,h,k,Z3,H3,I3,rv,st3,fr3,w3,hz⟩;have pD:=I3.pin (D,{ cls:=.type "list",data:=.seq h.toArray k}) (V_ _ (i_.mpr rfl));rcases turn i n U Z3 H3 w3 with ⟨stop,hz',hfin⟩ | ⟨go,step⟩
   ·refine Ob (T.done (bQ X N' scope (cellsFrom (C+1) scope.names L) a s₂ f C l) rfl rfl rfl hc i _ s3 Z3 H3 (fun _ _=>False) I3 (stat fr3) st3 stop) fun r s4 ⟨hr,I4⟩=>?_;subst hr;obtain⟨m4,hn4,_⟩:=I4.loc;have pD4:=I4.pin (D,{ cls:=.type "list",data:=.seq h.toArray k}) (V_ _ (i_.mpr rfl));refine hRR D C s4 m4 U H3 hn4 (by rw[hD];exact m_ _) (aar Q) (Ne.symm hDC) pD4.2.1 I4.free hz' hfin fun h' k'=>?_;have nD:∀b u,H3 b=some u->b≠D:=fun b u e z=>by rw[z,pD4.2.1] at e;cases e
    have nDs:∀b o,s₂.heap.get? b=some o->b≠D/\b≠C:=fun b o e=>⟨(below b o e).2,(below b o e).1⟩;have B4:=I4.base;refine I.call' (s':={ s4 with heap:=h'}) (ch:=l) I4.os ⟨fun b o e n j hx=>k' b o (nDs b o e).2 (B4.keep b o e n j hx),fun b o e n j hx=>?_,fun b o e n hx=>?_,fun b o e hx=>?_,fun b xs e=>?_,fun b o u e=>?_,fun b ps e=>?_⟩ ?_ I4.bare fun b j=>?_
    ·obtain⟨sl,q⟩:=B4.slot b o e n j hx;exact⟨sl,k' b _ (nDs b o e).2 q⟩
    ·rw[aK (nDs b o e).1];exact B4.free b o e n hx
    ·obtain⟨o',q⟩:=B4.there b o e hx;exact⟨o',k' b _ (nDs b o e).2 q⟩
    ·have q:=B4.tups b xs e;rw[aK (nD _ _ q)];exact q
    ·have q:=B4.frzs b o u e;rw[aK (nD _ _ q)];exact q
    ·obtain⟨more,q⟩:=B4.tbls b ps e;exact⟨more,by rw[aK (nD _ _ q)];exact q⟩
    ·exact I4.hok.track pD4.2.1 I4.free k' ⟨hz',h,k,rv,k' D _ hDC pD4.1⟩
    obtain⟨f0,f1,f2,f3,f4,f5⟩:=hf b j;exact⟨f3,f1,f4,f5⟩
   refine Ob (T.item (bQ X N' scope (cellsFrom (C+1) scope.names L) a s₂ f C l) rfl rfl rfl hc i _ s3 Z3 H3 (fun _ _=>False) I3 (stat fr3) st3 go) fun r s4 ⟨u,hr,h4⟩=>?_;subst hr;refine Ob h4 fun _ s5 ⟨x,H5,I5,r5,y5,st5,fr5⟩=>?_;have I5':=I5.pinned (stat fr5) (T.obj _ _ st5);refine Ob (hg _ s5 Z3 H5 x u _ I5' r5 (step x H5 y5)) fun _ s6 ⟨Z6,H6,I6,q6⟩=>?_;refine Ob (hi _ s6 Z6 H6 _ I6 q6) fun ok s7 ⟨H7,I7,q7⟩=>?_;have N:∀{Z8:St} {H8:Hp} {s8:Shared},Inv (bQ X N' scope (cellsFrom (C+1) scope.names L) a s₂ f C l) ([(D,{ cls:=.type "list",data:=.seq h.toArray k})]++mz l s5.heap) Z8 H8 s8->tn (i+1) s8.heap/\∀b∈l,H8 b=none:=fun {Z8 H8 s8} I8 =>
    ⟨T.keep _ _ _ st5 fun b j o e=>(I8.pin (b,o) (V_ _ (V_ _ (gH j e)))).1,fun b j=>by
     obtain⟨o,e,d⟩:=T.obj _ _ st5 b j
     exact (I8.pin (b,o) (V_ _ (V_ _ (gH j e)))).2.1⟩
   cases ok with
   |false=>rw[if_neg G_] at q7 ⊢;obtain⟨m',hm,w7⟩:=q7;exact⟨m',hm,i+1,U,h,k,Z6,H7,I7.unpinned,rv,(N I7).1,(N I7).2,w7,hz⟩
   |true =>
   rw[if_pos rfl] at q7 ⊢;refine Ob (he _ s7 Z6 H7 _ I7 q7) fun uy s8 ⟨y,H8,I8,ry,hz8,m',hm,w8⟩=>?_;have R:=I8.pin (D,{ cls:=.type "list",data:=.seq h.toArray k}) (V_ _ (U_ _ (i_.mpr rfl)));have hl:=rv.length;refine lE R.1 (by omega) fun h' k' e' kk=>?_;have I9:Inv (bQ X N' scope (cellsFrom (C+1) scope.names L) a s₂ f C l) [] Z6 H8 { s8 with heap:=h'}:=by
    refine Inv.turned (t':=s8.toks) (it:=D) (I8.pins_of (pins':=[]) (fun p hp=>nomatch hp)) (fun b o j e=>kk b o j e) R.2.1 R.2.2.1 (.inr (by show s₂.heap.objs.size<=D;rw[hD];exact m_ _)) (fun x c e z=>?_) (fun p hp z=>?_)
    ·rcases gJ e with q | q
     ·have:=(F.empty x c (mem_of_lookup q)).2;rw[z,hCD] at this;omega
     obtain⟨v,q⟩:=I.cell x c (hcl x c q.2);have:=q.lt;rw[z,hD] at this;exact Zr _ this
    rw[W_] at hp;have:=o_ (I.pin p hp).1;rw[z,hD] at this;exact Zr _ this
   refine⟨m',hm,i+1,U++[y],h++[uy],k',Z6,H8,I9.pins_of fun p hp=>?_,rv.append (.cons ry .nil),?_,(N I8).2,w8,?_⟩
   ·rw[i_.mp hp];exact⟨e',R.2.1,R.2.2.1,R.2.2.2.1,fun v z=>by cases z⟩
   ·refine T.keep _ _ _ (N I8).1 fun b j o e=>kk b o (fun z=>?_) e;have:=hfl b j;rw[z,hD] at this;exact Zr _ this
   rw[d_,v_];omega
  rw[i_.mp hp];exact⟨hacc,hD,fun v z=>by cases z⟩
 exact codeAny_compStart_list (loop _ rfl) (T.self _ 0 _ _ _ P (loop _ rfl))
def UV (c:TI) (g:TG) (tt:TT) (te:TE) (nt:Nat) (cap:List Nat):TE:=fun Z H Q=>c Z H fun J a=>xY J g tt te (fun b H'=>∀p,H' p=none->Q (.ref p) (upd H' p (.lst b))) (n6 nt cap Z) a
def IK (K:X.calm=true) (S:acy X N' nt cap scope) (hi:PI X z c E) (F:∀n a s H C p,PG (bQ X N' scope n a s H C p) z g/\PIf (bQ X N' scope n a s H C p) l tt/\PE (bQ X N' scope n a s H C p) j te) (O:∀x,foldedSetIterable c X.env x=pure x:=by intro _;rfl):PE X (.ListComp j [⟨z,c,l,0⟩] scope t) (UV E g tt te nt cap):=by
 intro a s Z H Q I h;rw[eval_ListComp];obtain⟨n,d,q,i⟩:=mJ (scope:=scope) (env:=X.env) fun y hy U=>I.ok.has y.1 (S.free y hy U);refine wpAny_comprehension_free (use:=none) rfl O d S.kind S.names (Ob (hi a s Z H _ I h) fun v s1 Y=>Ob Y fun M s2 G=>?_);obtain⟨it,p,tn,J,H2,rfl,V,T,B,R,L⟩:=G;refine rZ (RR:=fun r C=>compPost (model X.prog X.w) X.A X.xe none (EP X a Z Q) r C) K S q i F V T B R L fun D C s4 m ys H' N hD hC W nD nC hz f k=>?_;refine⟨m,N,fun h' u=>?_⟩;exact⟨.ref D,_,k h' fun b o P e=>u.extBut b o P e,rfl,f D nD⟩
def BK (c:TI) (g:TG) (tt:TT) (te:TE) (nt:Nat) (cap:List Nat) (i:Nat):TS:=fun D Z H=>c Z H fun J a=>xY J g tt te (fun b H'=>∀p,H' p=none->D.nx (Z.set i (some (.ref p))) (upd H' p (.lst b))) (n6 nt cap Z) a
def IV {l K f:Expr}{t j r:Pos} (hc:X.calm=true) (hN:X.N.Nodup) (R:X.N[i]?=some x) (hx:Loc X.env.scope x) (S:acy X N' nt cap scope) (hi:PI X K f wi) (hX:∀M d s H C O,PG (bQ X N' scope M d s H C O) K g/\PIf (bQ X N' scope M d s H C O) n tt/\PE (bQ X N' scope M d s H C O) l te) (hsw:swapsWith (.ListComp l [⟨K,f,n,0⟩] scope t) (some (.Name x j)) r.line X.env=pure true:=by rfl) (hs:∀x,foldedSetIterable f X.env x=pure x:=by intro _;rfl) (Y:X.fn x=true\/X.env.scope.names.lookup x=some .local:=by first | exact .inl rfl | exact .inr rfl | assumption):
  PS X (.Assign [.Name x j] (.ListComp l [⟨K,f,n,0⟩] scope t) r) (BK wi g tt te nt cap i):=by
 intro d s Z H Dn I h;rw[exec_Assign_Name_used _ _ _ _ hsw];obtain⟨M,u,V,E⟩:=mJ (scope:=scope) (env:=X.env) fun y hy Y=>I.ok.has y.1 (S.free y hy Y);refine a_ (abr (a_ ?_));show wpAny _ X.A (do let _ <- comprehension (.ListComp l [⟨K,f,n,0⟩] scope t) scope X.env _ (newList []) false (eval f X.env) (some (assign (.Name x j) X.env))) _ _ s;refine a_ (Zz (wpAny_comprehension_free (use:=some (assign (.Name x j) X.env)) (Q:=fun _ s'=>SP X d Dn .next s') rfl hs u S.kind S.names
  (Ob (hi d s Z H _ I h) fun v s1 h1=>Ob h1 fun itv s2 h2=>?_)) (fun _ s' hq=>k_ (k_ hq)) fun _ _ e=>e)
 obtain⟨it,O,tn,J,H2,rfl,G,T,st2,f2,hw⟩:=h2;refine rZ (RR:=fun W C=>compPost (model X.prog X.w) X.A X.xe (some (assign (.Name x j) X.env)) (fun _ s'=>SP X d Dn .next s') W C) hc S V E hX G T st2 f2 hw fun D C s4 m ys H' hn hD P hDC nD nC hz B k=>?_;show wpAny _ X.A (assign (.Name x j) X.env (.ref D)) _ _ s4;have I4:=k s4.heap fun b o _ e=>e;have F:C≠X.env.locals:=fun z=>by have:=G.lt;rw[<- z] at this;exact absurd this (abG.mpr P)
 have L:∀y c,X.env.cells.lookup y=some c->c≠C:=fun y c e z=>by obtain⟨v,q⟩:=G.cell y c e;have:=q.lt;rw[z] at this;exact absurd this (abG.mpr P)
 refine wpAny_assign_Name (iG I4 hN R hx (show RelV (.ref D) (.ref D) from rfl) (fun s5 I5 ⟨a,sb,ha⟩=>?_) Y);have U:C≠a:=by
  rcases ha with rfl | ha
  ·exact F
  exact fun z=>L x a ha z.symm
 refine⟨m,hn.sameBut sb U,fun h' hs'=>⟨_,_,Inv.turned (t':=s5.toks) (it:=C) I5 (fun b o hb e=>hs'.extBut b o hb e) (by rw[aK hDC];exact nC) F (.inr (R_ G.sz P)) L (fun p hp z=>?_),B D nD⟩⟩;have:=o_ (G.pin p hp).1;rw[z] at this;exact absurd this (abG.mpr P)
def exP (e C:Addr) (d:Option Addr) (b:Bool) (h:Heap):Prop:=∃vs a,h.get? e=some ⟨.ref C,d,.fields vs,a⟩/\(b=true->vs[1]?=some .none)
def exO (e C:Addr) (d:Option Addr) (a:Bool):HO:=.ext (exP e C d a)
def dxP (a:Addr) (fs:List (Str × V)) (h:Heap):Prop:=∃mA,h.Ns1 a mA/\(∀f,acl (fs.lookup f) (mA f))/\PySem.Within mA (fs.map (·.1))
def dxO (a:Addr) (fs:List (Str × V)):HO:=.ext (dxP a fs)
section
variable {P:Program}{w:World}
def exP.at (x:exP e C d rd c) (k:∀o,c.get? e=some o->f.get? e=some o):exP e C d rd f:=let ⟨vs,sl,a,b⟩:=x;⟨vs,sl,k _ a,b⟩
def dxP.at {c d:Heap}(x:dxP dx fs c) (k:∀o,c.get? dx=some o->d.get? dx=some o):dxP dx fs d:=let ⟨mA,a,b⟩:=x;⟨mA,a.at k,b⟩
def exO.ok (x:exP e C d rd h):zc P w H h e (exO e C d rd):=⟨x,let ⟨_,_,a,_⟩:=x;⟨_,a⟩,fun _ _ y k=>y.at k⟩
def dxO.ok (x:dxP dx fs h):zc P w H h dx (dxO dx fs):=⟨x,let ⟨_,⟨_,_,_,a,_⟩,_⟩:=x;⟨_,a⟩,fun _ _ y k=>y.at k⟩
def exO.of (x:HOk P w H h) (q:H e=some (exO e C d rd)):exP e C d rd h:=(x e _ q).1
def dxO.of (x:HOk P w H h) (q:H dx=some (dxO dx fs)):dxP dx fs h:=(x dx _ q).1
end
end L2
set_option maxHeartbeats 1000000
namespace L3
open L2
inductive T where
 |non | bl (b:Bool) | int (i:Int) | str (x:Str) | tup (ts:List T) | ref (a:Addr) | ty (n:String)
mutual
def Rep (K:Frag) (H:Hp):T->V->Prop
 |.non,v=>v=.non
 |.bl b,v=>v=.bl b
 |.int i,v=>v=.int i
 |.str x,v=>v=.str x
 |.tup ts,v=>∃a xs,v=.ref a/\SqT K H a xs/\lX K H ts xs
 |.ref a,v=>v=.ref a
 |.ty n,v=>v=.ty n
def lX (K:Frag) (H:Hp):List T->List V->Prop
 |[],xs=>xs=[]
 |t::ts,xs=>∃x r,xs=x::r/\Rep K H t x/\lX K H ts r
end
def tR (K:Frag) (H H':Hp):Prop:=∀a xs,SqT K H a xs->SqT K H' a xs
def tR.refl {K:Frag}:tR K H H:=fun _ _ h=>h
def tR.trans {K:Frag} (a:tR K H e) (b:tR K e d):tR K H d:=fun c xs h=>b c xs (a c xs h)
mutual
def Rep.mono {K:Frag} (b:tR K H H'):∀{t:T}{v:V},Rep K H t v->Rep K H' t v
 |.non,_,h=>by simp only[Rep] at h ⊢;exact h
 |.bl _,_,h=>by simp only[Rep] at h ⊢;exact h
 |.int _,_,h=>by simp only[Rep] at h ⊢;exact h
 |.str _,_,h=>by simp only[Rep] at h ⊢;exact h
 |.ref _,_,h=>by simp only[Rep] at h ⊢;exact h
 |.ty _,_,h=>by simp only[Rep] at h ⊢;exact h
 |.tup ts,_,h=>by
  simp only[Rep] at h ⊢
  obtain⟨a,xs,e,s,r⟩:=h
  exact⟨a,xs,e,b a xs s,lX.mono b r⟩
def lX.mono {K:Frag} (c:tR K H H'):∀{ts:List T}{xs:List V},lX K H ts xs->lX K H' ts xs
 |[],_,h=>by simp only[lX] at h ⊢;exact h
 |t::ts,_,h=>by
  simp only[lX] at h ⊢
  obtain⟨x,r,e,a,b⟩:=h
  exact⟨x,r,e,Rep.mono c a,lX.mono c b⟩
end
section
variable {K:Frag}
def lX.nil:lX K H [] []:=by simp only[lX]
def lX.cons (a:Rep K H t v) (b:lX K H ts vs):lX K H (t::ts) (v::vs):=by simp only[lX];exact⟨v,vs,rfl,a,b⟩
def lX.inv (h:lX K H (t::ts) vs):∃v r,vs=v::r/\Rep K H t v/\lX K H ts r:=by simp only[lX] at h;exact h
def lX.inv0 (h:lX K H [] vs):vs=[]:=by simp only[lX] at h;exact h
def lX.length:∀{ts:List T}{vs:List V},lX K H ts vs->ts.length=vs.length
 |[],_,h=>by rw[h.inv0];rfl
 |t::ts,_,h=>by obtain⟨v,r,rfl,_,b⟩:=h.inv;simp [lX.length b]
def lX.get:∀{ts:List T}{vs:List V}{i:Nat}{t:T},lX K H ts vs->ts[i]?=some t->∃v,vs[i]?=some v/\Rep K H t v
 |[],_,_,_,_,e=>by simp at e
 |a::ts,_,0,t,h,e=>by obtain⟨v,r,rfl,q,_⟩:=h.inv;simp at e;subst e;exact⟨v,rfl,q⟩
 |a::ts,_,i+1,t,h,e=>by obtain⟨v,r,rfl,_,b⟩:=h.inv;simpa using lX.get b (by simpa using e)
def lX.get':∀{ts:List T}{vs:List V}{i:Nat}{v:V},lX K H ts vs->vs[i]?=some v->∃t,ts[i]?=some t/\Rep K H t v
 |[],_,_,_,h,e=>by rw[h.inv0] at e;simp at e
 |a::ts,_,0,v,h,e=>by obtain⟨x,r,rfl,q,_⟩:=h.inv;simp at e;subst e;exact⟨a,rfl,q⟩
 |a::ts,_,i+1,v,h,e=>by obtain⟨x,r,rfl,_,b⟩:=h.inv;simpa using lX.get' b (by simpa using e)
def lX.append:∀{ts us:List T}{xs c:List V},lX K H ts xs->lX K H us c->lX K H (ts++us) (xs++c)
 |[],_,_,_,h,h'=>by rw[h.inv0];exact h'
 |t::ts,_,_,_,h,h'=>by obtain⟨v,r,rfl,a,b⟩:=h.inv;exact .cons a (lX.append b h')
def lX.take:∀{ts:List T}{xs:List V}(n:Nat),lX K H ts xs->lX K H (ts.take n) (xs.take n)
 |[],_,n,h=>by rw[h.inv0];simp only[List.take_nil];exact .nil
 |t::ts,_,0,h=>.nil
 |t::ts,_,n+1,h=>by obtain⟨v,r,rfl,a,b⟩:=h.inv;exact .cons a (lX.take n b)
def lX.drop:∀{ts:List T}{xs:List V}(n:Nat),lX K H ts xs->lX K H (ts.drop n) (xs.drop n)
 |[],_,n,h=>by rw[h.inv0];simp only[List.drop_nil];exact .nil
 |t::ts,_,0,h=>h
 |t::ts,_,n+1,h=>by obtain⟨v,r,rfl,a,b⟩:=h.inv;exact lX.drop n b
def lX.set:∀{ts:List T}{xs:List V}{t:T}{v:V}(n:Nat),lX K H ts xs->Rep K H t v->lX K H (ts.set n t) (xs.set n v)
 |[],_,_,_,n,h,r=>by rw[h.inv0];exact .nil
 |t::ts,_,_,_,0,h,q=>by obtain⟨v,r,rfl,a,b⟩:=h.inv;exact .cons q b
 |t::ts,_,_,_,n+1,h,q=>by obtain⟨v,r,rfl,a,b⟩:=h.inv;exact .cons a (lX.set n b q)
def lX.reverse (h:lX K H ts xs):lX K H ts.reverse xs.reverse:=by
 induction ts generalizing xs with
 |nil=>rw[h.inv0];exact .nil
 |cons t ts c=>obtain⟨v,r,rfl,a,b⟩:=h.inv;simp only[List.reverse_cons];exact (c b).append (.cons a .nil)
def Rep.non (h:Rep K H .non v):v=.non:=by simp only[Rep] at h;exact h
def Rep.bl (h:Rep K H (.bl b) v):v=.bl b:=by simp only[Rep] at h;exact h
def Rep.int (h:Rep K H (.int i) v):v=.int i:=by simp only[Rep] at h;exact h
def Rep.str (h:Rep K H (.str x) v):v=.str x:=by simp only[Rep] at h;exact h
def Rep.ref (h:Rep K H (.ref a) v):v=.ref a:=by simp only[Rep] at h;exact h
def Rep.ty (h:Rep K H (.ty n) v):v=.ty n:=by simp only[Rep] at h;exact h
def Rep.tup (h:Rep K H (.tup ts) v):∃a xs,v=.ref a/\SqT K H a xs/\lX K H ts xs:=by simp only[Rep] at h;exact h
def Rep.ofNon:Rep K H .non .non:=by simp only[Rep]
def Rep.ofBl:Rep K H (.bl b) (.bl b):=by simp only[Rep]
def Rep.ofInt:Rep K H (.int i) (.int i):=by simp only[Rep]
def Rep.ofStr:Rep K H (.str x) (.str x):=by simp only[Rep]
def Rep.ofRef:Rep K H (.ref a) (.ref a):=by simp only[Rep]
def Rep.ofTy:Rep K H (.ty n) (.ty n):=by simp only[Rep]
def Rep.ofTup (h:SqT K H a xs) (r:lX K H ts xs):Rep K H (.tup ts) (.ref a):=by simp only[Rep];exact⟨a,xs,rfl,h,r⟩
end
inductive O3 where
 |lst (ts:List T) | rol (ts:List T) | dct (kvs:List (Str × T)) | dcp (kvs:List (List Key × T))
 |exc (C:Addr) (d:Option Addr) | xdt (fs:List (Str × T))
 |dci (kvs:List (Int × T)) | dif (o:Obj) (kvs:List (Int × T)) | ins (C:Addr) (fs:List (Str × T))
abbrev lO:=Addr->Option O3
def fY (H:lO) (a:Addr) (o:O3):lO:=fun b=>if b=a then some o else H b
def aq:fY H a o a=some o:=by unfold fY;rw[if_pos rfl]
def aD (h:b≠a):fY H a o b=H b:=by unfold fY;rw[if_neg h]
def qj:fY (fY H a o) a u=fY H a u:=by funext b;unfold fY;split <;> rfl
def acK (K:Frag) (H:Hp):List (Str × T)->List (Key × V)->Prop:=Paired fun (p:Str × T) (q:Key × V)=>q.1=Sum.inr p.1/\Rep K H p.2 q.2
def aeN (K:Frag) (H:Hp):List (List Key × T)->List (List Key × V)->Prop:=Paired fun (p:List Key × T) (q:List Key × V)=>q.1=p.1/\Rep K H p.2 q.2
def acN (K:Frag) (H:Hp):List (Str × T)->List (Str × V)->Prop:=Paired fun (p:Str × T) (q:Str × V)=>q.1=p.1/\Rep K H p.2 q.2
def acO (K:Frag) (H:Hp):List (Int × T)->List (Key × V)->Prop:=Paired fun (p:Int × T) (q:Key × V)=>q.1=Sum.inl p.1/\Rep K H p.2 q.2
def aef (K:Frag) (H:Hp) (a:Addr):O3->Prop
 |.lst ts=>∃xs,H a=some (.lst xs)/\lX K H ts xs
 |.rol ts=>∃xs,Rd H a (.lst xs)/\lX K H ts xs
 |.dct kvs=>∃vs,H a=some (.dK vs)/\acK K H kvs vs
 |.dcp kvs=>∃vs,H a=some (.dT vs)/\aeN K H kvs vs
 |.exc C d=>H a=some (exO a C d false)
 |.xdt fs=>∃vs,H a=some (dxO a vs)/\acN K H fs vs
 |.dci kvs=>∃vs,H a=some (.dK vs)/\acO K H kvs vs
 |.dif o kvs=>∃vs,H a=some (.frz o (.dK vs))/\acO K H kvs vs
 |.ins C fs=>∃b vs,H a=some (.ins C b vs)/\acN K H fs vs
def tL (K:Frag) (H3:lO) (H:Hp):Prop:=∀a o,H3 a=some o->aef K H a o
abbrev St3:=List (Option T)
structure ab2 (K:Frag) (H:Hp) (Z3:St3) (Z:L2.St):Prop where
 len:Z3.length=Z.length
 at':∀(i:Nat) (t:T),Z3[i]?=some (some t)->∃v,Z[i]?=some (some v)/\Rep K H t v
section
variable {K:Frag}{H3:lO}
def ab2.mono (s:ab2 K H Z3 Z) (a:tR K H H'):ab2 K H' Z3 Z:=⟨s.len,fun i t e=>let ⟨v,e',r⟩:=s.at' i t e;⟨v,e',r.mono a⟩⟩
def ab2.set (s:ab2 K H Z3 Z) (r:Rep K H t v):ab2 K H (Z3.set i (some t)) (Z.set i (some v)):=by
 refine⟨by simp [s.len],fun j u e=>?_⟩;by_cases b:i=j
 ·subst b;by_cases a:i<Z3.length
  ·rw[ZW a] at e;have c:t=u:=F_ (F_ e);subst c;exact⟨v,by rw[ZW (by rw[<- s.len];exact a)],r⟩
  rw[N_ (by simpa using a)] at e;cases e
 rw[aag b] at e;rw[aag b];exact s.at' j u e
def acK.mono (h:acK K H kvs vs) (c:tR K H H'):acK K H' kvs vs:=Paired.mapP h fun _ _ ⟨a,b⟩=>⟨a,b.mono c⟩
def acN.mono (h:acN K H kvs vs) (c:tR K H H'):acN K H' kvs vs:=Paired.mapP h fun _ _ ⟨a,b⟩=>⟨a,b.mono c⟩
def acO.mono (h:acO K H kvs vs) (c:tR K H H'):acO K H' kvs vs:=Paired.mapP h fun _ _ ⟨a,b⟩=>⟨a,b.mono c⟩
def aeN.mono (h:aeN K H kvs vs) (c:tR K H H'):aeN K H' kvs vs:=Paired.mapP h fun _ _ ⟨a,b⟩=>⟨a,b.mono c⟩
def ne3 (h:H3 a=some o) (h':H3 b=some u) (d:o≠u):a≠b:=by
 intro e;subst e;rw[h] at h';exact d (F_ h')
def bz (h:H3 a=some o) (h':H3 b=none):a≠b:=by
 intro e;subst e;rw[h] at h';cases h'
def aN (b:H p=none):tR K H (upd H p o):=fun a xs h=>by
 rcases h with (h | ⟨c,h⟩) | h
 ·exact .inl (.inl (by rw[aK (cG h b)];exact h))
 ·exact .inl (.inr ⟨c,by rw[aK (cG h b)];exact h⟩)
 exact .inr h
def bM (b:Mut (H p)):tR K H (upd H p o):=fun a xs h=>by
 have key:∀u,H a=some u->¬Mut (some u)->a≠p:=fun u e nm z=>by subst z;rw[e] at b;exact nm b
 rcases h with (h | ⟨c,h⟩) | h
 ·exact .inl (.inl (by rw[aK (key _ h fun z=>z)];exact h))
 ·exact .inl (.inr ⟨c,by rw[aK (key _ h fun z=>z)];exact h⟩)
 exact .inr h
def aef.stay (h:aef K H a o) (c:tR K H H') (b:∀u,H a=some u->H' a=some u):aef K H' a o:=by
 cases o with
 |lst ts=>obtain⟨xs,e,r⟩:=h;exact⟨xs,b _ e,r.mono c⟩
 |rol ts =>
  obtain⟨xs,e,r⟩:=h;refine⟨xs,?_,r.mono c⟩;rcases e with e | ⟨f,e⟩
  ·exact .inl (b _ e)
  exact .inr ⟨f,b _ e⟩
 |dct kvs=>obtain⟨vs,e,r⟩:=h;exact⟨vs,b _ e,r.mono c⟩
 |dcp kvs=>obtain⟨vs,e,r⟩:=h;exact⟨vs,b _ e,r.mono c⟩
 |exc C d=>exact b _ h
 |xdt fs=>obtain⟨vs,e,r⟩:=h;exact⟨vs,b _ e,r.mono c⟩
 |dci kvs=>obtain⟨vs,e,r⟩:=h;exact⟨vs,b _ e,r.mono c⟩
 |dif o kvs=>obtain⟨vs,e,r⟩:=h;exact⟨vs,b _ e,r.mono c⟩
 |ins C fs=>obtain⟨d,vs,e,r⟩:=h;exact⟨d,vs,b _ e,r.mono c⟩
def tL.new (s:tL K H3 H) (b:H p=none):tL K H3 (upd H p o):=fun a u e =>
 (s a u e).stay (aN b) fun w q=>by rw[aK (cG q b)];exact q
def tL.fresh (s:tL K H3 H) (a:H p=none):H3 p=none:=by
 cases e:H3 p with
 |none=>rfl
 |some o =>
  have q:=s p o e
  cases o with
  |lst ts=>obtain⟨xs,z,_⟩:=q;rw[a] at z;cases z
  |dct ts=>obtain⟨xs,z,_⟩:=q;rw[a] at z;cases z
  |dcp ts=>obtain⟨xs,z,_⟩:=q;rw[a] at z;cases z
  |exc C b=>have z:H p=_:=q;rw[a] at z;cases z
  |xdt ts=>obtain⟨xs,z,_⟩:=q;rw[a] at z;cases z
  |dci ts=>obtain⟨xs,z,_⟩:=q;rw[a] at z;cases z
  |dif o ts=>obtain⟨xs,z,_⟩:=q;rw[a] at z;cases z
  |ins C ts=>obtain⟨b,xs,z,_⟩:=q;rw[a] at z;cases z
  |rol ts =>
   obtain⟨xs,z,_⟩:=q
   rcases z with z | ⟨c,z⟩
   ·
    rw[a] at z;cases z
   ·
    rw[a] at z;cases z
end
abbrev My:=T->lO->Prop
abbrev Pr:=St3->lO->My->Prop
abbrev TT3:=St3->lO->(Bool->lO->Prop)->Prop
abbrev TA3:=St3->lO->(List T->lO->Prop)->Prop
structure acP where
 nx:St3->lO->Prop
 rt:My
 bk:St3->lO->Prop:=fun _ _=>False
 ct:St3->lO->Prop:=fun _ _=>False
abbrev TS3:=acP->St3->lO->Prop
abbrev TG3:=T->St3->lO->(St3->lO->Prop)->Prop
abbrev mK:=List T->St3->lO->(St3->lO->Prop)->Prop
abbrev R3:=T->T->lO->My->Prop
section
variable (K:Frag)
def KV3 (H:Hp) (b:My) (Q:VK):Prop:=∀v H' t a,tR K H H'->tL K a H'->Rep K H' t v->b t a->Q v H'
def KS3 (H:Hp) (d:St3->lO->Prop) (N:L2.St->Hp->Prop):Prop:=∀c H' b a,tR K H H'->ab2 K H' b c->tL K a H'->d b a->N c H'
def lft (c:Pr):TE:=fun Z H Q=>∃b H3 a,ab2 K H b Z/\tL K H3 H/\c b H3 a/\KV3 K H a Q
def zT (e:TT3):TT:=fun Z H Q=>∃d H3 c,ab2 K H d Z/\tL K H3 H/\e d H3 c/\∀b H' a,tR K H H'->tL K a H'->c b a->Q b H'
def Yv (d:TA3):TA:=fun Z H Q=>∃c H3 b,ab2 K H c Z/\tL K H3 H/\d c H3 b/\∀vs H' ts a,tR K H H'->tL K a H'->lX K H' ts vs->b ts a->Q vs H'
def zU (c:TS3):TS:=fun D Z H=>∃b H3 a,ab2 K H b Z/\tL K H3 H/\c a b H3/\KS3 K H a.nx D.nx/\KV3 K H a.rt D.rt/\KS3 K H a.bk D.bk/\KS3 K H a.ct D.ct
def IW (c:TG3):TG:=fun v Z H Q=>∃t b H3 a,Rep K H t v/\ab2 K H b Z/\tL K H3 H/\c t b H3 a/\KS3 K H a Q
def UW (c:mK):TGs:=fun vs Z H Q=>∃ts b H3 a,lX K H ts vs/\ab2 K H b Z/\tL K H3 H/\c ts b H3 a/\KS3 K H a Q
def PQ (d:R3):R2:=fun x y H Q=>∃a b H3 c,Rep K H a x/\Rep K H b y/\tL K H3 H/\d a b H3 c/\KV3 K H c Q
def Yw (b:List T->lO->My->Prop):List V->Hp->VK->Prop:=fun xs H Q=>∃ts H3 a,lX K H ts xs/\tL K H3 H/\b ts H3 a/\KV3 K H a Q
def Yx (c:T->List T->lO->My->Prop):V->List V->Hp->VK->Prop:=fun x xs H Q=>∃a ts H3 b,Rep K H a x/\lX K H ts xs/\tL K H3 H/\c a ts H3 b/\KV3 K H b Q
end
section
variable {K:Frag}
def KV3.at (k:KV3 K H b Q) (c:tR K H H1):KV3 K H1 b Q:=fun v H' t a l=>k v H' t a (c.trans l)
def KS3.at (k:KS3 K H e N) (f:tR K H H1):KS3 K H1 e N:=fun a b c d l=>k a b c d (f.trans l)
end
def Ho (X:Cx) (e:Expr) (t:Pr):Prop:=PE X e (lft X.K t)
def PT3 (X:Cx) (e:Expr) (t:TT3):Prop:=PT X e (zT X.K t)
def PW3 (X:Cx) (e:Expr) (t:TT3):Prop:=PW X e (zT X.K t)
def PA3 (X:Cx) (a:List Expr) (t:TA3):Prop:=PA X a (Yv X.K t)
def PS3 (X:Cx) (st:Stmt) (t:TS3):Prop:=PS X st (zU X.K t)
def lF (X:Cx) (st:List Stmt) (t:TS3):Prop:=PSs X st (zU X.K t)
def PG3 (X:Cx) (e:Expr) (t:TG3):Prop:=PG X e (IW X.K t)
def Ja (X:Cx) (a:List Expr) (t:mK):Prop:=PGs X a (UW X.K t)
def d8 (X:Cx) (f:Value->Value->Sem Value) (r:R3):Prop:=OpR X f (PQ X.K r)
def dz (X:Cx) (f:Value) (r:List T->lO->My->Prop):Prop:=ab1 X f (Yw X.K r)
def U0 (X:Cx) (r:R3):Prop:=IxR X (PQ X.K r)
def vM (X:Cx) (a:String) (r:T->List T->lO->My->Prop):Prop:=MtR X a (Yx X.K r)
def PE.imp (h:PE X e t) (w:∀Z H Q,t' Z H Q->t Z H Q):PE X e t':=fun a s Z H Q I q=>h a s Z H Q I (w Z H Q q)
def PT.imp (h:PT X e t) (w:∀Z H Q,t' Z H Q->t Z H Q):PT X e t':=fun a s Z H Q I q=>h a s Z H Q I (w Z H Q q)
def PW.imp (h:PW X e t) (w:∀Z H Q,t' Z H Q->t Z H Q):PW X e t':=fun b a s Z H Q I q=>h b a s Z H Q I (w Z H Q q)
def PA.imp (h:PA X c t) (w:∀Z H Q,t' Z H Q->t Z H Q):PA X c t':=fun b a s Z H Q I q=>h b a s Z H Q I (w Z H Q q)
def PS.imp (h:PS X e t) (w:∀D Z H,t' D Z H->t D Z H):PS X e t':=fun a s Z H D I q=>h a s Z H D I (w D Z H q)
def PSs.imp (h:PSs X e t) (w:∀D Z H,t' D Z H->t D Z H):PSs X e t':=fun a s Z H D I q=>h a s Z H D I (w D Z H q)
def PG.imp (h:PG X e t) (w:∀v Z H Q,t' v Z H Q->t v Z H Q):PG X e t':=fun a s Z H v u Q I r q=>h a s Z H v u Q I r (w v Z H Q q)
def PGs.imp (h:PGs X e t) (w:∀v Z H Q,t' v Z H Q->t v Z H Q):PGs X e t':=fun a s Z H v u Q I r q=>h a s Z H v u Q I r (w v Z H Q q)
def OpR.imp (h:OpR X f t) (w:∀x y H Q,t' x y H Q->t x y H Q):OpR X f t':=fun a s Z H x y v u Q I c b q=>h a s Z H x y v u Q I c b (w x y H Q q)
def ab1.imp (h:ab1 X f t) (w:∀x H Q,t' x H Q->t x H Q):ab1 X f t':=fun a s Z H x v Q I b q=>h a s Z H x v Q I b (w x H Q q)
def IxR.imp (h:IxR X t) (w:∀x y H Q,t' x y H Q->t x y H Q):IxR X t':=fun a b c s Z H x y v u Q I e d q=>h a b c s Z H x y v u Q I e d (w x y H Q q)
def MtR.imp (h:MtR X b t) (w:∀x xs H Q,t' x xs H Q->t x xs H Q):MtR X b t':=fun a s Z H x xs v us Q I c d q=>h a s Z H x xs v us Q I c d (w x xs H Q q)
section
variable {X:Cx}{pos:Pos}
def sr (i:Nat):Pr:=fun Z H Q=>match Z[i]? with
 |some (some t)=>Q t H
 |_=>False
def tC3 (t:T):Pr:=fun _ H Q=>Q t H
def v3 (i:Nat) {a:Pos} (l:X.N[i]?=some x:=by rfl) (f:Vis X.env.scope x:=by first | exact Or.inl rfl | exact Or.inr (Or.inl rfl) | exact Or.inr (Or.inr rfl)) (d:(x==("__debug__":Str))=false:=by decide) (b:(x==("__classdict__":Str))=false:=by decide):Ho X (.Name x a) (sr i):=by
 refine PE.imp (pv i l f d b) ?_;rintro Z H Q ⟨n,H3,m,c,g,h,k⟩;unfold sr at h;split at h
 ·rename_i t e;obtain⟨v,j,r⟩:=c.at' i t e;exact⟨v,j,k v H t H3 .refl g r h⟩
 exact h.elim
def ao:Ho X (.Constant (.int i) j pos) (tC3 (.int i)):=by
 refine PE.imp Oj ?_;rintro Z H Q ⟨c,H3,b,d,a,h,k⟩;exact k _ _ _ H3 .refl a .ofInt h
def cJ:Ho X (.Constant (.bool b) j pos) (tC3 (.bl b)):=by
 refine PE.imp TV ?_;rintro Z H Q ⟨d,H3,c,e,a,h,k⟩;exact k _ _ _ H3 .refl a .ofBl h
def BL:Ho X (.Constant .none j pos) (tC3 .non):=by
 refine PE.imp Ol ?_;rintro Z H Q ⟨c,H3,b,d,a,h,k⟩;exact k _ _ _ H3 .refl a .ofNon h
def cN:Ho X (.Constant (.str x) j pos) (tC3 (.str x)):=by
 refine PE.imp Om ?_;rintro Z H Q ⟨c,H3,b,d,a,h,k⟩;exact k _ _ _ H3 .refl a .ofStr h
variable {a b c:Expr}{ta tb tc:Pr}
def su (r:R3) (c tb:Pr):Pr:=fun Z H Q=>c Z H fun x b=>tb Z b fun y a=>r x y a Q
def iI (h:lft X.K (su r ta tb) Z H Q):tOp (PQ X.K r) (lft X.K ta) (lft X.K tb) Z H Q:=by
 obtain⟨g,H3,m,i,o,h,k⟩:=h;exact⟨g,H3,_,i,o,h,fun x u l c b e p s=>⟨g,c,_,i.mono b,e,s,fun y t q d a f n j=>⟨l,q,d,m,p.mono a,n,f,j,k.at (b.trans a)⟩⟩⟩
def aH {c:Operator} (e:d8 X (binaryOp c) r) (d:Ho X a ta) (f:Ho X b tb):Ho X (.BinOp a c b pos) (su r ta tb):=PE.imp (Ud e d f) fun _ _ _ h=>iI h
def d9 {c:CmpOp} (d:d8 X (compareOp c) r) (g:Ho X a ta) (f:Ho X b tb) (e:behindInMarks c b=false:=by first | exact Bj _ | rfl):Ho X (.Compare a [c] [b] pos) (su r ta tb):=PE.imp (HS d g f e) fun _ _ _ h=>iI h
def aJ (c:U0 X r) (e:Ho X a ta) (f:Ho X b tb) (d:xU b:=by exact fun _ _=>rfl):Ho X (.Subscript a b pos) (su r ta tb):=PE.imp (Uu c e f d) fun _ _ _ h=>iI h
def j0 (t:Pr):TT3:=fun Z H Q=>t Z H fun x H'=>match x with
 |.bl k=>Q k H'
 |_=>False
def aR (f:d8 X (compareOp e) r) (o:Ho X a ta) (n:Ho X b tb) (l:behindInMarks e b=false:=by first | exact Bj _ | rfl):PT3 X (.Compare a [e] [b] pos) (j0 (su r ta tb)):=by
 refine PT.imp (HW f o n l) ?_;rintro Z H Q ⟨g,H3,p,i,j,h,k⟩;refine iI (X:=X) ⟨g,H3,_,i,j,h,fun v H' t c m d r q=>?_⟩;cases t with
 |bl b=>exact⟨b,r.bl,k b H' c m d q⟩
 |_=>exact q.elim
variable {rest:List Expr}
def cW (h:Ho X a ta) (j:∀whole,isTrue a X.env whole=(do let v <- whole;standAt a.pos;holding [v] (truthy v)):=by intro _;rfl):PT3 X a (j0 ta):=by
 refine PT.imp (Oo h j) ?_;rintro Z H Q ⟨e,H3,l,f,g,h,k⟩;refine⟨e,H3,_,f,g,h,fun v H' t c i d r q=>?_⟩;cases t with
 |bl b=>exact⟨b,r.bl,k b H' c i d q⟩
 |_=>exact q.elim
def Lz (t u:TT3):TT3:=fun Z H Q=>t Z H fun c a=>if c=true then u Z a Q else Q false a
def U3 (t u:TT3):TT3:=fun Z H Q=>t Z H fun c a=>if c=true then Q true a else u Z a Q
def LC (t:TT3):TT3:=fun Z H Q=>t Z H fun c a=>Q (!c) a
def PW3.pt (h:PW3 X a tA):PT3 X a tA:=PW.pt h
def dW (b:PT3 X a tA):PW3 X (.BoolOp .And [a] pos) tA:=HB b
def jf (b:PT3 X a tA):PW3 X (.BoolOp .Or [a] pos) tA:=Oq b
def eN (r:PT3 X a tA) (p:PW3 X (.BoolOp .And (b::rest) pos) tB'):PW3 X (.BoolOp .And (a::b::rest) pos) (Lz tA tB'):=by
 refine PW.imp (Ot r p) ?_;rintro Z H Q ⟨l,H3,s,m,o,h,k⟩;refine⟨l,H3,_,m,o,h,fun b H' c j d q=>?_⟩;cases b with
 |true=>exact⟨l,c,_,m.mono j,d,q,fun b g f i e n=>k b g f (j.trans i) e n⟩
 |false=>exact k false H' c j d q
def iZ (r:PT3 X a tA) (p:PW3 X (.BoolOp .Or (b::rest) pos) tB'):PW3 X (.BoolOp .Or (a::b::rest) pos) (U3 tA tB'):=by
 refine PW.imp (TX r p) ?_;rintro Z H Q ⟨l,H3,s,m,o,h,k⟩;refine⟨l,H3,_,m,o,h,fun b H' c j d q=>?_⟩;cases b with
 |true=>exact k true H' c j d q
 |false=>exact⟨l,c,_,m.mono j,d,q,fun b g f i e n=>k b g f (j.trans i) e n⟩
def gK (j:PT3 X a tA):PT3 X (.UnaryOp .Not a pos) (LC tA):=by
 refine PT.imp (Ou j) ?_;rintro Z H Q ⟨e,H3,l,f,g,h,k⟩;exact⟨e,H3,_,f,g,h,fun b H' c i d q=>k _ H' c i d q⟩
def BP (b tb:Pr):Pr:=fun Z H Q=>b Z H fun x a=>match x with
 |.bl c=>if c=true then tb Z a Q else Q (.bl false) a
 |_=>False
def LK (b tb:Pr):Pr:=fun Z H Q=>b Z H fun x a=>match x with
 |.bl c=>if c=true then Q (.bl true) a else tb Z a Q
 |_=>False
def BR (b:Pr):Pr:=fun Z H Q=>b Z H fun x a=>match x with
 |.bl c=>Q (.bl (!c)) a
 |_=>False
def vN {b:PySem.BoolOp} (h:Ho X a t):Ho X (.BoolOp b [a] pos) t:=Ov h
def vO (l:Ho X a ta) (j:Ho X (.BoolOp .And (b::rest) pos) tb):Ho X (.BoolOp .And (a::b::rest) pos) (BP ta tb):=by
 refine PE.imp (Ow l j) ?_;rintro Z H Q ⟨f,H3,m,g,i,h,k⟩;refine⟨f,H3,_,g,i,h,fun v H' t c e d r q=>?_⟩;cases t with
 |bl b =>
  refine⟨b,r.bl,?_⟩;cases b with
  |true=>exact⟨f,c,_,g.mono e,d,q,k.at e⟩
  |false=>exact k _ H' _ c e d .ofBl q
 |_=>exact q.elim
def U4 (l:Ho X a ta) (j:Ho X (.BoolOp .Or (b::rest) pos) tb):Ho X (.BoolOp .Or (a::b::rest) pos) (LK ta tb):=by
 refine PE.imp (T4 l j) ?_;rintro Z H Q ⟨f,H3,m,g,i,h,k⟩;refine⟨f,H3,_,g,i,h,fun v H' t c e d r q=>?_⟩;cases t with
 |bl b =>
  refine⟨b,r.bl,?_⟩;cases b with
  |true=>exact k _ H' _ c e d .ofBl q
  |false=>exact⟨f,c,_,g.mono e,d,q,k.at e⟩
 |_=>exact q.elim
def PX (j:Ho X a ta):Ho X (.UnaryOp .Not a pos) (BR ta):=by
 refine PE.imp (Ox j) ?_;rintro Z H Q ⟨e,H3,l,f,g,h,k⟩;refine⟨e,H3,_,f,g,h,fun v H' t c i d r q=>?_⟩;cases t with
 |bl b=>exact⟨b,r.bl,k _ H' _ c i d .ofBl q⟩
 |_=>exact q.elim
def Yy (t:TT3) (b tb:Pr):Pr:=fun Z H Q=>t Z H fun c a=>if c=true then b Z a Q else tb Z a Q
def LQ:TA3:=fun _ H Q=>Q [] H
def BV (c:Pr) (d:TA3):TA3:=fun Z H Q=>c Z H fun x b=>d Z b fun xs a=>Q (x::xs) a
def ak:PA3 X [] LQ:=by
 refine PA.imp Pq ?_;rintro Z H Q ⟨c,H3,b,d,a,h,k⟩;exact k _ _ _ _ .refl a .nil h
def aa (u:Ho X e te) (s:PA3 X es t) (p:starEach (e::es) X.env=(false,eval e X.env)::starEach es X.env:=by rfl):PA3 X (e::es) (BV te t):=by
 refine PA.imp (Ia u s p) ?_;rintro Z H Q ⟨f,H3,w,g,o,h,k⟩;exact⟨f,H3,_,g,o,h,fun v H' t c i d r q=>⟨f,c,_,g.mono i,d,q,fun vs m ts j a b l n=>k _ _ _ _ (i.trans a) b (.cons (r.mono a) l) n⟩⟩
def LR (t:TA3):Pr:=fun Z H Q=>t Z H fun xs a=>xs.length<=sizeLine/\Q (.tup xs) a
def Ma (t:TA3):Pr:=fun Z H Q=>t Z H fun xs a=>xs.length<=sizeLine/\∀p,a p=none->Q (.ref p) (fY a p (.lst xs))
def tL.newTup {K:Frag}{H3:lO} (a:H p=none) (r:lX K H ts xs):Rep K (upd H p (.tup xs)) (.tup ts) (.ref p) :=
 .ofTup (.of aY) (r.mono (aN a))
def tL.newLst {K:Frag} (s:tL K H3 H) (b:H p=none) (r:lX K H ts xs):tL K (fY H3 p (.lst ts)) (upd H p (.lst xs)):=fun a o e=>by
 by_cases c:a=p
 ·subst c;rw[aq] at e;cases e;exact⟨xs,aY,r.mono (aN b)⟩
 rw[aD c] at e;exact s.new b a o e
def bA (h:PA3 X es t):Ho X (.Tuple es x1 pos) (LR t):=by
 refine PE.imp (Pu h) ?_;rintro Z H Q ⟨d,H3,i,e,f,h,k⟩;refine⟨d,H3,_,e,f,h,fun vs H' ts a g c r q=>⟨by rw[<- r.length];exact q.1,fun p b=>?_⟩⟩;exact k _ _ _ a (g.trans (aN b)) (c.new b) (tL.newTup (H3:=a) b r) q.2
def bh (h:PA3 X es t):Ho X (.List es pos) (Ma t):=by
 refine PE.imp (Px h) ?_;rintro Z H Q ⟨d,H3,i,e,f,h,k⟩;refine⟨d,H3,_,e,f,h,fun vs H' ts c g a r q=>⟨by rw[<- r.length];exact q.1,fun p b=>?_⟩⟩;exact k _ _ _ _ (g.trans (aN b)) (a.newLst b r) .ofRef (q.2 p (a.fresh b))
end
section
variable {X:Cx}{st:Stmt}{rest:List Stmt}{pos:Pos}
def BW:TS3:=fun D Z H=>D.nx Z H
def xZ (t u:TS3):TS3:=fun D Z H=>t { D with nx:=u D} Z H
def aO:lF X [] BW:=by
 refine PSs.imp HD ?_;rintro D Z H ⟨d,H3,e,a,c,h,b,_⟩;exact b _ _ _ _ .refl a c h
def aj (o:PS3 X st t) (j:lF X rest u):lF X (st::rest) (xZ t u):=by
 refine PSs.imp (rJ o j) ?_;rintro D Z H ⟨k,H3,n,l,p,h,m,f,i,g⟩;exact⟨k,H3,_,l,p,h,fun r H' c b a d e q=>⟨c,b,n,d,e,q,m.at a,f.at a,i.at a,g.at a⟩,f,i,g⟩
def au (a:PS3 X st t):lF X [st] t:=xO a
def BX (te:Pr):TS3:=fun D Z H=>te Z H fun _ a=>D.nx Z a
def bC (k:Ho X e te) (j:swapsWith e none pos.line X.env=pure false:=by rfl):PS3 X (.Expr e pos) (BX te):=by
 refine PS.imp (HF k j) ?_;rintro D Z H ⟨f,H3,l,b,i,h,g,_⟩;exact⟨f,H3,_,b,i,h,fun v H' t d c a r q=>g _ _ _ _ c (b.mono c) a q⟩
def Mf (te:Pr):TS3:=fun D Z H=>te Z H D.rt
def aL (f:Ho X e te):PS3 X (.Return (some e) pos) (Mf te):=by
 refine PS.imp (Oz f) ?_;rintro D Z H ⟨b,H3,i,c,d,h,g,a,_⟩;exact⟨b,H3,_,c,d,h,a⟩
def P0:TS3:=fun D _ H=>D.rt .non H
def Mg (c:TT3) (t u:TS3):TS3:=fun D Z H=>c Z H fun b a=>if b=true then t D Z a else u D Z a
def bc (p:PT3 X c tc) (s:lF X a t) (r:lF X b u):PS3 X (.If c a b pos) (Mg tc t u):=by
 refine PS.imp (T7 p s r) ?_;rintro D Z H ⟨g,H3,n,i,o,h,l,j,m,k⟩;refine⟨g,H3,_,i,o,h,fun b H' e d f q=>?_⟩;cases b with
 |true=>exact⟨g,e,n,i.mono d,f,q,l.at d,j.at d,m.at d,k.at d⟩
 |false=>exact⟨g,e,n,i.mono d,f,q,l.at d,j.at d,m.at d,k.at d⟩
def fJ (i:Nat):TG3:=fun v Z H Q=>Q (Z.set i (some v)) H
def aC (i:Nat) (b:X.N.Nodup) (e:X.N[i]?=some x:=by rfl) (d:Loc X.env.scope x:=by first | exact Or.inl rfl | exact Or.inr rfl) (f:X.fn x=true\/X.env.scope.names.lookup x=some .local:=by first | exact .inl rfl | exact .inr rfl | assumption):PG3 X (.Name x pos) (fJ i):=by
 refine PG.imp (HH b e d f) ?_;rintro v Z H Q ⟨t,j,H3,g,r,a,c,h,k⟩;exact k _ _ _ _ .refl (a.set r) c h
def yc:mK:=fun ts Z H Q=>match ts with
 |[]=>Q Z H
 |_=>False
def jg (t:TG3) (u:mK):mK:=fun ts Z H Q=>match ts with
 |x::r=>t x Z H fun a H'=>u r a H' Q
 |[]=>False
def bB:Ja X [] yc:=by
 refine PGs.imp HJ ?_;rintro vs Z H Q ⟨ts,d,H3,c,r,b,a,h,k⟩;cases ts with
 |nil=>exact⟨r.inv0,k _ _ _ _ .refl b a h⟩
 |cons _ _=>exact h.elim
def aG {t:TG3}{u:mK} (p:PG3 X e t) (j:Ja X a u) (s:(assignEach (e::a) X.env).map (·.2)=assign e X.env::(assignEach a X.env).map (·.2):=by rfl):Ja X (e::a) (jg t u):=by
 refine PGs.imp (Bg p j s) ?_;rintro vs Z H Q ⟨ts,l,H3,m,r,n,o,h,k⟩;cases ts with
 |nil=>exact h.elim
 |cons x ts =>
 obtain⟨v,y,rfl,i,w⟩:=r.inv;exact⟨v,y,rfl,x,l,H3,_,i,n,o,h,fun z H' c b g d f q=>⟨ts,c,b,m,w.mono g,d,f,q,k.at g⟩⟩
def sy (n:Nat) (g:mK):TG3:=fun t Z H Q=>match t with
 |.tup ts=>ts.length=n/\g ts Z H Q
 |_=>False
def bO {k:Nat}{t:mK} (l:X.calm=true) (h:Ja X b t) (j:(assignEach b X.env).length=n:=by rfl) (c:(assignEach b X.env).findIdx? (·.1)=none:=by rfl):PG3 X (.Tuple b k pos) (sy n t):=by
 refine PG.imp (OD l h j c) ?_;rintro v Z H Q ⟨t,e,H3,f,r,g,i,h,k⟩;cases t with
 |tup ts=>obtain⟨a,xs,rfl,s,d⟩:=r.tup;exact⟨a,xs,rfl,s,by rw[<- d.length];exact h.1,ts,e,H3,f,d,g,i,h.2,k⟩
 |_=>exact h.elim
def yd (te:Pr) (g:TG3):TS3:=fun D Z H=>te Z H fun x a=>g x Z a D.nx
def ig (o:Ho X e te) (n:PG3 X a g) (m:swapsWithSole [a] e pos.line X.env=pure false:=by rfl) (p:swappedStores [a] e X.env=pure none:=by rfl) (k:(assignEach [a] X.env).map (·.2)=[assign a X.env]:=by rfl):PS3 X (.Assign [a] e pos) (yd te g):=by
 refine PS.imp (O1 o n m p k) ?_;rintro D Z H ⟨d,H3,s,f,l,h,j,_⟩;exact⟨d,H3,_,f,l,h,fun v H' t b i c r q=>⟨t,d,b,_,r,f.mono i,c,q,j.at i⟩⟩
def aF (i:Nat) {a:Pos} (k:X.N.Nodup) (o:Ho X e te) (p:X.N[i]?=some x:=by rfl) (m:Loc X.env.scope x:=by first | exact Or.inl rfl | exact Or.inr rfl) (n:swapsWith e (some (.Name x a)) pos.line X.env=pure false:=by rfl) (s:X.fn x=true\/X.env.scope.names.lookup x=some .local:=by first | exact .inl rfl | exact .inr rfl | assumption):
  PS3 X (.Assign [.Name x a] e pos) (yd te (fJ i)):=by
 refine PS.imp (O2 k p m o n s) ?_;rintro D Z H ⟨g,H3,u,c,l,h,j,_⟩;exact⟨g,H3,_,c,l,h,fun v H' t f d b r q=>j _ _ _ _ d ((c.mono d).set r) b q⟩
end
abbrev sE:=T->T->T->lO->(lO->Prop)->Prop
def Qa (K:Frag) (f:sE):Bf:=fun o i v H Q=>∃d c e H3 b,Rep K H d o/\Rep K H c i/\Rep K H e v/\tL K H3 H/\f d c e H3 b/\∀H' a,tR K H H'->tL K a H'->b a->Q H'
def Mh (X:Cx) (t:sE):Prop:=adF X (Qa X.K t)
def adF.imp (h:adF X t) (w:∀o i v H Q,t' o i v H Q->t o i v H Q):adF X t':=fun a s Z H o i v c e u Q I f b d q=>h a s Z H o i v c e u Q I f b d (w o i v H Q q)
def Mi (d c:Pr) (t:sE):TG3:=fun v Z H Q=>d Z H fun o b=>c Z b fun i a=>t o i v a fun H3=>Q Z H3
def BZ (s:Ho X o d) (B:Ho X i c) (x:Mh X t) (C:∀v,assign (.Subscript o i pos) X.env v=(do
   let ov <- holding [v] (eval o X.env)
   let iv <- holding [v,ov] (eval i X.env)
   standAt pos
   holding [v,ov,iv] (setItem ov iv v)
   release [v,ov,iv] []):=by intro _;rfl):PG3 X (.Subscript o i pos) (Mi d c t):=by
 refine PG.imp (OJ s B x C) ?_;rintro v Z H Q ⟨t,p,H3,E,r,g,A,h,k⟩;exact⟨p,H3,_,g,A,h,fun o F d e a l u D=>⟨p,e,_,g.mono a,l,D,fun i G c f b j w z=>⟨d,c,t,f,_,u.mono b,w,r.mono (a.trans b),j,z,fun H' y n m q=>k _ _ _ _ (a.trans (b.trans n)) (g.mono (a.trans (b.trans n))) m q⟩⟩⟩
abbrev TI3:=St3->lO->(List T->(lO->Prop)->lO->Prop)->Prop
def jx (K:Frag) (J:It) (ts:List T) (still:lO->Prop) (H:Hp):Prop:=∀H' b,tR K H H'->tL K b H'->still b ->
 (∀i,ts.length<=i->J.stop i H')/\∀i t,ts[i]?=some t->J.go i H'/\∀x a,J.yld i H' x a->tR K H' a/\tL K b a/\Rep K a t x
def Yz (K:Frag) (c:TI3):TI:=fun Z H R=>∃b H3 R3,ab2 K H b Z/\tL K H3 H/\c b H3 R3/\∀J ts still H' a,tR K H H'->tL K a H'->jx K J ts still H'->R3 ts still a->R J H'
def PI3 (X:Cx) (b a:Expr) (t:TI3):Prop:=PI X b a (Yz X.K t)
def PI.imp (h:PI X b e t) (w:∀Z H R,t' Z H R->t Z H R):PI X b e t':=fun a s Z H R I q=>h a s Z H R I (w Z H R q)
def cL:lO->Prop:=fun _=>True
def bD (a:Addr) (ts:List T):lO->Prop:=fun H=>H a=some (.lst ts)\/H a=some (.rol ts)
def tL.sqL {K:Frag} (s:tL K H3 H) (h:bD a ts H3):∃xs,SqL K H a xs/\lX K H ts xs:=by
 rcases h with h | h
 ·obtain⟨xs,e,r⟩:=s a _ h;exact⟨xs,.of e,r⟩
 obtain⟨xs,e,r⟩:=s a _ h;exact⟨xs,.inl e,r⟩
section
variable {tg l:Expr}{pos p:Pos}
def Ca (c:Pr):TI3:=fun Z H R=>c Z H fun x b=>match x with
 |.ref a=>match b a with
  |some (.lst ts)=>R ts (bD a ts) b
  |some (.rol ts)=>R ts (bD a ts) b
  |_=>False
 |_=>False
def oZ {K:Frag}:jx K (Itl K a) ts (bD a ts) H:=fun H' g m d st=>by
 obtain⟨xs,b,c⟩:=d.sqL st;have n:=c.length;refine⟨fun i l=>⟨xs,b,by omega⟩,fun i t e=>?_⟩;obtain⟨v,f,h⟩:=c.get e;refine⟨⟨xs,v,b,f⟩,fun x j y=>?_⟩;obtain⟨k,y⟩:=y;subst k;have:=y xs b;rw[f] at this;cases this;exact⟨.refl,d,h⟩
def cD (o:Ho X l tl):PI3 X tg l (Ca tl):=by
 refine PI.imp (HN o) ?_;rintro Z H R ⟨j,H3,R3,m,n,h,k⟩;refine⟨j,H3,_,m,n,h,fun v H' t b g c r q=>?_⟩;cases t with
 |ref a =>
  have d:(match b a with
   |some (.lst ts)=>R3 ts (bD a ts) b
   |some (.rol ts)=>R3 ts (bD a ts) b
   |_=>False):=q
  split at d
  ·
   rename_i ts e
   obtain⟨xs,f,i⟩:=c.sqL (.inl e)
   exact⟨a,r.ref,⟨xs,f⟩,k _ ts (bD a ts) H' b g c oZ d⟩
  ·
   rename_i ts e
   obtain⟨xs,f,i⟩:=c.sqL (.inr e)
   exact⟨a,r.ref,⟨xs,f⟩,k _ ts (bD a ts) H' b g c oZ d⟩
  ·
   exact d.elim
 |_=>exact q.elim
def Mj (b:Pr):TI3:=fun Z H R=>b Z H fun x a=>match x with
 |.tup ts=>R ts cL a
 |_=>False
def Cd {K:Frag} (c:SqT K H a xs) (d:lX K H ts xs):jx K (Itt K a) ts cL H:=fun H' g b k st=>by
 have n:=d.length;refine⟨fun i m=>⟨xs,b _ _ c,by omega⟩,fun i t e=>?_⟩;obtain⟨v,f,h⟩:=d.get e;refine⟨⟨xs,v,b _ _ c,f⟩,fun x j y=>?_⟩;obtain⟨l,y⟩:=y;subst l;have:=y xs (b _ _ c);rw[f] at this;cases this;exact⟨.refl,k,h.mono b⟩
def bF (n:Ho X l tl):PI3 X tg l (Mj tl):=by
 refine PI.imp (O5 n) ?_;rintro Z H R ⟨g,H3,R3,i,j,h,k⟩;refine⟨g,H3,_,i,j,h,fun v H' t b m c r q=>?_⟩;cases t with
 |tup ts=>obtain⟨a,xs,e,d,f⟩:=r.tup;exact⟨a,e,⟨xs,d⟩,k _ ts cL H' b m c (Cd d f) q⟩
 |_=>exact q.elim
def dM (a:Int) (n:Nat):List T:=(List.range n).map fun (i:Nat)=>T.int (a+i)
def sG {K:Frag}:jx K (Itr b n) (dM b n) cL H:=fun H' c j g st=>by
 refine⟨fun i a=>by unfold dM at a;simp at a;exact a,fun i t e=>?_⟩;unfold dM at e;rw[B_] at e;by_cases a:i<n
 ·rw[Zg a] at e;cases e;refine⟨a,fun x f y=>?_⟩;obtain⟨h,d⟩:=y;subst h;subst d;exact⟨.refl,g,.ofInt⟩
 rw[N_ (by simpa using a)] at e;cases e
def Ce (b:TA3):TI3:=fun Z H R=>b Z H fun vs a=>match vs with
 |[.int j]=>-(2^62)<=j/\j<2^62/\R (dM 0 j.toNat) cL a
 |[.int i,.int j]=>(-(2^62)<=i/\i<2^62 /\ -(2^62)<=j/\j<2^62)/\R (dM i (j - i).toNat) cL a
 |_=>False
def cA (x:Gl X "range") (o:X.mg "range"=none) (m:PA3 X [a] e) (w:starEach [a] X.env=[(false,eval a X.env)]:=by rfl):PI3 X tg (.Call (.Name "range" p) [a] [] pos) (Ce (fun Z H Q=>e Z H fun vs s=>vs.length=1/\Q vs s)):=by
 refine PI.imp (zE x o m w) ?_;rintro Z H R ⟨g,H3,R3,i,n,h,k⟩;refine⟨g,H3,_,i,n,h,fun vs H' ts b u c r q=>?_⟩;obtain⟨d,q⟩:=q;cases ts with
 |nil=>cases d
 |cons t ts =>
 cases ts with
 |cons _ _=>simp at d
 |nil =>
 cases t with
 |int j=>obtain⟨v,_,rfl,f,l⟩:=r.inv;rw[l.inv0,f.int];exact⟨j,rfl,q.1,q.2.1,k _ _ _ H' b u c sG q.2.2⟩
 |_=>exact q.elim
def o4 (t:Gl X "range") (w:X.mg "range"=none) (B:PA3 X [a,b] g) (x:starEach [a,b] X.env=[(false,eval a X.env),(false,eval b X.env)]:=by rfl) (d:starEach [b] X.env=[(false,eval b X.env)]:=by rfl):
  PI3 X tg (.Call (.Name "range" p) [a,b] [] pos) (Ce (fun Z H Q=>g Z H fun vs o=>vs.length=2/\Q vs o)):=by
 refine PI.imp (zF t w B x d) ?_;rintro Z H R ⟨u,H3,R3,n,A,h,k⟩;refine⟨u,H3,_,n,A,h,fun vs H' ts e s f r q=>?_⟩;obtain⟨l,q⟩:=q
 match ts,l,r with
 |[t1,t2],_,r =>
 obtain⟨v,_,rfl,m,y⟩:=r.inv;obtain⟨C,_,rfl,c,z⟩:=y.inv;cases t1 with
 |int i =>
  cases t2 with
  |int j=>rw[z.inv0,m.int,c.int];exact⟨i,j,rfl,q.1,k _ _ _ H' e s f sG q.2⟩
  |_=>exact q.elim
 |_=>cases t2 <;> exact q.elim
end
def aca (g:TG3) (tb:TS3) (D:acP) (still:lO->Prop):List T->St3->lO->Prop
 |[],Z,H=>still H/\D.nx Z H
 |t::r,Z,H=>still H/\g t Z H fun b a=>tb { D with nx:=aca g tb D still r,ct:=aca g tb D still r,bk:=D.nx} b a
def aca.st (h:aca g tb D still ts Z H):still H:=by
 cases ts with
 |nil=>exact h.1
 |cons t r=>exact h.1
def Ml (b:TI3) (g:TG3) (tb:TS3):TS3:=fun D Z H=>b Z H fun ts still a=>aca g tb D still ts Z a
def aW (hp:PassesOwn (model X.prog X.w) X.A X.env X.xe) (hc:X.calm=true) (Y:PI3 X tg iter U) (hg:PG3 X tg g) (hb:lF X k tb) (hs:∀x,foldedSetIterable iter X.env x=pure x:=by intro _;rfl):PS3 X (.For tg iter k [] pos) (Ml U g tb):=by
 refine PS.imp (O6 hp hc Y hg hb hs) ?_;rintro D Z H ⟨f,H3,z,T,sh,h,S,k2,k3,k4⟩;refine⟨f,H3,_,T,sh,h,fun J ts still r E C Q wk q=>?_⟩;refine⟨fun i m Z H=>∃f H3,tR X.K r H/\ab2 X.K H f Z/\tL X.K H3 H/\m=ts.length - i/\i<=ts.length/\aca g tb z still (ts.drop i) f H3,⟨ts.length,f,E,.refl,T.mono C,Q,rfl,Zx _,by simpa using q⟩,?_⟩;rintro i m Z H ⟨Z4,W,o,t,u,rfl,Y,it⟩;have w:=wk H W o u it.st;by_cases n:i<ts.length
 ·have e:=e_ n;have ed:ts.drop i=ts[i]::ts.drop (i+1):=List.drop_eq_getElem_cons n;rw[ed] at it;obtain⟨st,it⟩:=it;obtain⟨go,yl⟩:=w.2 i _ e;refine .inr ⟨go,fun v H'=>∃f H3,tR X.K r H'/\ab2 X.K H' f v/\tL X.K H3 H'/\aca g tb z still (ts.drop (i+1)) f H3,fun v H' ⟨s5,h5,a,b,c,d⟩=>⟨ts.length - (i+1),by omega,s5,h5,a,b,c,rfl,n,d⟩,fun x H' y=>?_⟩;obtain⟨p,R,rx⟩:=yl x H' y;refine⟨ts[i],Z4,W,_,rx,t.mono p,R,it,fun Z2 L F G O M N q2=>?_⟩;have j:tR X.K r L:=o.trans (p.trans O);have V:∀(B:tR X.K r L),KS3 X.K L (aca g tb z still (ts.drop (i+1))) (fun v H'=>∃f H3,tR X.K r H'/\ab2 X.K H' f v/\tL X.K H3 H'/\aca g tb z still (ts.drop (i+1)) f H3) :=
   fun B v H' I P l s h q=>⟨I,P,B.trans l,s,h,q⟩
  exact⟨F,G,_,M,N,q2,V j,k2.at (C.trans j),S.at (C.trans j),V j⟩
 have e:i=ts.length:=by omega
 subst e;rw[List.drop_length] at it;exact .inl ⟨w.1 _ (m_ _),S _ _ _ _ (C.trans o) t u it.2⟩
def ye (c:TT3) (tb:TS3):TS3:=fun D Z H=>∃W:Nat->St3->lO->Prop,(∃m,W m Z H)/\∀m Z H,W m Z H ->
 c Z H fun b e=>if b=true then tb { D with nx:=fun d H'=>∃a,a<m/\W a d H',ct:=fun d H'=>∃a,a<m/\W a d H',bk:=D.nx} Z e else D.nx Z e
def jy (G:PassesOwn (model X.prog X.w) X.A X.env X.xe) (F:PT3 X c v) (N:lF X e tb):PS3 X (.While c e [] pos) (ye v tb):=by
 refine PS.imp (Bh G F N) ?_;rintro D Z H ⟨f,H3,R,I,O,⟨W,⟨J,C⟩,k⟩,u,z,Q,T⟩;refine⟨fun m j H'=>∃f H3,tR X.K H H'/\ab2 X.K H' f j/\tL X.K H3 H'/\W m f H3,⟨J,f,H3,.refl,I,O,C⟩,?_⟩;rintro m P S ⟨t,y,d,i,p,B⟩;refine⟨t,y,_,i,p,k m t y B,fun b L E a n q=>?_⟩;cases b with
 |true =>
  rw[if_pos rfl] at q ⊢;have x:KS3 X.K L (fun j H'=>∃g,g<m/\W g j H') (fun j H'=>∃g,g<m/\∃f H3,tR X.K H H'/\ab2 X.K H' f j/\tL X.K H3 H'/\W g f H3) :=
   fun j H' o r l s h ⟨g,M,w⟩=>⟨g,M,o,r,d.trans (a.trans l),s,h,w⟩
  exact⟨_,fun j H' h=>h,t,E,_,i.mono a,n,q,x,z.at (d.trans a),u.at (d.trans a),x⟩
 |false =>
 rw[if_neg G_] at q ⊢;exact u _ _ _ _ (d.trans a) (i.mono a) n q
def Jb (X:Cx) (a:List Expr) (t:TT3):Prop:=PIf X a (zT X.K t)
def yf:TT3:=fun _ H Q=>Q true H
def cP:Jb X [] yf:=fun a s Z H Q I ⟨d,H3,c,e,b,h,k⟩=>Iv a s Z H Q I (k _ _ _ .refl b h)
def eV (h:PT3 X c t):Jb X [c] t:=Iw h
def ql (nt:Nat) (cap:List Nat) (Z:St3):St3:=List.replicate nt none++cap.map fun j=>(Z[j]?).getD none
def yg {K:Frag} (s:ab2 K H a Z):ab2 K H (ql nt cap a) (n6 nt cap Z):=by
 refine⟨by simp [ql,n6],fun i t e=>?_⟩;unfold ql at e;unfold n6;by_cases c:i<nt
 ·rw[Zn (by simpa using c),abb] at e;split at e <;> cases e
 rw[Q_ (by simpa using c),B_] at e;rw[Q_ (by simpa using c),B_];simp only[ZJ] at e ⊢;cases q:cap[i - nt]? with
 |none=>rw[q] at e;cases e
 |some j =>
 rw[q] at e;have b:(a[j]?).getD none=some t:=F_ e;have d:a[j]?=some (some t):=by
  cases z:a[j]? with
  |none=>rw[z] at b;cases b
  |some y=>rw[z] at b;exact T_ some b
 obtain⟨v,f,r⟩:=s.at' j t d;exact⟨v,by simp [f],r⟩
def Z7 (g:TG3) (tt:TT3) (te:Pr) (still:lO->Prop) (a:List T->lO->Prop):List T->List T->St3->lO->Prop
 |[],ys,Z,H=>still H/\ys.length<=sizeLine/\a ys H
 |t::r,ys,Z,H=>still H/\g t Z H fun c d=>tt c d fun b H3=>if b=true then te c H3 fun y e=>ys.length<sizeLine/\Z7 g tt te still a r (ys++[y]) c e else Z7 g tt te still a r ys c H3
def Z7.st (h:Z7 g tt te still a ts b Z H):still H:=by
 cases ts with
 |nil=>exact h.1
 |cons t r=>exact h.1
def Cg {K:Frag} (Q:jx K J ts still q) (W:ab2 K q r Z) (sh:tL K o q) (h:Z7 g tt te still a ts [] r o) (Y:∀n us H' H3',tR K q H'->tL K H3' H'->lX K H' n us->a n H3'->A us H'):xY J (IW K g) (zT K tt) (lft K te) A Z q:=by
 refine⟨fun i m us Z H=>∃r H3 n,tR K q H/\ab2 K H r Z/\tL K H3 H/\lX K H n us/\m=ts.length - i/\i<=ts.length/\Z7 g tt te still a (ts.drop i) n r H3,⟨ts.length,r,o,[],.refl,W,sh,.nil,rfl,Zx _,by simpa using h⟩,?_⟩;rintro i m us Z H ⟨Z4,O,n,j,G,B,C,rfl,hi,it⟩;have w:=Q H O j B it.st;by_cases d:i<ts.length
 ·have e:=e_ d;have U:ts.drop i=ts[i]::ts.drop (i+1):=List.drop_eq_getElem_cons d;rw[U] at it;obtain⟨st,it⟩:=it;obtain⟨S,yl⟩:=w.2 i _ e;refine .inr ⟨S,fun x H' y=>?_⟩;obtain⟨s,N,X⟩:=yl x H' y;refine⟨ts[i],Z4,O,_,X,G.mono s,N,it,fun Z2 H2 c E L k I q2=>?_⟩;refine⟨c,E,_,k,I,q2,fun b H3 u l z D=>?_⟩;have f:tR K H H3:=s.trans (L.trans l);cases b with
  |true=>rw[if_pos rfl] at D;refine Yt ?_;refine⟨c,u,_,k.mono l,z,D,fun v H5 t F p M R P=>⟨by rw[<- C.length];exact P.1,ts.length - (i+1),by omega,c,F,n++[t],j.trans (f.trans p),k.mono (l.trans p),M,(C.mono (f.trans p)).append (.cons R .nil),rfl,d,P.2⟩⟩
  |false =>
  rw[if_neg G_] at D;refine Ys ?_;exact⟨ts.length - (i+1),by omega,c,u,n,j.trans f,k.mono l,z,C.mono f,rfl,d,D⟩
 have e:i=ts.length:=by omega
 subst e;rw[List.drop_length] at it;exact .inl ⟨w.1 _ (m_ _),by rw[<- C.length];exact it.2.1,Y _ _ _ _ j B C it.2.2⟩
def Ci (a:TI3) (g:TG3) (tt:TT3) (te:Pr) (nt:Nat) (cap:List Nat):Pr:=fun Z H Q=>a Z H fun ts still b=>Z7 g tt te still (fun c H'=>∀p,H' p=none->Q (.ref p) (fY H' p (.lst c))) ts [] (ql nt cap Z) b
def o5 (a:TI3) (g:TG3) (tt:TT3) (te:Pr) (nt:Nat) (cap:List Nat) (i:Nat):TS3:=fun D Z H=>a Z H fun ts still b=>Z7 g tt te still (fun c H'=>∀p,H' p=none->D.nx (Z.set i (some (.ref p))) (fY H' p (.lst c))) ts [] (ql nt cap Z) b
section
variable {pos pos' spos:Pos}
def bR (o:X.calm=true) (S:acy X N' nt cap scope) (w:PI3 X tg iter wi)
  (j:∀cl pins s H C fp,PG3 (bQ X N' scope cl pins s H C fp) tg g/\Jb (bQ X N' scope cl pins s H C fp) ifs tt/\Ho (bQ X N' scope cl pins s H C fp) elt te)
  (t:∀x,foldedSetIterable iter X.env x=pure x:=by intro _;rfl):Ho X (.ListComp elt [⟨tg,iter,ifs,0⟩] scope pos) (Ci wi g tt te nt cap):=by
 refine PE.imp (IK (g:=IW X.K g) (tt:=zT X.K tt) (te:=lft X.K te) o S w j t) ?_;rintro Z H Q ⟨r,H3,y,e,v,h,k⟩;refine⟨r,H3,_,e,v,h,fun J ts still z i f d l q=>?_⟩;exact Cg l (yg (e.mono f)) d q fun A us H' u b a m n p c=>k _ _ _ _ (f.trans (b.trans (aN c))) (a.newLst c m) .ofRef (n p (a.fresh c))
def jz (u:X.calm=true) (v:X.N.Nodup) (S:acy X N' nt cap scope) (F:PI3 X tg iter wi) (m:∀cl pins s H C fp,PG3 (bQ X N' scope cl pins s H C fp) tg g/\Jb (bQ X N' scope cl pins s H C fp) ifs tt/\Ho (bQ X N' scope cl pins s H C fp) elt te) (d:X.N[i]?=some x:=by rfl) (y:Loc X.env.scope x:=by first | exact Or.inl rfl | exact Or.inr rfl) (k:swapsWith (.ListComp elt [⟨tg,iter,ifs,0⟩] scope pos) (some (.Name x pos')) spos.line X.env=pure true:=by rfl) (z:∀x,foldedSetIterable iter X.env x=pure x:=by intro _;rfl) (A:X.fn x=true\/X.env.scope.names.lookup x=some .local:=by first | exact .inl rfl | exact .inr rfl | assumption):
  PS3 X (.Assign [.Name x pos'] (.ListComp elt [⟨tg,iter,ifs,0⟩] scope pos) spos) (o5 wi g tt te nt cap i):=by
 refine PS.imp (IV (g:=IW X.K g) (tt:=zT X.K tt) (te:=lft X.K te) u v d y S F m k z A) ?_;rintro D Z H ⟨w,H3,G,e,E,h,n,_⟩;refine⟨w,H3,_,e,E,h,fun J ts still I l f j o q=>?_⟩;exact Cg o (yg (e.mono f)) j q fun L us H' B a b r t p c =>
  n _ _ _ _ (f.trans (a.trans (aN c))) ((e.mono (f.trans (a.trans (aN c)))).set .ofRef) (b.newLst c r) (t p (b.fresh c))
end
abbrev Sp3:=List T->lO->My->Prop
def sH (K:Frag) (sp:Sp3):Sp:=fun vs H Q _=>∃ts H3 a,lX K H ts vs/\tL K H3 H/\sp ts H3 a/\KV3 K H a Q
def eH (H H':lO):Prop:=∀a o,H a=some o->H' a=some o
def eH.refl:eH H H:=fun _ _ h=>h
def eH.trans (a:eH H e) (b:eH e d):eH H d:=fun c o h=>b c o (a c o h)
def eH.new (h:H p=none):eH H (fY H p o):=fun a u e=>by rw[aD (bz e h)];exact e
def tL.sub {K:Frag} (s:tL K b H) (h:eH H3 b):tL K H3 H:=fun a o e=>s a o (h a o e)
def n7 (Q:My):My:=fun v H=>∃H',eH H' H/\Q v H'
def n7.of (h:eH H' H) (q:Q v H'):n7 Q v H:=⟨H',h,q⟩
def aQ (N:List Str) (ts:List T):St3:=ts.map some++List.replicate (N.length - ts.length) none
def o6 {K:Frag} (r:lX K H ts vs):ab2 K H (aQ N ts) (L2.start N vs):=by
 refine⟨by simp [aQ,L2.start,r.length],fun i t e=>?_⟩;unfold aQ at e;unfold L2.start;have d:=r.length;by_cases a:i<ts.length
 ·rw[Zn (by simpa using a),B_] at e;rw[Zn (by rw[g_];omega),B_];cases q:ts[i]? with
  |none=>rw[q] at e;cases e
  |some u =>
  rw[q] at e;cases e;obtain⟨v,b,c⟩:=r.get q;exact⟨v,by rw[b];rfl,c⟩
 rw[Q_ (by simpa using a),abb] at e;split at e <;> cases e
section
variable {p pos:Pos}
def kZ (P:Program) (w:World) (K:Frag) (a:Str->Option Value) (base:Heap) (k:Nat) (f:Addr) (b:FuncData) (ps:List Str) (sp:Sp3):Prop:=acv P w K a base CX0 k f b ps (sH K sp)
def qm (sp:Sp3) (t:TA3):Pr:=fun Z H Q=>t Z H fun vs a=>sp vs a Q
def Jc (F:kZ X.prog X.w X.K X.mg X.base k f fd ps sp) (y:t6 k X.A) (s:Gl X x) (n:X.mg x=some (.ref f)) (l:keepIn X.K (.ref f)=true) (u:Binds X.K fd ps [])
  (z:PA3 X (e::es) t) (b:(x==("__debug__":Str))=false:=by decide) (v:starEach (e::es) X.env=(false,eval e X.env)::starEach es X.env:=by rfl) (c:(backTo pos (starEach es X.env)).any (·.1)=false:=by rfl) :
  Ho X (.Call (.Name x p) (e::es) [] pos) (qm sp t):=by
 refine PE.imp (Ib (dvs:=[]) (E:=E0) F y s n l u .nil Bx z b v c) ?_;rintro Z H Q ⟨g,H3,i,j,m,h,k⟩;refine⟨g,H3,_,j,m,h,fun vs H' ts a o d r q=>?_⟩;show sH X.K sp (vs++[]) H' Q E0;rw[W_];exact⟨ts,a,i,r,d,q,k.at o⟩
def fn3 {K:Frag}{st:Stmt} (F:Fun K x a st f fd) (S:gV N ps (aB st)) (g:∀ts H Q,sp ts H Q->ts.length=ps.length) (c:∀(b:Value) (A:Around) (outer:List Env) (s:Shared) (H:Hp) (E:XK) (ts:List T) (H3:lO) (Q:My),t6 k (A.deeper (envOfC a (aB st) s.heap.objs.size f b))->sp ts H3 Q ->
   ∃t,lF (mD CX0 P w K j base N a (aB st) f b A outer s H E).nox (cC st) t/\t { nx:=fun _ H'=>n7 Q .non H',rt:=n7 Q} (aQ N ts) H3):kZ P w K j base (k+1) f fd ps sp:=by
 refine F.ok S (fun vs H Q E ⟨ts,H3,l,r,m,q,k⟩=>by rw[<- r.length];exact g _ _ _ q) fun b A outer s H vs Q E y ⟨ts,H3,l,r,m,q,k⟩=>?_;obtain⟨t,u,n⟩:=c b A outer s H E ts H3 l y q;exact⟨_,u,aQ N ts,H3,_,o6 r,m,n,fun D H' p i e C d ⟨B,h,q⟩=>k _ _ _ _ e (d.sub h) .ofNon q,fun v H' t i e d o ⟨B,h,q⟩=>k _ _ _ _ e (d.sub h) o q,fun _ _ _ _ _ _ _ z=>z,fun _ _ _ _ _ _ _ z=>z⟩
end
noncomputable instance:DecidableEq T:=fun a b=>Classical.propDecidable (a=b)
def pl:Nat->T->Bool
 |_,.non=>true
 |_,.int _=>true
 |_,.str _=>true
 |d+1,.tup ts=>ts.all (pl d)
 |_,_=>false
section
variable {X:Cx}{pins:List (Addr × Obj)}{Z:L2.St}{H:Hp}{s:Shared}
def yh (I:Inv X pins Z H s):∀(d:Nat) (x y:T) (v:V),pl d x=true->pl d y=true->Rep X.K H x v->Rep X.K H y v->x=y:=by
 intro d;induction d with
 |zero =>
  intro x y v i g f c;cases x <;> cases y <;> first
   |rfl
   | (simp only[Rep] at f c;subst f;cases c <;> rfl)
   | (simp [pl] at i;done)
   | (simp [pl] at g;done)
 |succ d w =>
 intro x y v i g f c;cases x with
 |tup ts =>
  cases y with
  |tup us =>
   obtain⟨a,xs,rfl,p,r⟩:=f.tup;obtain⟨b,z,e,k,m⟩:=c.tup;cases e;have:=I.tuple_inj p k;subst this;simp only[pl,ZQ] at i g;congr 1;have key:∀(ts us:List T) (xs:List V),(∀t∈ts,pl d t=true)->(∀t∈us,pl d t=true)->lX X.K H ts xs->lX X.K H us xs->ts=us:=by
    intro ts;induction ts with
    |nil =>
     intro us xs _ _ h h';rw[h.inv0] at h';cases us with
     |nil=>rfl
     |cons u us=>obtain⟨_,_,e,_⟩:=h'.inv;cases e
    |cons t ts j =>
    intro us xs p1 n h h';obtain⟨v,r,rfl,a,b⟩:=h.inv;cases us with
    |nil=>exact absurd h'.inv0 (by simp)
    |cons u us =>
    obtain⟨A,m,e,o,q⟩:=h'.inv;cases e;rw[w t u v (p1 t l_) (n u l_) a o,j us r (fun t l=>p1 t (q_ _ l)) (fun t l=>n t (q_ _ l)) b q]
   exact key ts us xs i g r m
  |_=>first | (simp only[Rep] at f c;obtain⟨a,xs,e,_⟩:=f;subst e;cases c;done) | (simp [pl] at g;done)
 |_=>cases y <;> first
  |rfl
  | (simp only[Rep] at f c;subst f;cases c <;> rfl)
  | (simp [pl] at i;done)
  | (simp [pl] at g;done)
  | (simp only[Rep] at f c;obtain⟨a,xs,e,_⟩:=c;subst e;cases f;done)
def units_in1 (A:Around):A.in1.units=A.units+1:=by rfl
def mL {a:Type} [DecidableEq (Option a)] (ts us:List a):((List.range (min ts.length us.length)).all (fun j=>decide (ts[j]?=us[j]?))&&ts.length==us.length)=true↔ts=us:=by
 rw[Zi,ZQ,aan];constructor
 ·rintro⟨h,b⟩;refine aa5 fun i=>?_;by_cases c:i<ts.length
  ·exact ZR (h i (Zf.mpr (by omega)))
  rw[N_ (by omega),N_ (by omega)]
 rintro rfl;exact⟨fun i _=>by simp,rfl⟩
def Jd {us:List Value} (h:i<us.toArray.size) (e:us[i]?=some v):us.toArray[i]=v:=by
 have:us.toArray[i]?=some v:=by simpa using e
 rw[aa0 h] at this;exact F_ this
def yj (I:Inv X pins Z H s):∀(d:Nat) (A:Around) (x y:T) (m l:V) (u v:Value),pl d x=true->pl d y=true->Rep X.K H x m->Rep X.K H y l->RelV m u->RelV l v->A.units+d<cLine->SeqAt.EqAt A s u v (decide (x=y)):=by
 have mC:∀(A:Around) (x y:T) (m l:V) (u v:Value),pl 0 x=true->pl 0 y=true->Rep X.K H x m->Rep X.K H y l->RelV m u->RelV l v->SeqAt.EqAt A s u v (decide (x=y)):=by
  intro A x y m l u v z q k f g c;cases x with
  |non =>
   cases k.non;cases g;cases y with
   |non=>cases f.non;cases c;simp only[aao];exact SeqAt.EqAt.same _
   |int j=>cases f.int;obtain⟨t',rfl⟩:=c;rw[I_ (by simp)];exact SeqAt.EqAt.none_int _ _
   |str j=>cases f.str;obtain⟨t',rfl⟩:=c;rw[I_ (by simp)];exact SeqAt.EqAt.none_str _ _
   |_=>simp [pl] at q
  |int i =>
   cases k.int;obtain⟨t,rfl⟩:=g;cases y with
   |non=>cases f.non;cases c;rw[I_ (by simp)];exact SeqAt.EqAt.int_none _ _
   |int j=>cases f.int;obtain⟨t',rfl⟩:=c;rw[show decide (T.int i=T.int j)=(i==j) by by_cases h:i=j <;> simp [h]];exact abH _ _ _ _
   |str j=>cases f.str;obtain⟨t',rfl⟩:=c;rw[I_ (by simp)];exact SeqAt.EqAt.int_str _ _ _ _
   |_=>simp [pl] at q
  |str i =>
   cases k.str;obtain⟨t,rfl⟩:=g;cases y with
   |non=>cases f.non;cases c;rw[I_ (by simp)];exact SeqAt.EqAt.str_none _ _
   |int j=>cases f.int;obtain⟨t',rfl⟩:=c;rw[I_ (by simp)];exact SeqAt.EqAt.str_int _ _ _ _
   |str j=>cases f.str;obtain⟨t',rfl⟩:=c;rw[show decide (T.str i=T.str j)=(i==j) by by_cases h:i=j <;> simp [h]];exact SeqAt.EqAt.str_str _ _ _ _
   |_=>simp [pl] at q
  |_=>simp [pl] at z
 intro d;induction d with
 |zero=>intro A x y m l u v z q k f g c _;exact mC A x y m l u v z q k f g c
 |succ d ih =>
 intro A x y m l u v z q k f g c hu;have p:A.units<cLine:=by omega
 cases x with
 |tup ts =>
  obtain⟨a,xs,rfl,M,r⟩:=k.tup;cases g;obtain⟨B,E,F,_⟩:=I.tuple M;cases y with
  |tup us =>
   obtain⟨b,G,rfl,n,C⟩:=f.tup;cases c;obtain⟨its',w,o,_⟩:=I.tuple n;by_cases D:a=b
   ·subst D;have e:T.tup ts=T.tup us:=yh I (d+1) _ _ (.ref a) z q (.ofTup M r) (.ofTup n C);rw[e,L_ rfl];exact SeqAt.EqAt.same _
   have Y:=r.length;have l2:=C.length;have l3:=E.length;have Q:=w.length;have key:=SeqAt.RcAt.tuples (A:=A) (s:=s) (e:=fun j=>decide (ts[j]?=us[j]?)) (show s.heap.IsTuple a B.toArray from F) (show s.heap.IsTuple b its'.toArray from o) p (fun j h1 N=>by
    rw[p_] at h1 N
    have L:j<ts.length:=by omega
    have J:j<us.length:=by omega
    obtain⟨p1,U,q1⟩:=r.get (e_ L)
    obtain⟨p2,W,q2⟩:=C.get (e_ J)
    obtain⟨P,f1,w1⟩:=E.get U
    obtain⟨S,f2,R⟩:=w.get W
    rw[Jd _ f1,Jd _ f2,e_ L,e_ J]
    simp only[pl,ZQ] at z q
    have:=ih A.in1 ts[j] us[j] p1 p2 P S (z _ (Zw L)) (q _ (Zw J)) q1 q2 w1 R (by rw[units_in1];omega)
    rw[show decide (some ts[j]=some us[j])=decide (ts[j]=us[j]) by by_cases h:ts[j]=us[j] <;> simp [h]]
    exact this)
   have O:((List.range (min B.toArray.size its'.toArray.size)).all (fun j=>decide (ts[j]?=us[j]?))&&B.toArray.size==its'.toArray.size)=decide (T.tup ts=T.tup us):=by
    rw[p_,p_,<- l3,<- Y,<- Q,<- l2,Zk,mL,n_];constructor
    ·rintro rfl;rfl
    intro h;injection h
   rw[O] at key;exact .of_refs D key
  |non=>cases f.non;cases c;rw[I_ (by simp)];exact SeqAt.EqAt.tuple_none F p
  |int j=>cases f.int;obtain⟨t',rfl⟩:=c;rw[I_ (by simp)];exact SeqAt.EqAt.tuple_int _ _ F p
  |str j=>cases f.str;obtain⟨t',rfl⟩:=c;rw[I_ (by simp)];exact SeqAt.EqAt.tuple_str _ _ F p
  |_=>simp [pl] at q
 |non =>
  cases y with
  |tup us=>obtain⟨b,G,rfl,n,C⟩:=f.tup;cases c;obtain⟨its',w,o,_⟩:=I.tuple n;cases k.non;cases g;rw[I_ (by simp)];exact SeqAt.EqAt.none_tuple o p
  |non=>exact mC A _ _ m l u v rfl rfl k f g c
  |int j=>exact mC A _ _ m l u v rfl rfl k f g c
  |str j=>exact mC A _ _ m l u v rfl rfl k f g c
  |_=>simp [pl] at q
 |int i =>
  cases y with
  |tup us=>obtain⟨b,G,rfl,n,C⟩:=f.tup;cases c;obtain⟨its',w,o,_⟩:=I.tuple n;cases k.int;obtain⟨t,rfl⟩:=g;rw[I_ (by simp)];exact SeqAt.EqAt.int_tuple _ _ o p
  |non=>exact mC A _ _ m l u v rfl rfl k f g c
  |int j=>exact mC A _ _ m l u v rfl rfl k f g c
  |str j=>exact mC A _ _ m l u v rfl rfl k f g c
  |_=>simp [pl] at q
 |str i =>
  cases y with
  |tup us=>obtain⟨b,G,rfl,n,C⟩:=f.tup;cases c;obtain⟨its',w,o,_⟩:=I.tuple n;cases k.str;obtain⟨t,rfl⟩:=g;rw[I_ (by simp)];exact SeqAt.EqAt.str_tuple _ _ o p
  |non=>exact mC A _ _ m l u v rfl rfl k f g c
  |int j=>exact mC A _ _ m l u v rfl rfl k f g c
  |str j=>exact mC A _ _ m l u v rfl rfl k f g c
  |_=>simp [pl] at q
 |_=>simp [pl] at z
end
def rI3 (C:Int->Int->Prop) (g:Int->Int->T):R3:=fun x y H Q=>match x,y with
 |.int i,.int j=>C i j/\Q (g i j) H
 |_,_=>False
def sI (g:Int->Int->T):R3:=fun x y H Q=>match x,y with
 |.int i,.int j=>Q (g i j) H
 |_,_=>False
section
variable {X:Cx}
def Je (h:OpR X f (rI C g')) (d:∀i j H,Rep X.K H (g i j) (g' i j)):d8 X f (rI3 C g):=by
 refine OpR.imp h ?_;rintro x y H Q ⟨a,l,H3,m,c,e,b,h,k⟩;cases a with
 |int i =>
  cases l with
  |int j=>exact⟨i,j,c.int,e.int,h.1,k _ _ _ _ .refl b (d i j H) h.2⟩
  |_=>exact h.elim
 |_=>exact h.elim
def o7 (h:OpR X f (rI0 g')) (d:∀i j H,Rep X.K H (g i j) (g' i j)):d8 X f (sI g):=by
 refine OpR.imp h ?_;rintro x y H Q ⟨a,l,H3,m,c,e,b,h,k⟩;cases a with
 |int i =>
  cases l with
  |int j=>exact⟨i,j,c.int,e.int,k _ _ _ _ .refl b (d i j H) h⟩
  |_=>exact h.elim
 |_=>exact h.elim
def Cj (_ j:Int):Prop:=0<j/\j.natAbs.log2<9000
def Ck:OpR X (binaryOp .FloorDiv) (rI Cj fun i j=>.int (i / j)):=opI fun i j _ _ _ _ _ a q=>by
 have e:i / j=i.fdiv j:=(Int.fdiv_eq_ediv_of_nonneg i (Int.le_of_lt a.1)).symm;rw[e] at q;exact floordiv_int (Int.ne_of_gt a.1) q (.inl (PyProof.noPylong_of_log2 a.2))
def vP:d8 X (binaryOp .Sub) (sI fun i j=>.int (i - j)):=o7 O9 fun _ _ _=>.ofInt
def bj:d8 X (binaryOp .FloorDiv) (rI3 Cj fun i j=>.int (i / j)):=Je Ck fun _ _ _=>.ofInt
def aX:d8 X (binaryOp .Mod) (rI3 (fun _ j=>0<j) fun i j=>.int (i%j)):=Je Pb fun _ _ _=>.ofInt
def jh:d8 X (binaryOp .Pow) (rI3 Ug fun i j=>.int (i^j.toNat)):=Je Pg fun _ _ _=>.ofInt
def Mm:d8 X (compareOp .LtE) (sI fun i j=>.bl (decide (i<=j))):=o7 Ui fun _ _ _=>.ofBl
def mO:d8 X (compareOp .Gt) (sI fun i j=>.bl (decide (j<i))):=o7 Uj fun _ _ _=>.ofBl
def U5:d8 X (compareOp .GtE) (sI fun i j=>.bl (decide (j<=i))):=o7 Uk fun _ _ _=>.ofBl
def dh:d8 X (binaryOp .Mult) (rI3 ad0 fun i j=>.int (i*j)):=Je Pa fun _ _ _=>.ofInt
def sJ:R3:=fun x y H Q=>match x,y with
 |.int i,.int j=>Q (.int (i+j)) H
 |.str i,.str j=>i.length+j.length<=sizeLine/\Q (.str (i++j)) H
 |.ref a,.ref b=>match H a,H b with
  |some (.lst xs),some (.lst ys)=>xs.length+ys.length<=sizeLine/\∀p,H p=none->Q (.ref p) (fY H p (.lst (xs++ys)))
  |_,_=>False
 |.tup xs,.tup ys=>xs.length+ys.length<=sizeLine/\Q (.tup (xs++ys)) H
 |_,_=>False
def Cm:OpR X (binaryOp .Add) (fun x y H Q=>∃a b o,x=.ref a/\y=.ref b/\SqT X.K H a []/\SqT X.K H b o/\Q (.ref b) H):=by
 intro t s Z H x y v u Q I C L h;obtain⟨a,b,o,rfl,rfl,M,E,q⟩:=h;cases C;cases L;obtain⟨z,D,p1,_⟩:=I.tuple M;obtain⟨f,N,G,_⟩:=I.tuple E;cases D;obtain⟨⟨A,w,m,B⟩,k,l,n,r⟩:=id p1;obtain⟨⟨p,g,i,j⟩,e,c,J,d⟩:=id G;simp only at l r c d;subst l r c d;exact concat_meets ⟨_,k,rfl⟩ ⟨_,e,rfl⟩ noFill_tuple_add seq_tuple_add PySem.F.slot_tuple_add PySem.F.entry_tuple_add (abA _ _)
   (tuple_addW0 a b _ f.toArray n J w g B j (by simp)) ⟨k,e,⟨.ref b,H,I,rfl,q⟩⟩
def bf:d8 X (binaryOp .Add) sJ:=by
 refine OpR.imp (afI.or (adK.or (afl.or (aeL.or Cm)))) ?_;rintro x y H Q ⟨v,m,H3,w,n,o,c,h,k⟩;cases v with
 |int i =>
  cases m with
  |int j=>exact .inl ⟨i,j,n.int,o.int,k _ _ _ _ .refl c .ofInt h⟩
  |_=>exact h.elim
 |str i =>
  cases m with
  |str j=>exact .inr (.inl ⟨i,j,n.str,o.str,h.1,k _ _ _ _ .refl c .ofStr h.2⟩)
  |_=>exact h.elim
 |ref a =>
  cases m with
  |ref b =>
   have h':(match H3 a,H3 b with
    |some (.lst xs),some (.lst l)=>xs.length+l.length<=sizeLine/\∀p,H3 p=none->w (.ref p) (fY H3 p (.lst (xs++l)))
    |_,_=>False):=h
   split at h'
   ·
    rename_i xs l z B
    obtain⟨vs,D,f⟩:=c a _ z
    obtain⟨ws,C,g⟩:=c b _ B
    refine .inr (.inr (.inl ⟨a,b,vs,ws,n.ref,o.ref,D,C,by rw[<- f.length,<- g.length];exact h'.1,fun p d=>?_⟩))
    exact k _ _ _ _ (aN d) (c.newLst d (f.append g)) .ofRef (h'.2 p (c.fresh d))
   ·
    exact h'.elim
  |_=>exact h.elim
 |tup xs =>
  cases m with
  |tup l =>
   obtain⟨a,vs,rfl,r,f⟩:=n.tup;obtain⟨b,ws,rfl,s,g⟩:=o.tup;by_cases u:vs=[]
   ·subst u;have A:xs=[]:=aap f.length;subst A;exact .inr (.inr (.inr (.inr ⟨a,b,ws,rfl,rfl,r,s,k _ _ _ _ .refl c (.ofTup s g) h.2⟩)))
   refine .inr (.inr (.inr (.inl ⟨a,b,vs,ws,rfl,rfl,r,s,u,by rw[<- f.length,<- g.length];exact h.1,fun t=>?_,fun t p d=>?_⟩)))
   ·have e:l=[]:=by have:=g.length;rw[t] at this;exact aap this
    have q:=h.2;rw[e,W_] at q;exact k _ _ _ _ .refl c (.ofTup r f) q
   exact k _ _ _ _ (aN d) (c.new d) (tL.newTup (H3:=H3) d (f.append g)) h.2
  |_=>exact h.elim
 |_=>exact h.elim
variable {pins:List (Addr × Obj)}{Z:L2.St}{H:Hp}{s:Shared}
def sO (c:Bool):R3:=fun x y H Q=>match x,y with
 |.int i,.int j=>Q (.bl (if c then !decide (i=j) else decide (i=j))) H
 |.str i,.str j=>Q (.bl (if c then !decide (i=j) else decide (i=j))) H
 |.bl i,.bl j=>Q (.bl (if c then !decide (i=j) else decide (i=j))) H
 |.non,.non=>Q (.bl (if c then false else true)) H
 |.tup xs,.tup ys=>xs.all (pl 20)=true/\ys.all (pl 20)=true/\Q (.bl (if c then !decide (xs=ys) else decide (xs=ys))) H
 |.ref a,.ref b=>match H a,H b with
  |some (.lst xs),some (.lst ys)=>a≠b/\xs.all (pl 20)=true/\ys.all (pl 20)=true/\Q (.bl (if c then !decide (xs=ys) else decide (xs=ys))) H
  |_,_=>False
 |_,_=>False
def sS (I:Inv X pins Z H s) {A:Around} (F:A.units+30<cLine) (i:ts.all (pl 20)=true) (g:us.all (pl 20)=true) (r:lX X.K H ts xs) (k:lX X.K H us m) (c:Vals xs a) (b:Vals m its'):
  ∀j (l:j<a.toArray.size) (f:j<its'.toArray.size),SeqAt.EqAt A.in1 s a.toArray[j] its'.toArray[j] (decide (ts[j]?=us[j]?)):=fun j l f=>by
 have C:=r.length;have D:=k.length;have E:=c.length;have B:=b.length;rw[p_] at l f;have e:j<ts.length:=by omega
 have d:j<us.length:=by omega
 obtain⟨p1,q,z⟩:=r.get (e_ e);obtain⟨u,t,x⟩:=k.get (e_ d);obtain⟨n,y,w⟩:=c.get q;obtain⟨p,v,o⟩:=b.get t;rw[Jd _ y,Jd _ v,e_ e,e_ d];rw[ZQ] at i g;have:=yj I 20 A.in1 ts[j] us[j] p1 u n p (i _ (Zw e)) (g _ (Zw d)) z x w o (by rw[units_in1];omega);rw[show decide (some ts[j]=some us[j])=decide (ts[j]=us[j]) by by_cases h:ts[j]=us[j] <;> simp [h]];exact this
def sU {ts us:List T}:((List.range (min ts.length us.length)).all (fun j=>decide (ts[j]?=us[j]?))&&ts.length==us.length)=decide (ts=us):=by
 rw[Zk,mL,n_]
def zV {c:Type} [BEq c] [LawfulBEq c] [DecidableEq c] (a b:c):(a==b)=decide (a=b):=by rw[Zk];simp
def Mp (f:Bool) (M:X.A.units+30<cLine):d8 X (compareOp (bif f then .NotEq else .Eq)) (sO f):=by
 intro G s Z H x y v u Q I o n h;obtain⟨N,w,H3,L,B,C,K,h,k⟩:=h;have d:∀{b c:Bool},L (.bl b) H3->c=b->EP X G Z Q (.bool c) s:=fun q e=>e▸⟨.bl _,H,I,rfl,k _ _ _ _ .refl K .ofBl q⟩;cases N with
 |int i =>
  cases w with
  |int j =>
   rw[B.int] at o;rw[C.int] at n;obtain⟨t,rfl⟩:=o;obtain⟨t',rfl⟩:=n;cases f
   ·exact eq_int (d h (zV ..))
   exact ne_int (d h (T_ not (zV ..)))
  |_=>exact h.elim
 |str i =>
  cases w with
  |str j =>
   rw[B.str] at o;rw[C.str] at n;obtain⟨t,rfl⟩:=o;obtain⟨t',rfl⟩:=n;cases f
   ·exact eq_str (d h (zV ..))
   exact ne_str (d h (T_ not (zV ..)))
  |_=>exact h.elim
 |bl i =>
  cases w with
  |bl j =>
   rw[B.bl] at o;rw[C.bl] at n;cases o;cases n;cases f
   ·exact eq_bool (d h (zV ..))
   exact ne_bool (d h (T_ not (zV ..)))
  |_=>exact h.elim
 |non =>
  cases w with
  |non =>
   rw[B.non] at o;rw[C.non] at n;cases o;cases n;cases f
   ·exact PySem.EqNone.eq_none_none (d h rfl)
   exact PySem.EqNone.ne_none_none (d h rfl)
  |_=>exact h.elim
 |tup ts =>
  cases w with
  |tup us =>
   obtain⟨a,xs,rfl,T,r⟩:=B.tup;obtain⟨b,E,rfl,J,F⟩:=C.tup;cases o;cases n;obtain⟨D,m,p,_⟩:=I.tuple T;obtain⟨its',l,g,_⟩:=I.tuple J;have e:=sU (ts:=ts) (us:=us);rw[r.length,F.length,m.length,l.length] at e;have key:=sS I M h.1 h.2.1 r F m l;cases f
   ·exact SeqAt.eq_tupleAt (e:=fun j=>decide (ts[j]?=us[j]?)) p g (by omega) key (d h.2.2 e)
   exact SeqAt.RcNeAt.tuples (e:=fun j=>decide (ts[j]?=us[j]?)) p g (by omega) key _ _ _ _ (d h.2.2 (T_ not e))
  |_=>exact h.elim
 |ref a =>
  cases w with
  |ref b =>
   have h':(match H3 a,H3 b with
    |some (.lst xs),some (.lst E)=>a≠b/\xs.all (pl 20)=true/\E.all (pl 20)=true/\L (.bl (if f then !decide (xs=E) else decide (xs=E))) H3
    |_,_=>False):=h
   split at h'
   ·
    rename_i ts us R S
    obtain⟨xs,V,r⟩:=K a _ R
    obtain⟨E,U,F⟩:=K b _ S
    cases B.ref;cases C.ref;cases o;cases n
    obtain⟨D,m,p,_⟩:=I.list (X:=X) (.of V)
    obtain⟨its',l,g,_⟩:=I.list (X:=X) (.of U)
    have O:D.length=ts.length:=by rw[<- m.length,<- r.length]
    have P:its'.length=us.length:=by rw[<- l.length,<- F.length]
    have key:=sS I M h'.2.1 h'.2.2.1 r F m l
    by_cases hsz:ts.length=us.length
    ·
     have e:=sU (ts:=ts) (us:=us)
     rw[<- hsz,Nat.min_self,beq_self_eq_true,Bool.and_true,<- O] at e
     cases f
     ·
      exact SeqAt.eq_listAt (e:=fun j=>decide (ts[j]?=us[j]?)) p.isList g.isList (by simp;omega) (by omega) key (d h'.2.2.2 e)
     ·
      exact SeqAt.RcNeAt.lists (e:=fun j=>decide (ts[j]?=us[j]?)) p.isList g.isList (by simp;omega) (by omega) key _ _ _ _ (d h'.2.2.2 (T_ not e))
    ·
     have e:decide (ts=us)=false:=I_ fun z=>hsz (by rw[z])
     cases f
     ·
      exact SeqAt.eq_list_lengthsAt p.isList g.isList (by simp;omega) (by omega) (d h'.2.2.2 e.symm)
     ·
      exact SeqAt.RcNeAt.lists_lengths p.isList g.isList (by simp;omega) (by omega) _ _ _ _ (d h'.2.2.2 (by show true=!decide (ts=us);rw[e];rfl))
   ·
    exact h'.elim
  |_=>exact h.elim
 |_=>exact h.elim
def cF (a:X.A.units+30<cLine):d8 X (compareOp .Eq) (sO false):=Mp false a
def fP (a:X.A.units+30<cLine):d8 X (compareOp .NotEq) (sO true):=Mp true a
def di (a:Bool) (x:T) (ts:List T):Bool:=if a then !decide (x∈ts) else decide (x∈ts)
def occ (a:Bool) (i j:Str):Bool:=if a then !(!(Builtin.Str.occurrences j i 0 j.length 1).isEmpty) else !(Builtin.Str.occurrences j i 0 j.length 1).isEmpty
def sV (b:Bool):R3:=fun x y H Q=>match y with
 |.tup ts=>pl 20 x=true/\ts.all (pl 20)=true/\Q (.bl (di b x ts)) H
 |.ref a=>match H a with
  |some (.lst ts)=>pl 20 x=true/\ts.all (pl 20)=true/\Q (.bl (di b x ts)) H
  |some (.rol ts)=>pl 20 x=true/\ts.all (pl 20)=true/\Q (.bl (di b x ts)) H
  |_=>False
 |.str j=>match x with
  |.str i=>Q (.bl (occ b i j)) H
  |_=>False
 |_=>False
def Cp (I:Inv X pins Z H s) (w:pl 20 x=true) (f:ts.all (pl 20)=true) (r:lX X.K H ts xs) (m:Vals xs a) (A:Around) (O:A.units+30<cLine) (E:Rep X.K H x n) (B:RelV n u):
  ∃e:Value->Bool,(∀y,y∈a->SeqAt.EqAt A s y u (e y))/\a.any e=decide (x∈ts):=by
 rw[ZQ] at f;have h:∀y,y∈a->∃t v,t∈ts/\Rep X.K H t v/\RelV v y:=fun y k=>by
  obtain⟨i,o,e⟩:=List.mem_iff_getElem.mp k;have N:=m.length;have F:a[i]?=some y:=by rw[e_ o,e]
  have j:xs[i]?=some xs[i]:=e_ (by omega);obtain⟨z,p,C⟩:=m.get j;rw[F] at p;cases p;obtain⟨t,G,b⟩:=r.get' j;exact⟨t,_,Y_ G,b,C⟩
 have d:∀t v y,t∈ts->Rep X.K H t v->RelV v y->(@decide (∃v,RelV v y/\Rep X.K H x v) (Classical.propDecidable _)=true↔t=x):=fun t v y g b c=>by
  rw[@n_ _ (Classical.propDecidable _)];constructor
  ·rintro⟨P,J,M⟩;cases J.inj c;exact yh I 20 t x _ (f t g) w b M
  rintro rfl;exact⟨v,c,b⟩
 refine⟨fun y=>@decide (∃v,RelV v y/\Rep X.K H x v) (Classical.propDecidable _),fun y k=>?_,?_⟩
 ·obtain⟨t,v,g,b,c⟩:=h y k;have q:=yj I 20 A t x v n y u (f t g) w b E c B (by omega);have e:@decide (∃v,RelV v y/\Rep X.K H x v) (Classical.propDecidable _)=decide (t=x):=by rw[Zk,d t v y g b c,n_]
  show SeqAt.EqAt A s y u (@decide (∃v,RelV v y/\Rep X.K H x v) (Classical.propDecidable _));rw[e];exact q
 rw[Zk,aal,n_];constructor
 ·rintro⟨y,k,e⟩;obtain⟨t,v,g,b,c⟩:=h y k;rw[<- (d t v y g b c).mp e];exact g
 intro j;obtain⟨i,o,e⟩:=List.mem_iff_getElem.mp j;obtain⟨v,D,l⟩:=r.get (show ts[i]?=some x by rw[e_ o,e]);obtain⟨y,L,c⟩:=m.get D;exact⟨y,Y_ L,(d x v y j l c).mpr rfl⟩
def Mq (d:Bool) (P:X.A.units+31<cLine):d8 X (compareOp (bif d then .NotIn else .In)) (sV d):=by
 intro f s Z H x y v u Q I G z h;obtain⟨m,N,H3,J,L,M,E,h,k⟩:=h;have C:X.A.in1.units+30<cLine:=by rw[units_in1];omega
 have l:∀{b c:Bool},J (.bl b) H3->c=b->EP X f Z Q (.bool c) s:=fun q e=>e▸⟨.bl _,H,I,rfl,k _ _ _ _ .refl E .ofBl q⟩;have F:∀{a:Addr} {ts:List T} {xs:List V},SqL X.K H a xs->lX X.K H ts xs->u=.ref a->pl 20 m=true->ts.all (pl 20)=true->J (.bl (di d m ts)) H3->wpAny (model X.prog X.w) X.A (compareOp (bif d then .NotIn else .In) v u) (EP X f Z Q) X.xe s:=by
  intro a ts xs n r e p1 O q;subst e;obtain⟨g,o,D,_⟩:=I.list n;obtain⟨e,B,p⟩:=Cp I p1 O r o X.A.in1 C L G;rw[<- show g.toArray.any e=g.any e by simp] at p;cases d
  ·exact SeqAt.in_listAt e D.isList (fun y t=>B y (by simpa using t)) (l q p)
  exact SeqAt.notIn_listAt e D.isList (fun y t=>B y (by simpa using t)) (l q (T_ not p))
 cases N with
 |tup ts =>
  obtain⟨a,xs,rfl,n,r⟩:=M.tup;cases z;obtain⟨g,o,D,_⟩:=I.tuple n;obtain⟨e,B,p⟩:=Cp I h.1 h.2.1 r o X.A.in1 C L G;rw[<- show g.toArray.any e=g.any e by simp] at p;cases d
  ·exact SeqAt.in_tupleAt e D (fun y t=>B y (by simpa using t)) (l h.2.2 p)
  exact SeqAt.notIn_tupleAt e D (fun y t=>B y (by simpa using t)) (l h.2.2 (T_ not p))
 |ref a =>
  have h':(match H3 a with
   |some (.lst ts)=>pl 20 m=true/\ts.all (pl 20)=true/\J (.bl (di d m ts)) H3
   |some (.rol ts)=>pl 20 m=true/\ts.all (pl 20)=true/\J (.bl (di d m ts)) H3
   |_=>False):=h
  rw[M.ref] at z
  split at h'
  ·
   rename_i ts e
   obtain⟨xs,n,r⟩:=E.sqL (.inl e)
   exact F n r z h'.1 h'.2.1 h'.2.2
  ·
   rename_i ts e
   obtain⟨xs,n,r⟩:=E.sqL (.inr e)
   exact F n r z h'.1 h'.2.1 h'.2.2
  ·
   exact h'.elim
 |str j =>
  cases m with
  |str i =>
   cases d
   ·exact zH f s Z H x y v u Q I G z ⟨i,j,L.str,M.str,k _ _ _ _ .refl E .ofBl h⟩
   exact p7 f s Z H x y v u Q I G z ⟨i,j,L.str,M.str,k _ _ _ _ .refl E .ofBl h⟩
  |_=>exact h.elim
 |_=>exact h.elim
def jA (a:X.A.units+31<cLine):d8 X (compareOp .In) (sV false):=Mq false a
def jB (a:X.A.units+31<cLine):d8 X (compareOp .NotIn) (sV true):=Mq true a
def oq {a:Type}(o:Option a) (Q:a->Prop):Prop:=match o with
 |some v=>Q v
 |none=>False
def sW:R3:=fun x y H Q=>match x,y with
 |.ref a,.int i=>match H a with
  |some (.lst ts)=>oq (atI ts i) fun t=>Q t H
  |some (.rol ts)=>oq (atI ts i) fun t=>Q t H
  |_=>False
 |.tup ts,.int i=>oq (atI ts i) fun t=>Q t H
 |.str z,.int i=>z.length<=sizeLine/\oq (atI z.cps.toList i) fun c=>Q (.str ⟨#[c]⟩) H
 |_,_=>False
def ym {K:Frag} (r:lX K H ts xs) (h:atI ts i=some t):∃v,atI xs i=some v/\Rep K H t v:=by
 unfold atI at h ⊢;rw[<- r.length];cases e:ixN ts.length i with
 |none=>rw[e] at h;cases h
 |some j =>
 rw[e] at h;exact r.get h
def GX:U0 X sW:=by
 refine IxR.imp PB ?_;rintro x y H Q ⟨u,o,H3,d,j,l,f,h,k⟩;have g:∀{a:Addr} {ts:List T} {xs:List V} {i:Int},SqL X.K H a xs->lX X.K H ts xs->x=.ref a->y=.int i->oq (atI ts i) (fun t=>d t H3)->rIx X.K x y H Q:=by
  intro a ts xs i b r p s q;cases e:atI ts i with
  |none=>rw[e] at q;exact q.elim
  |some t =>
  rw[e] at q;obtain⟨v,n,m⟩:=ym r e;exact .inl ⟨a,xs,i,v,p,s,b,n,k _ _ _ _ .refl f m q⟩
 cases u with
 |ref a =>
  cases o with
  |int i =>
   have h':(match H3 a with
    |some (.lst ts)=>oq (atI ts i) fun t=>d t H3
    |some (.rol ts)=>oq (atI ts i) fun t=>d t H3
    |_=>False):=h
   split at h'
   ·
    rename_i ts e
    obtain⟨xs,b,r⟩:=f.sqL (.inl e)
    exact g b r j.ref l.int h'
   ·
    rename_i ts e
    obtain⟨xs,b,r⟩:=f.sqL (.inr e)
    exact g b r j.ref l.int h'
   ·
    exact h'.elim
  |_=>exact h.elim
 |tup ts =>
  cases o with
  |int i =>
   have h':oq (atI ts i) fun t=>d t H3:=h
   cases e:atI ts i with
   |none=>rw[e] at h';exact h'.elim
   |some t =>
    rw[e] at h'
    obtain⟨a,xs,p,b,r⟩:=j.tup
    obtain⟨v,n,m⟩:=ym r e
    exact .inr (.inl ⟨a,xs,i,v,p,l.int,b,n,k _ _ _ _ .refl f m h'⟩)
  |_=>exact h.elim
 |str z =>
  cases o with
  |int i =>
   have h':z.length<=sizeLine/\oq (atI z.cps.toList i) fun c=>d (.str ⟨#[c]⟩) H3:=h
   cases e:atI z.cps.toList i with
   |none=>rw[e] at h';exact h'.2.elim
   |some c =>
    rw[e] at h'
    exact .inr (.inr ⟨z,i,c,j.str,l.int,h'.1,e,k _ _ _ _ .refl f .ofStr h'.2⟩)
  |_=>exact h.elim
 |_=>exact h.elim
def Cq:sE:=fun o i v H Q=>match o,i with
 |.ref a,.int k=>match H a with
  |some (.lst ts)=>oq (ixN ts.length k) fun j=>Q (fY H a (.lst (ts.set j v)))
  |_=>False
 |_,_=>False
def tL.wrL {K:Frag} (s:tL K H3 H) (g:H a=some (.lst xs)) (r:lX K H ts c):tL K (fY H3 a (.lst ts)) (upd H a (.lst c)):=fun b o e=>by
 have f:tR K H (upd H a (.lst c)):=bM (by rw[g];exact trivial);by_cases d:b=a
 ·subst d;rw[aq] at e;cases e;exact⟨c,aY,r.mono f⟩
 rw[aD d] at e;exact (s b o e).stay f fun u q=>by rw[aK d];exact q
def o8:Mh X Cq:=by
 refine adF.imp set_list ?_;rintro o i v H Q ⟨p,m,q,H3,g,l,s,f,d,h,k⟩;cases p with
 |ref a =>
  cases m with
  |int n =>
   have h':(match H3 a with
    |some (.lst ts)=>oq (ixN ts.length n) fun j=>g (fY H3 a (.lst (ts.set j q)))
    |_=>False):=h
   split at h'
   ·
    rename_i ts e
    obtain⟨xs,b,r⟩:=d a _ e
    cases c:ixN ts.length n with
    |none=>rw[c] at h';exact h'.elim
    |some j =>
     rw[c] at h'
     exact⟨a,xs,n,j,l.ref,s.int,b,by rw[<- r.length];exact c,k _ _ (bM (by rw[b];exact trivial)) (d.wrL b (r.set j f)) h'⟩
   ·
    exact h'.elim
  |_=>exact h.elim
 |_=>exact h.elim
abbrev TO3:=St3->lO->(Option Int->lO->Prop)->Prop
def YB (K:Frag) (d:TO3):TO:=fun Z H Q=>∃c H3 b,ab2 K H c Z/\tL K H3 H/\d c H3 b/\∀o H' a,tR K H H'->tL K a H'->b o a->Q o H'
def PO3 (X:Cx) (e:Option Expr) (t:TO3):Prop:=PO X e (YB X.K t)
def PO.imp (h:PO X e t) (w:∀Z H Q,t' Z H Q->t Z H Q):PO X e t':=fun a s Z H Q I q=>h a s Z H Q I (w Z H Q q)
def sX:TO3:=fun _ H Q=>Q none H
def Cr (t:Pr):TO3:=fun Z H Q=>t Z H fun x a=>match x with
 |.int i=>Q (some i) a
 |_=>False
def fK:PO3 X none sX:=by
 refine PO.imp Ii ?_;rintro Z H Q ⟨c,H3,b,d,a,h,k⟩;exact k _ _ _ .refl a h
def dZ (h:Ho X e te):PO3 X (some e) (Cr te):=by
 refine PO.imp (Ij h) ?_;rintro Z H Q ⟨c,H3,j,d,f,h,k⟩;refine⟨c,H3,_,d,f,h,fun v H' t b g a r q=>?_⟩;cases t with
 |int i=>exact⟨i,r.int,k _ _ _ g a q⟩
 |_=>exact q.elim
def Qc:SlR X (fun x n m H Q=>∃z,x=.str z/\z.length<=sizeLine/\Q (.str (Txt.slice z n m)) H):=by
 intro b s Z H x v C A n m B Q I y w pl r h;obtain⟨z,rfl,f,q⟩:=h;obtain⟨t,rfl⟩:=y;refine⟨"str",_,F.slot_str_getitem.lookup,typeIs_str _ _ _,?_⟩;obtain⟨o,e,c,d⟩:=w;have a:∀(t':Tok) (k:Nat),EP X b Z Q (.str (Txt.slice z n m) t') { s with toks:=k}:=fun t' k=>⟨.str _,H,I.tok k,⟨t',rfl⟩,q⟩;cases pl with
 |none =>
  cases r with
  |none=>exact abe (l:=none) (u:=none) (st:=none) ⟨o,e,c,d⟩ rfl (post_val_or_str ⟨R_ (Txt.slice_le z _ _) f,a⟩)
  |int j g=>exact abe (l:=none) (u:=some (j,g)) (st:=none) ⟨o,e,c,d⟩ rfl (post_val_or_str ⟨R_ (Txt.slice_le z _ _) f,a⟩)
 |int i p =>
 cases r with
 |none=>exact abe (l:=some (i,p)) (u:=none) (st:=none) ⟨o,e,c,d⟩ rfl (post_val_or_str ⟨R_ (Txt.slice_le z _ _) f,a⟩)
 |int j g=>exact abe (l:=some (i,p)) (u:=some (j,g)) (st:=none) ⟨o,e,c,d⟩ rfl (post_val_or_str ⟨R_ (Txt.slice_le z _ _) f,a⟩)
def fZ (ts:List T) (a b:Option Int):List T:=(ts.drop (HT.sIx ts.length 0 a)).take (HT.sIx ts.length ts.length b - HT.sIx ts.length 0 a)
def Jf:T->Option Int->Option Int->lO->My->Prop:=fun x c b H Q=>match x with
 |.ref a=>match H a with
  |some (.lst ts)=>∀p,H p=none->Q (.ref p) (fY H p (.lst (fZ ts c b)))
  |some (.rol ts)=>∀p,H p=none->Q (.ref p) (fY H p (.lst (fZ ts c b)))
  |_=>False
 |.tup ts=>¬(HT.sIx ts.length 0 c=0/\HT.sIx ts.length ts.length b=ts.length)/\Q (.tup (fZ ts c b)) H
 |.str z=>z.length<=sizeLine/\Q (.str (Txt.slice z c b)) H
 |_=>False
def U6 (te:Pr) (d c:TO3):Pr:=fun Z H Q=>te Z H fun x b=>d Z b fun l a=>c Z a fun u H3=>Jf x l u H3 Q
def lL {K:Frag} (r:lX K H ts xs) (b a:Option Int):lX K H (fZ ts b a) (rN xs b a):=by
 unfold fZ rN;rw[<- r.length];exact (r.drop _).take _
def jC (K:Ho X e te) (I:PO3 X D E) (O:PO3 X F C):Ho X (.Subscript e (.Slice D F none L) w) (U6 te E C):=by
 refine PE.imp (rM (aeK.or (aec.or Qc)) K I O) ?_;rintro Z H Q ⟨v,H3,B,t,N,h,k⟩;refine⟨v,H3,_,t,N,h,fun x R G q g A J P=>⟨v,q,_,t.mono g,A,P,fun l S s i y M=>⟨v,s,_,t.mono (g.trans i),y,M,fun u T c m b j=>?_⟩⟩⟩;have o:=k.at (g.trans (i.trans m));have f:=J.mono (i.trans m);cases G with
 |ref a =>
  have h':(match c a with
   |some (.lst ts)=>∀p,c p=none->B (.ref p) (fY c p (.lst (fZ ts l u)))
   |some (.rol ts)=>∀p,c p=none->B (.ref p) (fY c p (.lst (fZ ts l u)))
   |_=>False):=j
  split at h'
  ·
   rename_i ts e
   obtain⟨xs,n,r⟩:=b.sqL (.inl e)
   exact .inl ⟨a,xs,f.ref,n,fun p d=>o _ _ _ _ (aN d) (b.newLst d (lL r l u)) .ofRef (h' p (b.fresh d))⟩
  ·
   rename_i ts e
   obtain⟨xs,n,r⟩:=b.sqL (.inr e)
   exact .inl ⟨a,xs,f.ref,n,fun p d=>o _ _ _ _ (aN d) (b.newLst d (lL r l u)) .ofRef (h' p (b.fresh d))⟩
  ·
   exact h'.elim
 |tup ts=>obtain⟨a,xs,rfl,n,r⟩:=f.tup;refine .inr (.inl ⟨a,xs,rfl,n,by rw[<- r.length];exact j.1,fun p d=>o _ _ _ _ (aN d) (b.new d) (tL.newTup (H3:=c) d (lL r l u)) j.2⟩)
 |str z=>exact .inr (.inr ⟨z,f.str,j.1,o _ _ _ _ .refl b .ofStr j.2⟩)
 |_=>exact j.elim
def aP (k:Str):List (Str × T)->Option T
 |[]=>none
 | (k',v)::r=>if k'=k then some v else aP k r
def put3 (k:Str) (v:T) (kvs:List (Str × T)):List (Str × T) :=
 if (kvs.any fun a=>decide (a.1=k))=true then kvs.map (fun a=>if a.1=k then (a.1,v) else a) else kvs++[(k,v)]
def r3D:R3:=fun x y H Q=>match x,y with
 |.ref a,.str k=>match H a with
  |some (.dct kvs)=>oq (aP k kvs) fun t=>Q t H
  |_=>False
 |_,_=>False
def sY {K:Frag}:∀{kvs:List (Str × T)}{vs:List (Key × V)}{t:T},acK K H kvs vs->aP k kvs=some t->∃v,fC vs (Sum.inr k:Key)=some v/\Rep K H t v
 |[],_,_,_,e=>by cases e
 | (k',t')::r,_,t,.cons (b:=(kk,v')) ⟨e1,rv⟩ rr,e=>by
  simp only at e1 rv
  subst e1
  unfold aP at e
  by_cases a:k'=k
  ·
   rw[if_pos a] at e
   cases e
   exact⟨v',by rw[fG (by rw[a])],rv⟩
  ·
   rw[if_neg a] at e
   obtain⟨v,c,q⟩:=sY rr e
   exact⟨v,by rw[fH (by intro z;exact a (Sum.inr.inj z))];exact c,q⟩
def bT (K:X.A.units+1<cLine) (z:Ho X o q) (M:Ho X i p) (I:Io i:=by exact fun _ _=>rfl):Ho X (.Subscript o i j) (su r3D q p):=by
 refine PE.imp (xV K z M I) ?_;rintro Z H Q ⟨u,H3,E,s,J,h,k⟩;refine⟨u,H3,_,s,J,h,fun x O B f c n G N=>⟨u,f,_,s.mono c,n,N,fun y P C b l d L m=>?_⟩⟩;cases B with
 |ref a =>
  cases C with
  |str key =>
   have h':(match b a with
    |some (.dct kvs)=>oq (aP key kvs) fun t=>E t b
    |_=>False):=m
   split at h'
   ·
    rename_i kvs e
    obtain⟨vs,w,r⟩:=d a _ e
    cases g:aP key kvs with
    |none=>rw[g] at h';exact h'.elim
    |some t =>
     rw[g] at h'
     obtain⟨v,F,D⟩:=sY r g
     refine⟨a,v,G.ref,?_,k.at (c.trans l) _ _ _ _ .refl d D h'⟩
     rw[L.str,<- F]
     exact acB.k (k:=Sum.inr key) w
   ·
    exact h'.elim
  |_=>exact m.elim
 |_=>exact m.elim
def Cu (b e f:Pr):TS3:=fun D Z H=>f Z H fun v d=>b Z d fun x c=>e Z c fun y H3=>match x,y with
 |.ref a,.str k=>match H3 a with
  |some (.dct kvs)=>kvs.length<sizeLine/\D.nx Z (fY H3 a (.dct (put3 k v kvs)))
  |_=>False
 |_,_=>False
def Jg {K:Frag} (m:Rep K H t v) (r:acK K H kvs vs):acK K H (put3 k t kvs) (putK vs (Sum.inr k:Key) v):=by
 have e:∀{kvs:List (Str × T)} {vs:List (Key × V)},acK K H kvs vs->(kvs.any fun c=>decide (c.1=k))=(vs.any fun c=>decide (c.1=(Sum.inr k:Key)))/\acK K H (kvs.map (fun c=>if c.1=k then (c.1,t) else c)) (vs.map (fun c=>if c.1=(Sum.inr k:Key) then (c.1,v) else c)):=by
  intro kvs;induction kvs with
  |nil=>intro vs r;cases r;exact⟨rfl,.nil⟩
  |cons p l u =>
  intro vs r;cases r with
  |cons q s =>
  rename_i b w;obtain⟨j,g⟩:=u s;obtain⟨o,n⟩:=q;obtain⟨x,y⟩:=b;simp only at o n;subst o;by_cases d:p.1=k
  ·refine⟨by simp [d],?_⟩;simp only[J_,d,if_true];exact .cons ⟨rfl,m⟩ g
  have f:¬(Sum.inr p.1:Key)=Sum.inr k:=fun z=>d (Sum.inr.inj z);refine⟨by simp only[abB,d,f,ZL,Bool.false_or];exact j,?_⟩;simp only[J_,d,f,Zb];exact .cons ⟨rfl,n⟩ g
 obtain⟨j,g⟩:=e r;unfold put3 putK;rw[j];split
 ·exact g
 have i:∀{a:List (Str × T)} {b:List (Key × V)},acK K H a b->acK K H (a++[(k,t)]) (b++[((Sum.inr k:Key),v)]):=fun h=>Paired.snoc h ⟨rfl,m⟩;exact i r
def tL.wrD {K:Frag} (s:tL K H3 H) (g:H a=some (.dK h)) (r:acK K H kvs c):tL K (fY H3 a (.dct kvs)) (upd H a (.dK c)):=fun b o e=>by
 have f:tR K H (upd H a (.dK c)):=bM (by rw[g];exact trivial);by_cases d:b=a
 ·subst d;rw[aq] at e;cases e;exact⟨c,aY,r.mono f⟩
 rw[aD d] at e;exact (s b o e).stay f fun u q=>by rw[aK d];exact q
def gM (U:X.A.units+1<cLine) (J:Ho X o G) (W:Ho X i p) (Q:Ho X b t) (R:swapsWith b (some (.Subscript o i g)) m.line X.env=pure false:=by rfl):
  PS3 X (.Assign [.Subscript o i g] b m) (Cu G p t):=by
 refine PS.imp (Iu U J W Q R) ?_;rintro D Z H ⟨s,H3,O,q,T,h,M,_⟩;refine⟨s,H3,_,q,T,h,fun v H1 t u c F N Y=>⟨s,u,_,q.mono c,F,Y,fun x H2 L z f E P S=>⟨s,z,_,q.mono (c.trans f),E,S,fun y I p l d n V C=>?_⟩⟩⟩;cases L with
 |ref a =>
  cases p with
  |str key =>
   have h':(match l a with
    |some (.dct kvs)=>kvs.length<sizeLine/\O.nx s (fY l a (.dct (put3 key t kvs)))
    |_=>False):=C
   split at h'
   ·
    rename_i kvs e
    obtain⟨vs,w,r⟩:=n a _ e
    have B:=N.mono (f.trans d)
    have j:tR X.K I (upd I a (.dK (putK vs (Sum.inr key:Key) v))):=bM (by rw[w];exact trivial)
    refine⟨a,_,(P.mono d).ref,?_,M _ _ _ _ (c.trans (f.trans (d.trans j))) (q.mono (c.trans (f.trans (d.trans j)))) (n.wrD w (Jg B r)) h'.2⟩
    rw[V.str]
    exact adE.k (k:=Sum.inr key) w (by rw[<- aa7 r];exact h'.1)
   ·
    exact h'.elim
  |_=>exact C.elim
 |_=>exact C.elim
def U7:List (Str × Pr)->St3->lO->(List (Str × T)->lO->Prop)->Prop
 |[],_,H,Q=>Q [] H
 | (k,tv)::r,Z,H,Q=>tv Z H fun y a=>U7 r Z a fun ps H3=>Q ((k,y)::ps) H3
def YC (kvs a:List (Str × T)):List (Str × T):=a.foldl (fun b c=>put3 c.1 c.2 b) kvs
def Qd (a:List (Str × Pr)):Pr:=fun Z H Q=>∀p,H p=none->U7 a Z (fY H p (.dct [])) fun ps b=>b p=some (.dct [])/\ps.length<=15/\Q (.ref p) (fY b p (.dct (YC [] ps)))
variable {p pos:Pos}{es:List Expr}{id Ty:String}
def Qe (r:List T->lO->My->Prop) (t:TA3):Pr:=fun Z H Q=>t Z H fun vs a=>r vs a Q
def aM (s:dz X (.builtin id) r) (u:Gl X x) (m:X.mg x=none) (j:bootBuiltins x=some (.builtin id)) (w:PA3 X (e::es) t) (o:x≠"__name__":=by decide) (b:(x==("__debug__":Str))=false:=by decide)
  (v:starEach (e::es) X.env=(false,eval e X.env)::starEach es X.env:=by rfl) (c:(backTo pos (starEach es X.env)).any (·.1)=false:=by rfl):Ho X (.Call (.Name x p) (e::es) [] pos) (Qe r t):=by
 refine PE.imp (Bq s u m j w o b v c) ?_;rintro Z H Q ⟨f,H3,g,i,l,h,k⟩;exact⟨f,H3,_,i,l,h,fun vs H' ts a n d r q=>⟨ts,a,g,r,d,q,k.at n⟩⟩
def bH (s:dz X (.type Ty) r) (u:Gl X x) (m:X.mg x=none) (j:bootBuiltins x=some (.type Ty)) (w:PA3 X (e::es) t) (o:x≠"__name__":=by decide) (b:(x==("__debug__":Str))=false:=by decide)
  (v:starEach (e::es) X.env=(false,eval e X.env)::starEach es X.env:=by rfl) (c:(backTo pos (starEach es X.env)).any (·.1)=false:=by rfl):Ho X (.Call (.Name x p) (e::es) [] pos) (Qe r t):=by
 refine PE.imp (zL s u m j w o b v c) ?_;rintro Z H Q ⟨f,H3,g,i,l,h,k⟩;exact⟨f,H3,_,i,l,h,fun vs H' ts a n d r q=>⟨ts,a,g,r,d,q,k.at n⟩⟩
def mQ (f:Gl X x) (d:X.mg x=none) (b:bootBuiltins x=some (.type n)) (e:x≠"__name__":=by decide) (a:(x==("__debug__":Str))=false:=by decide):Ho X (.Name x pos) (tC3 (.ty n)):=by
 refine PE.imp (Hz (v:=.ty n) f d b rfl e a) ?_;rintro Z H Q ⟨i,H3,g,j,c,h,k⟩;exact k _ _ _ H3 .refl c .ofTy h
def lX.one' {K:Frag}{t:T} (r:lX K H [t] vs):∃v,vs=[v]/\Rep K H t v:=by
 obtain⟨v,_,rfl,a,b⟩:=r.inv;rw[b.inv0];exact⟨v,rfl,a⟩
def lX.two' {K:Frag}{t u:T} (r:lX K H [t,u] vs):∃v w,vs=[v,w]/\Rep K H t v/\Rep K H u w:=by
 obtain⟨v,_,rfl,a,b⟩:=r.inv;obtain⟨w,rfl,c⟩:=b.one';exact⟨v,w,rfl,a,c⟩
def yo:List T->lO->My->Prop:=fun ts H Q=>match ts with
 |[.ref a]=>match H a with
  |some (.lst xs)=>Q (.int xs.length) H
  |some (.rol xs)=>Q (.int xs.length) H
  |_=>False
 |[.tup xs]=>Q (.int xs.length) H
 |[.str z]=>z.length<=sizeLine/\Q (.int z.length) H
 |_=>False
def bZ:dz X (.builtin "len") yo:=by
 refine ab1.imp (adb.or qe) ?_;rintro xs H Q ⟨ts,H3,i,r,c,h,k⟩
 match ts,h,r with
 |[.ref a],h,r =>
  obtain⟨v,rfl,b⟩:=r.one';have h':(match H3 a with
   |some (.lst xs)=>i (.int xs.length) H3
   |some (.rol xs)=>i (.int xs.length) H3
   |_=>False):=h
  split at h'
  ·rename_i us e;obtain⟨g,f,d⟩:=c.sqL (.inl e);exact .inl ⟨a,g,by rw[b.ref],.inl f,by rw[<- d.length];exact k _ _ _ _ .refl c .ofInt h'⟩
  ·rename_i us e;obtain⟨g,f,d⟩:=c.sqL (.inr e);exact .inl ⟨a,g,by rw[b.ref],.inl f,by rw[<- d.length];exact k _ _ _ _ .refl c .ofInt h'⟩
  exact h'.elim
 |[.tup us],h,r=>obtain⟨v,rfl,b⟩:=r.one';obtain⟨a,g,rfl,f,d⟩:=b.tup;exact .inl ⟨a,g,rfl,.inr f,by rw[<- d.length];exact k _ _ _ _ .refl c .ofInt h⟩
 |[.str z],h,r =>
 obtain⟨v,rfl,b⟩:=r.one';exact .inr ⟨z,by rw[b.str],h.1,k _ _ _ _ .refl c .ofInt h.2⟩
def vQ:List T->lO->My->Prop:=fun ts H Q=>match ts with
 |[.ref a]=>match H a with
  |some (.lst xs)=>∀p,H p=none->Q (.ref p) (fY H p (.lst xs))
  |some (.rol xs)=>∀p,H p=none->Q (.ref p) (fY H p (.lst xs))
  |_=>False
 |[.tup xs]=>∀p,H p=none->Q (.ref p) (fY H p (.lst xs))
 |_=>False
def qp:dz X (.type "list") vQ:=by
 refine ab1.imp qg ?_;rintro xs H Q ⟨ts,H3,j,r,c,h,k⟩
 match ts,h,r with
 |[.ref a],h,r =>
  obtain⟨v,rfl,i⟩:=r.one';have h':(match H3 a with
   |some (.lst xs)=>∀p,H3 p=none->j (.ref p) (fY H3 p (.lst xs))
   |some (.rol xs)=>∀p,H3 p=none->j (.ref p) (fY H3 p (.lst xs))
   |_=>False):=h
  split at h'
  ·rename_i us e;obtain⟨g,f,d⟩:=c.sqL (.inl e);exact⟨a,g,by rw[i.ref],.inl f,fun l b=>k _ _ _ _ (aN b) (c.newLst b d) .ofRef (h' l (c.fresh b))⟩
  ·rename_i us e;obtain⟨g,f,d⟩:=c.sqL (.inr e);exact⟨a,g,by rw[i.ref],.inl f,fun l b=>k _ _ _ _ (aN b) (c.newLst b d) .ofRef (h' l (c.fresh b))⟩
  exact h'.elim
 |[.tup us],h,r =>
 obtain⟨v,rfl,i⟩:=r.one';obtain⟨a,g,rfl,f,d⟩:=i.tup;exact⟨a,g,rfl,.inr f,fun l b=>k _ _ _ _ (aN b) (c.newLst b d) .ofRef (h l (c.fresh b))⟩
def qt:List T->lO->My->Prop:=fun ts H Q=>match ts with
 |[.ref a]=>match H a with
  |some (.lst xs)=>Q (.tup xs) H
  |some (.rol xs)=>Q (.tup xs) H
  |_=>False
 |[.tup xs]=>Q (.tup xs) H
 |_=>False
def cX:dz X (.type "tuple") qt:=by
 refine ab1.imp nZ ?_;rintro xs H Q ⟨ts,H3,j,r,f,h,k⟩
 match ts,h,r with
 |[.ref a],h,r =>
  obtain⟨v,rfl,i⟩:=r.one';have h':(match H3 a with
   |some (.lst xs)=>j (.tup xs) H3
   |some (.rol xs)=>j (.tup xs) H3
   |_=>False):=h
  split at h'
  ·rename_i us e;obtain⟨g,c,d⟩:=f.sqL (.inl e);exact⟨a,g,by rw[i.ref],.inl ⟨c,fun l b=>k _ _ _ _ (aN b) (f.new b) (tL.newTup (H3:=H3) b d) h'⟩⟩
  ·rename_i us e;obtain⟨g,c,d⟩:=f.sqL (.inr e);exact⟨a,g,by rw[i.ref],.inl ⟨c,fun l b=>k _ _ _ _ (aN b) (f.new b) (tL.newTup (H3:=H3) b d) h'⟩⟩
  exact h'.elim
 |[.tup us],h,r =>
 obtain⟨v,rfl,i⟩:=r.one';obtain⟨a,g,rfl,c,d⟩:=i.tup;exact⟨a,g,rfl,.inr ⟨c,k _ _ _ _ .refl f (.ofTup c d) h⟩⟩
def Cv:List T->lO->My->Prop:=fun ts H Q=>match ts with
 |[.int i]=>Q (.int i) H
 |[.bl b]=>Q (.int (if b then 1 else 0)) H
 |_=>False
def yp:dz X (.type "int") Cv:=by
 refine ab1.imp zJ ?_;rintro xs H Q ⟨ts,H3,d,r,c,h,k⟩
 match ts,h,r with
 |[.int i],h,r=>obtain⟨v,rfl,a⟩:=r.one';exact .inl ⟨i,by rw[a.int],k _ _ _ _ .refl c .ofInt h⟩
 |[.bl b],h,r =>
 obtain⟨v,rfl,a⟩:=r.one';exact .inr ⟨b,by rw[a.bl],k _ _ _ _ .refl c .ofInt h⟩
def ints3:List T->Option (List Int)
 |[]=>some []
 |.int i::r=>(ints3 r).map (i::·)
 |_=>none
def gB:∀(ns:List Int),ints3 (ns.map T.int)=some ns
 |[]=>rfl
 |n::r=>by simp [ints3,gB r]
def ji {K:Frag}:∀{ts:List T}{xs:List V}{us:List Value}{ns:List Int},ints3 ts=some ns->lX K H ts xs->Vals xs us->IntsAre us ns
 |[],xs,us,ns,e,r,v=>by
  cases e
  rw[r.inv0] at v
  cases v
  exact .nil
 |.int i::l,xs,us,ns,e,r,v=>by
  obtain⟨x,h,rfl,d,f⟩:=r.inv
  cases v with
  |cons a b =>
   rw[d.int] at a
   obtain⟨t,rfl⟩:=a
   cases c:ints3 l with
   |none=>simp [ints3,c] at e
   |some g =>
    simp [ints3,c] at e
    subst e
    exact .cons _ _ (ji c f b)
 |.non::_,_,_,_,e,_,_=>by simp [ints3] at e
 |.bl _::_,_,_,_,e,_,_=>by simp [ints3] at e
 |.str _::_,_,_,_,e,_,_=>by simp [ints3] at e
 |.tup _::_,_,_,_,e,_,_=>by simp [ints3] at e
 |.ref _::_,_,_,_,e,_,_=>by simp [ints3] at e
 |.ty _::_,_,_,_,e,_,_=>by simp [ints3] at e
def Mr:List T->lO->My->Prop:=fun ts H Q=>match ts with
 |[.ref a]=>match H a with
  |some (.lst xs)=>oq (ints3 xs) fun ns=>Q (.int ns.sum) H
  |some (.rol xs)=>oq (ints3 xs) fun ns=>Q (.int ns.sum) H
  |_=>False
 |_=>False
def vR (D:X.calm=true):dz X (.builtin "sum") Mr:=by
 intro j s Z H xs us Q I F h;obtain⟨ts,H3,o,r,x,h,k⟩:=h
 match ts,h,r with
 |[.ref a],h,r =>
 obtain⟨v,rfl,n⟩:=r.one';obtain⟨u,rfl,y⟩:=vals1 F;rw[n.ref] at y;cases y;have b:∀{d:List T} {l:List V},SqL X.K H a l->lX X.K H d l->oq (ints3 d) (fun ns=>o (.int ns.sum) H3)->wpAny (model X.prog X.w) X.A (call (.builtin "sum") [.ref a]) (EP X j Z Q) X.xe s:=by
  intro d l i g q;cases e:ints3 d with
  |none=>rw[e] at q;exact q.elim
  |some ns =>
  rw[e] at q;obtain⟨c,t,E,_⟩:=I.list i;have C:=ji e g t;have f:AllInts c.toArray:=C.allInts;obtain⟨m,z⟩:=f.items;have p:s.heap.IsList a (intItems m):=by rw[<- z];exact E.isList
  refine sum_intListG (I.ok.hd D) p fun h' tk t' G=>?_;have J:preSum (numAt m) m.size=ns.sum:=by have B:=nums_intItems m;rw[<- z,show c.toArray.toList=c from rfl,C.numsOf] at B;rw[preSum_eq,abm (by simp),<- B]
  rw[J];exact⟨.int ns.sum,H,I.kept G,⟨t',rfl⟩,k _ _ _ _ .refl x .ofInt q⟩
 have h':(match H3 a with
  |some (.lst xs)=>oq (ints3 xs) fun ns=>o (.int ns.sum) H3
  |some (.rol xs)=>oq (ints3 xs) fun ns=>o (.int ns.sum) H3
  |_=>False):=h
 split at h'
 ·rename_i d e;obtain⟨l,i,g⟩:=x.sqL (.inl e);exact b i g h'
 ·rename_i d e;obtain⟨l,i,g⟩:=x.sqL (.inr e);exact b i g h'
 exact h'.elim
def isT (n:String):T->lO->Option Bool:=fun x H=>match x with
 |.non=>some (n=="NoneType")
 |.bl _=>some (n=="bool"||n=="int")
 |.int _=>some (n=="int")
 |.str _=>some (n=="str")
 |.tup _=>some (n=="tuple")
 |.ref a=>match H a with
  |some (.lst _)=>some (n=="list")
  |some (.dct _)=>some (n=="dict")
  |_=>none
 |.ty _=>none
def o9:List T->lO->My->Prop:=fun ts H Q=>match ts with
 |[x,.ty n]=>(n="str"\/n="int"\/n="bool"\/n="tuple"\/n="list")/\oq (isT n x H) fun b=>Q (.bl b) H
 |_=>False
def jj (K:Frag) (a b:String) (c:a="NoneType"\/a="bool"\/a="int"\/a="str"\/a="tuple"\/a="list"\/a="dict") (d:b="str"\/b="int"\/b="bool"\/b="tuple"\/b="list") :
  kitOne K (.type a) (.type b)=some (a==b||(a=="bool"&&b=="int")):=by
 rcases c with rfl | rfl | rfl | rfl | rfl | rfl | rfl <;> rcases d with rfl | rfl | rfl | rfl | rfl <;> rfl
def jk:dz X (.builtin "isinstance") o9:=by
 intro j s Z H xs us Q I C h;obtain⟨ts,H3,u,r,t,h,k⟩:=h
 match ts,h,r with
 |[x,.ty n],h,r =>
 obtain⟨v,w,rfl,g,E⟩:=r.two';obtain⟨J,M,rfl,f,y⟩:=vals2 C;rw[E.ty] at y;cases y;obtain⟨d,h⟩:=h;have c:∀{b:Bool},u (.bl b) H3->∀tk,EP X j Z Q (.bool b) { s with toks:=tk}:=fun q tk=>⟨.bl _,H,I.tok tk,rfl,k _ _ _ _ .refl t .ofBl q⟩;cases x with
 |non=>exact eZ I f (by rw[g.non];exact .non) (jj X.K "NoneType" n (by simp) d) (c (by rcases d with rfl | rfl | rfl | rfl | rfl <;> exact h))
 |bl b=>exact eZ I f (by rw[g.bl];exact .bl b) (jj X.K "bool" n (by simp) d) (c (by rcases d with rfl | rfl | rfl | rfl | rfl <;> exact h))
 |int i=>exact eZ I f (by rw[g.int];exact .int i) (jj X.K "int" n (by simp) d) (c (by rcases d with rfl | rfl | rfl | rfl | rfl <;> exact h))
 |str z=>exact eZ I f (by rw[g.str];exact .str z) (jj X.K "str" n (by simp) d) (c (by rcases d with rfl | rfl | rfl | rfl | rfl <;> exact h))
 |tup us=>obtain⟨a,N,rfl,D,L⟩:=g.tup;cases f;obtain⟨B,_,⟨o,F,A,_⟩,_⟩:=I.tuple D;exact kia_one kitx_tuple I.kIn ⟨o,F,A⟩ (jj X.K "tuple" n (by simp) d) (fun z=>nomatch z) (c (by rcases d with rfl | rfl | rfl | rfl | rfl <;> exact h))
 |ref a =>
  have h':oq (match H3 a with
   |some (.lst _)=>some (n=="list")
   |some (.dct _)=>some (n=="dict")
   |_=>none) fun b=>u (.bl b) H3:=h
  rw[g.ref] at f
  cases e:H3 a with
  |none=>rw[e] at h';exact h'.elim
  |some o =>
   rw[e] at h'
   cases o with
   |lst p =>
    obtain⟨G,l,_⟩:=t a _ e
    exact eZ I f (.lst l) (jj X.K "list" n (by simp) d) (c (by rcases d with rfl | rfl | rfl | rfl | rfl <;> exact h'))
   |dct p =>
    obtain⟨G,l,_⟩:=t a _ e
    exact eZ I f (.dK l) (jj X.K "dict" n (by simp) d) (c (by rcases d with rfl | rfl | rfl | rfl | rfl <;> exact h'))
   |rol p=>exact h'.elim
   |dcp p=>exact h'.elim
   |exc _ _=>exact h'.elim
   |xdt _=>exact h'.elim
   |dci _=>exact h'.elim
   |dif _ _=>exact h'.elim
   |ins _ _=>exact h'.elim
 |ty m=>exact h.elim
variable {apos cpos:Pos}
def ty3 (b:String):T->lO->Prop:=fun x H=>match x with
 |.str _=>b="str"
 |.tup _=>b="tuple"
 |.ref a=>b="list"/\match H a with
  |some (.lst _)=>True
  |some (.rol _)=>True
  |_=>False
 |_=>False
def Ms {K:Frag}{t:T} (d:tL K H3 H) (r:Rep K H t v) (h:ty3 Ty t H3):tyV K Ty v H:=by
 cases t with
 |str z=>rw[r.str];exact h
 |tup ts=>obtain⟨a,xs,rfl,c,_⟩:=r.tup;exact .inr (.inl ⟨h,xs,c⟩)
 |ref a =>
  rw[r.ref];refine .inl ⟨h.1,?_⟩;have b:=h.2;cases e:H3 a with
  |none=>rw[e] at b;exact b.elim
  |some o =>
  rw[e] at b;cases o with
  |lst ts=>obtain⟨xs,c,_⟩:=d.sqL (.inl e);exact⟨xs,c⟩
  |rol ts=>obtain⟨xs,c,_⟩:=d.sqL (.inr e);exact⟨xs,c⟩
  |dct _=>exact b.elim
  |dcp _=>exact b.elim
  |exc _ _=>exact b.elim
  |xdt _=>exact b.elim
  |dci _=>exact b.elim
  |dif _ _=>exact b.elim
  |ins _ _=>exact b.elim
 |_=>exact h.elim
def U8 (d:String) (m:T->List T->lO->My->Prop) (c:Pr) (t:TA3):Pr:=fun Z H Q=>c Z H fun x a=>ty3 d x a/\t Z a fun xs b=>m x xs b Q
def dj (z:PlainAttrs Ty) (g:Slot Ty name id) (p:typeOf (.builtin id)=pure (.type "method_descriptor")) (C:vM X id m) (w:Ho X o to) (G:PA3 X (e::es) t)
  (c:attributeBase o name X.env (eval o X.env)=eval o X.env:=by rfl)
  (f:((backTo cpos (starEach (e::es) X.env)).all (fun x=>!x.1)&&(backToKw cpos (keywordEach [] X.env)).all (fun x=>x.1.isSome)
   && decide ((e::es).length+([]:List Keyword).length+(if ([]:List Keyword).isEmpty then 0 else 1)<30))=true:=by rfl)
  (b:(apos.endLine==cpos.line)=true:=by rfl) (D:starEach (e::es) X.env=(false,eval e X.env)::starEach es X.env:=by rfl) (a:(backTo cpos (starEach es X.env)).any (·.1)=false:=by rfl) :
  Ho X (.Call (.Attribute o name apos) (e::es) [] cpos) (U8 Ty m to t):=by
 refine PE.imp (Uz z g p C w G c f b D a) ?_;rintro Z H Q ⟨u,H3,A,r,F,h,k⟩;exact⟨u,H3,_,r,F,h,fun x I y l d j s v=>⟨Ms j s v.1,u,l,_,r.mono d,j,v.2,fun vs J ts n i q B E=>⟨y,ts,n,A,s.mono i,B,q,E,k.at (d.trans i)⟩⟩⟩
def Mt:T->List T->lO->My->Prop:=fun x ts H Q=>match x,ts with
 |.ref a,[t]=>match H a with
  |some (.lst xs)=>xs.length<sizeLine/\Q .non (fY H a (.lst (xs++[t])))
  |_=>False
 |_,_=>False
def bu:vM X "list.append" Mt:=by
 refine MtR.imp zM ?_;rintro x xs H Q ⟨j,ts,H3,i,d,c,f,h,k⟩
 match j,ts,h,d,c with
 |.ref a,[t],h,d,c =>
 obtain⟨v,rfl,g⟩:=c.one';have h':(match H3 a with
  |some (.lst xs)=>xs.length<sizeLine/\i .non (fY H3 a (.lst (xs++[t])))
  |_=>False):=h
 split at h'
 ·rename_i m e;obtain⟨l,b,r⟩:=f a _ e;exact⟨a,l,v,d.ref,rfl,b,by rw[<- r.length];exact h'.1,k _ _ _ _ (bM (by rw[b];exact trivial)) (f.wrL b (r.append (.cons g .nil))) .ofNon h'.2⟩
 exact h'.elim
def Mu:T->List T->lO->My->Prop:=fun x ts H Q=>match x,ts with
 |.ref a,[.ref b]=>match H a,H b with
  |some (.lst xs),some (.lst ys)=>xs.length+ys.length<=sizeLine/\Q .non (fY H a (.lst (xs++ys)))
  |_,_=>False
 |_,_=>False
def zW:vM X "list.extend" Mu:=by
 refine MtR.imp zN ?_;rintro x xs H Q ⟨o,ts,H3,n,g,e,f,h,k⟩
 match o,ts,h,g,e with
 |.ref a,[.ref b],h,g,e =>
 obtain⟨v,rfl,m⟩:=e.one';have h':(match H3 a,H3 b with
  |some (.lst xs),some (.lst c)=>xs.length+c.length<=sizeLine/\n .non (fY H3 a (.lst (xs++c)))
  |_,_=>False):=h
 split at h'
 ·rename_i s t q l;obtain⟨c,d,r⟩:=f a _ q;obtain⟨p,i,j⟩:=f b _ l;exact⟨a,b,c,p,g.ref,by rw[m.ref],d,i,by rw[<- r.length,<- j.length];exact h'.1,k _ _ _ _ (bM (by rw[d];exact trivial)) (f.wrL d (r.append j)) .ofNon h'.2⟩
 exact h'.elim
def yq:T->List T->lO->My->Prop:=fun x ts H Q=>match x,ts with
 |.str z,[.str y]=>match Builtin.Str.occurrences z y 0 z.length 1 with
  |i::_=>Q (.int i) H
  |[]=>False
 |_,_=>False
def Cw:vM X "str.index" yq:=by
 intro g s Z H x xs v us Q I a d n;obtain⟨m,ts,H3,l,c,b,o,h,k⟩:=n
 match m,ts,h,c,b with
 |.str z,[.str y],h,c,b =>
 obtain⟨w,rfl,j⟩:=b.one';obtain⟨u,rfl,f⟩:=vals1 d;rw[j.str] at f;obtain⟨t',rfl⟩:=f;rw[c.str] at a;obtain⟨t,rfl⟩:=a;have h':(match Builtin.Str.occurrences z y 0 z.length 1 with
  |i::_=>l (.int i) H3
  |[]=>False):=h
 split at h'
 ·rename_i i rest e;exact SC.index e ⟨.int i,H,I.tok _,⟨_,rfl⟩,k _ _ _ _ .refl o .ofInt h'⟩
 exact h'.elim
end
def compLook (n0:List (Str × NameKind)) (N:List Str) (b:Bool) (a:List (Str × NameKind)) (N':List Str) (nt:Nat) (cap:List Nat):Bool :=
 b&&a.all (fun y=>y.2 != .cell||a.lookup y.1==some .cell)&&a.all (fun x=>x.2 != .local||a.lookup x.1==some .local)&&a.all (fun y=>y.2 != .free||n0.lookup y.1==some .cell||n0.lookup y.1==some .free)
  && N'.length==nt+cap.length&&(List.range cap.length).all fun j=>match N'[nt+j]?,cap[j]? with
   |some x,some i=>N[i]?==some x&&a.lookup x==some .free
   |_,_=>false
def bU (c:X.env.scope.names=n0) (o:X.N=N) (h:compLook n0 N (scope.kind==.function) scope.names N' nt cap=true):acy X N' nt cap scope:=by
 unfold compLook at h;simp only[Zi,ZQ,aan,bne_iff_ne,Bool.or_eq_true,Zf] at h;obtain⟨⟨⟨⟨⟨m,d⟩,f⟩,k⟩,g⟩,l⟩:=h;refine⟨m,fun y a e=>(d y a).resolve_left fun z=>z e,fun x n e=>(f x n).resolve_left fun z=>z e,fun y a e=>?_,g,fun j x e=>?_⟩
 ·show X.env.scope.names.lookup y.1=_\/X.env.scope.names.lookup y.1=_;rw[c];rcases k y a with (z | z) | z
  ·exact absurd e z
  ·exact .inl z
  exact .inr z
 have p:j<cap.length:=by have:=(ZV.mp e).1;omega
 have q:=l j p;rw[e] at q;cases b:cap[j]? with
 |none=>rw[b] at q;cases q
 |some i =>
 rw[b] at q;simp only[Zi,aan] at q;exact⟨i,rfl,by rw[o];exact q.1,q.2⟩
structure G3 (K:Frag) (mg:Str->Option Value) (x:Str) (st:Stmt) (ps:List Str) (f:Addr) (fd:FuncData):Prop where
 fn:Fun K x x st f fd
 b:Binds K fd ps []
 m:mg x=some (.ref f)
structure Bl (mg:Str->Option Value):Prop where
 len_:mg "len"=none
 sum_:mg "sum"=none
 isinstance_:mg "isinstance"=none
 all_:mg "all"=none
 any_:mg "any"=none
 list_:mg "list"=none
 tuple_:mg "tuple"=none
 int_:mg "int"=none
 str_:mg "str"=none
 bool_:mg "bool"=none
 range_:mg "range"=none
 zip_:mg "zip"=none
 reversed_:mg "reversed"=none
 enumerate_:mg "enumerate"=none
 set_:mg "set"=none
 sorted_:mg "sorted"=none
 min_:mg "min"=none
 max_:mg "max"=none
 dict_:mg "dict"=none
 repr_:mg "repr"=none
def cg:bootBuiltins "len"=some (.builtin "len"):=by decide +kernel
def vU:bootBuiltins "sum"=some (.builtin "sum"):=by decide +kernel
def cH:bootBuiltins "isinstance"=some (.builtin "isinstance"):=by decide +kernel
def Qf:bootBuiltins "any"=some (.builtin "any"):=by decide +kernel
def lM:bootBuiltins "list"=some (.type "list"):=by decide +kernel
def cj:bootBuiltins "tuple"=some (.type "tuple"):=by decide +kernel
def vV:bootBuiltins "int"=some (.type "int"):=by decide +kernel
def Qg:bootBuiltins "str"=some (.type "str"):=by decide +kernel
def Jh:bootBuiltins "bool"=some (.type "bool"):=by decide +kernel
def t6.u30 (r:t6 k A):A.units+30<cLine:=by have:=r.un;omega
def t6.u31 (r:t6 k A):A.units+31<cLine:=by have:=r.un;omega
def t6.u1 (r:t6 k A):A.units+1<cLine:=by have:=r.un;omega
def vq (o:Option (Option T)) (Q:T->Prop):Prop:=match o with
 |some (some t)=>Q t
 |_=>False
def YD (t:T) (Q:T->Prop):vq (some (some t)) Q=Q t:=rfl
def Cy (i:Nat):sr i Z H Q=vq (Z[i]?) fun t=>Q t H:=rfl
def bq (x:T) (Q:Bool->Prop):Prop:=match x with
 |.bl k=>Q k
 |_=>False
def eX (b:Bool) (Q:Bool->Prop):bq (.bl b) Q=Q b:=rfl
def Qh (t:Pr) (Q:Bool->lO->Prop):j0 t Z H Q=t Z H fun x H'=>bq x fun k=>Q k H':=rfl
def Qi (b tb:Pr):BP b tb Z H Q=b Z H fun x a=>bq x fun c=>if c=true then tb Z a Q else Q (.bl false) a:=rfl
def U9 (b tb:Pr):LK b tb Z H Q=b Z H fun x a=>bq x fun c=>if c=true then Q (.bl true) a else tb Z a Q:=rfl
def Qj (a:Pr):BR a Z H Q=a Z H fun x b=>bq x fun c=>Q (.bl (!c)) b:=rfl
def f9 (v:a) (Q:a->Prop):oq (some v) Q=Q v:=rfl
def q_I (C:Int->Int->Prop) (g:Int->Int->T) (i j:Int):rI3 C g (.int i) (.int j) H Q=(C i j/\Q (g i j) H):=rfl
def YF (g:Int->Int->T) (i j:Int):sI g (.int i) (.int j) H Q=Q (g i j) H:=rfl
def Qk (i j:Int):sJ (.int i) (.int j) H Q=Q (.int (i+j)) H:=rfl
def Ql (i j:Str):sJ (.str i) (.str j) H Q=(i.length+j.length<=sizeLine/\Q (.str (i++j)) H):=rfl
def Qm (xs a:List T):sJ (.tup xs) (.tup a) H Q=(xs.length+a.length<=sizeLine/\Q (.tup (xs++a)) H):=rfl
def Va (o u:Option O3) (H:lO) (Q:My):Prop:=match o,u with
 |some (.lst xs),some (.lst ys)=>xs.length+ys.length<=sizeLine/\∀p,H p=none->Q (.ref p) (fY H p (.lst (xs++ys)))
 |_,_=>False
def Cz (a b:Addr):sJ (.ref a) (.ref b) H Q=Va (H a) (H b) H Q:=rfl
def jl (xs a:List T):Va (some (.lst xs)) (some (.lst a)) H Q=(xs.length+a.length<=sizeLine/\∀p,H p=none->Q (.ref p) (fY H p (.lst (xs++a)))):=rfl
def Vb (n:Bool) (i j:Int):sO n (.int i) (.int j) H Q=Q (.bl (if n then !decide (i=j) else decide (i=j))) H:=rfl
def Vc (n:Bool) (i j:Str):sO n (.str i) (.str j) H Q=Q (.bl (if n then !decide (i=j) else decide (i=j))) H:=rfl
def Vd (n:Bool) (i j:Bool):sO n (.bl i) (.bl j) H Q=Q (.bl (if n then !decide (i=j) else decide (i=j))) H:=rfl
def Ve (n:Bool) (xs a:List T):sO n (.tup xs) (.tup a) H Q=(xs.all (pl 20)=true/\a.all (pl 20)=true/\Q (.bl (if n then !decide (xs=a) else decide (xs=a))) H):=rfl
def eqH (n:Bool) (a b:Addr) (o u:Option O3) (H:lO) (Q:My):Prop:=match o,u with
 |some (.lst xs),some (.lst ys)=>a≠b/\xs.all (pl 20)=true/\ys.all (pl 20)=true/\Q (.bl (if n then !@decide (xs=ys) (instDecidableEqList xs ys) else @decide (xs=ys) (instDecidableEqList xs ys))) H
 |_,_=>False
def Mv (n:Bool) (a b:Addr):sO n (.ref a) (.ref b) H Q=eqH n a b (H a) (H b) H Q:=rfl
def sZ (n:Bool) (a b:Addr) (xs c:List T):eqH n a b (some (.lst xs)) (some (.lst c)) H Q=(a≠b/\xs.all (pl 20)=true/\c.all (pl 20)=true/\Q (.bl (if n then !decide (xs=c) else decide (xs=c))) H):=rfl
def Mw (n:Bool) (x:T) (ts:List T):sV n x (.tup ts) H Q=(pl 20 x=true/\ts.all (pl 20)=true/\Q (.bl (di n x ts)) H):=rfl
def Vf (n:Bool) (i j:Str):sV n (.str i) (.str j) H Q=Q (.bl (occ n i j)) H:=rfl
def inH (n:Bool) (x:T) (o:Option O3) (H:lO) (Q:My):Prop:=match o with
 |some (.lst ts)=>pl 20 x=true/\ts.all (pl 20)=true/\Q (.bl (di n x ts)) H
 |some (.rol ts)=>pl 20 x=true/\ts.all (pl 20)=true/\Q (.bl (di n x ts)) H
 |_=>False
def Mx (n:Bool) (x:T) (a:Addr):sV n x (.ref a) H Q=inH n x (H a) H Q:=rfl
def Mz (n:Bool) (x:T) (ts:List T):inH n x (some (.lst ts)) H Q=(pl 20 x=true/\ts.all (pl 20)=true/\Q (.bl (di n x ts)) H):=rfl
def ixH (o:Option O3) (i:Int) (H:lO) (Q:My):Prop:=match o with
 |some (.lst ts)=>oq (atI ts i) fun t=>Q t H
 |some (.rol ts)=>oq (atI ts i) fun t=>Q t H
 |_=>False
def CG (a:Addr) (i:Int):sW (.ref a) (.int i) H Q=ixH (H a) i H Q:=rfl
def yr (ts:List T) (i:Int):ixH (some (.lst ts)) i H Q=oq (atI ts i) fun t=>Q t H:=rfl
def Vg (ts:List T) (i:Int):sW (.tup ts) (.int i) H Q=oq (atI ts i) fun t=>Q t H:=rfl
def Vh (z:Str) (i:Int):sW (.str z) (.int i) H Q=(z.length<=sizeLine/\oq (atI z.cps.toList i) fun c=>Q (.str ⟨#[c]⟩) H):=rfl
def stH (o:Option O3) (a:Addr) (k:Int) (v:T) (H:lO) (Q:lO->Prop):Prop:=match o with
 |some (.lst ts)=>oq (ixN ts.length k) fun j=>Q (fY H a (.lst (ts.set j v)))
 |_=>False
def Qn (a:Addr) (k:Int) (v:T) (Q:lO->Prop):Cq (.ref a) (.int k) v H Q=stH (H a) a k v H Q:=rfl
def Vi (ts:List T) (a:Addr) (k:Int) (v:T) (Q:lO->Prop):stH (some (.lst ts)) a k v H Q=oq (ixN ts.length k) fun j=>Q (fY H a (.lst (ts.set j v))):=rfl
def pq (x:T) (Q:Option Int->Prop):Prop:=match x with
 |.int i=>Q (some i)
 |_=>False
def YG (i:Int) (Q:Option Int->Prop):pq (.int i) Q=Q (some i):=rfl
def Qo (t:Pr) (Q:Option Int->lO->Prop):Cr t Z H Q=t Z H fun x a=>pq x fun o=>Q o a:=rfl
def slH (o:Option O3) (b a:Option Int) (H:lO) (Q:My):Prop:=match o with
 |some (.lst ts)=>∀p,H p=none->Q (.ref p) (fY H p (.lst (fZ ts b a)))
 |some (.rol ts)=>∀p,H p=none->Q (.ref p) (fY H p (.lst (fZ ts b a)))
 |_=>False
def Vj (a:Addr) (c b:Option Int):Jf (.ref a) c b H Q=slH (H a) c b H Q:=rfl
def MF (ts:List T) (b a:Option Int):slH (some (.lst ts)) b a H Q=∀p,H p=none->Q (.ref p) (fY H p (.lst (fZ ts b a))):=rfl
def Qp (ts:List T) (b a:Option Int):slH (some (.rol ts)) b a H Q=∀p,H p=none->Q (.ref p) (fY H p (.lst (fZ ts b a))):=rfl
def Vk (ts:List T) (b a:Option Int):Jf (.tup ts) b a H Q=(¬(HT.sIx ts.length 0 b=0/\HT.sIx ts.length ts.length a=ts.length)/\Q (.tup (fZ ts b a)) H):=rfl
def Vl (z:Str) (b a:Option Int):Jf (.str z) b a H Q=(z.length<=sizeLine/\Q (.str (Txt.slice z b a)) H):=rfl
def dgH (o:Option O3) (k:Str) (H:lO) (Q:My):Prop:=match o with
 |some (.dct kvs)=>oq (aP k kvs) fun t=>Q t H
 |_=>False
def q_D (a:Addr) (k:Str):r3D (.ref a) (.str k) H Q=dgH (H a) k H Q:=rfl
def Vm (kvs:List (Str × T)) (k:Str):dgH (some (.dct kvs)) k H Q=oq (aP k kvs) fun t=>Q t H:=rfl
def dpH (x y v:T) (H:lO) (Q:lO->Prop):Prop:=match x,y with
 |.ref a,.str k=>match H a with
  |some (.dct kvs)=>kvs.length<sizeLine/\Q (fY H a (.dct (put3 k v kvs)))
  |_=>False
 |_,_=>False
def dpO (o:Option O3) (a:Addr) (k:Str) (v:T) (H:lO) (Q:lO->Prop):Prop:=match o with
 |some (.dct kvs)=>kvs.length<sizeLine/\Q (fY H a (.dct (put3 k v kvs)))
 |_=>False
def Qq (a b c:Pr) (D:acP):Cu a b c D Z H=c Z H fun v f=>a Z f fun x e=>b Z e fun y H3=>dpH x y v H3 fun d=>D.nx Z d:=rfl
def Vn (a:Addr) (k:Str) (v:T) (Q:lO->Prop):dpH (.ref a) (.str k) v H Q=dpO (H a) a k v H Q:=rfl
def Vo (kvs:List (Str × T)) (a:Addr) (k:Str) (v:T) (Q:lO->Prop):dpO (some (.dct kvs)) a k v H Q=(kvs.length<sizeLine/\Q (fY H a (.dct (put3 k v kvs)))):=rfl
def lnH (o:Option O3) (H:lO) (Q:My):Prop:=match o with
 |some (.lst xs)=>Q (.int xs.length) H
 |some (.rol xs)=>Q (.int xs.length) H
 |_=>False
def Qs (a:Addr):yo [.ref a] H Q=lnH (H a) H Q:=rfl
def Vp (xs:List T):lnH (some (.lst xs)) H Q=Q (.int xs.length) H:=rfl
def Qt (xs:List T):yo [.tup xs] H Q=Q (.int xs.length) H:=rfl
def Qu (z:Str):yo [.str z] H Q=(z.length<=sizeLine/\Q (.int z.length) H):=rfl
def liH (o:Option O3) (H:lO) (Q:My):Prop:=match o with
 |some (.lst xs)=>∀p,H p=none->Q (.ref p) (fY H p (.lst xs))
 |some (.rol xs)=>∀p,H p=none->Q (.ref p) (fY H p (.lst xs))
 |_=>False
def Ji (a:Addr):vQ [.ref a] H Q=liH (H a) H Q:=rfl
def Vq (xs:List T):liH (some (.lst xs)) H Q=∀p,H p=none->Q (.ref p) (fY H p (.lst xs)):=rfl
def Jj (xs:List T):vQ [.tup xs] H Q=∀p,H p=none->Q (.ref p) (fY H p (.lst xs)):=rfl
def tpH (o:Option O3) (H:lO) (Q:My):Prop:=match o with
 |some (.lst xs)=>Q (.tup xs) H
 |some (.rol xs)=>Q (.tup xs) H
 |_=>False
def Qv (a:Addr):qt [.ref a] H Q=tpH (H a) H Q:=rfl
def Vr (xs:List T):tpH (some (.lst xs)) H Q=Q (.tup xs) H:=rfl
def Qw (xs:List T):qt [.tup xs] H Q=Q (.tup xs) H:=rfl
def Qx (i:Int):Cv [.int i] H Q=Q (.int i) H:=rfl
def Qy (b:Bool):Cv [.bl b] H Q=Q (.int (if b then 1 else 0)) H:=rfl
def smH (o:Option O3) (H:lO) (Q:My):Prop:=match o with
 |some (.lst xs)=>oq (ints3 xs) fun ns=>Q (.int ns.sum) H
 |some (.rol xs)=>oq (ints3 xs) fun ns=>Q (.int ns.sum) H
 |_=>False
def Qz (a:Addr):Mr [.ref a] H Q=smH (H a) H Q:=rfl
def Vs (xs:List T):smH (some (.lst xs)) H Q=oq (ints3 xs) fun ns=>Q (.int ns.sum) H:=rfl
def yt (x:T) (n:String):o9 [x,.ty n] H Q=((n="str"\/n="int"\/n="bool"\/n="tuple"\/n="list")/\oq (isT n x H) fun b=>Q (.bl b) H):=rfl
def Vt (a:String) (z:Str):ty3 a (.str z) H=(a="str"):=rfl
def tyH (o:Option O3):Prop:=match o with
 |some (.lst _)=>True
 |some (.rol _)=>True
 |_=>False
def Vu (b:String) (a:Addr):ty3 b (.ref a) H=(b="list"/\tyH (H a)):=rfl
def Vv (xs:List T):tyH (some (.lst xs))=True:=rfl
def apH (o:Option O3) (a:Addr) (t:T) (H:lO) (Q:My):Prop:=match o with
 |some (.lst xs)=>xs.length<sizeLine/\Q .non (fY H a (.lst (xs++[t])))
 |_=>False
def Vw (a:Addr) (t:T):Mt (.ref a) [t] H Q=apH (H a) a t H Q:=rfl
def CJ (xs:List T) (a:Addr) (t:T):apH (some (.lst xs)) a t H Q=(xs.length<sizeLine/\Q .non (fY H a (.lst (xs++[t])))):=rfl
def exH (o u:Option O3) (a:Addr) (H:lO) (Q:My):Prop:=match o,u with
 |some (.lst xs),some (.lst ys)=>xs.length+ys.length<=sizeLine/\Q .non (fY H a (.lst (xs++ys)))
 |_,_=>False
def Vx (a b:Addr):Mu (.ref a) [.ref b] H Q=exH (H a) (H b) a H Q:=rfl
def Vy (xs b:List T) (a:Addr):exH (some (.lst xs)) (some (.lst b)) a H Q=(xs.length+b.length<=sizeLine/\Q .non (fY H a (.lst (xs++b)))):=rfl
def idH (o:List Nat) (H:lO) (Q:My):Prop:=match o with
 |i::_=>Q (.int i) H
 |[]=>False
def Jk (z y:Str):yq (.str z) [.str y] H Q=idH (Builtin.Str.occurrences z y 0 z.length 1) H Q:=rfl
def Vz (i:Nat) (r:List Nat):idH (i::r) H Q=Q (.int i) H:=rfl
def rgq (vs:List T) (H:lO) (R:List T->(lO->Prop)->lO->Prop):Prop:=match vs with
 |[.int j]=>-(2^62)<=j/\j<2^62/\R (dM 0 j.toNat) cL H
 |[.int i,.int j]=>(-(2^62)<=i/\i<2^62 /\ -(2^62)<=j/\j<2^62)/\R (dM i (j - i).toNat) cL H
 |_=>False
def VB (a:TA3) (R:List T->(lO->Prop)->lO->Prop):Ce a Z H R=a Z H fun vs b=>rgq vs b R:=rfl
def VD (j:Int) (R:List T->(lO->Prop)->lO->Prop):rgq [.int j] H R=(-(2^62)<=j/\j<2^62/\R (dM 0 j.toNat) cL H):=rfl
def VF (i j:Int) (R:List T->(lO->Prop)->lO->Prop):rgq [.int i,.int j] H R=((-(2^62)<=i/\i<2^62 /\ -(2^62)<=j/\j<2^62)/\R (dM i (j - i).toNat) cL H):=rfl
def tuq (x:T) (H:lO) (R:List T->(lO->Prop)->lO->Prop):Prop:=match x with
 |.tup ts=>R ts cL H
 |_=>False
def QB (a:Pr) (R:List T->(lO->Prop)->lO->Prop):Mj a Z H R=a Z H fun x b=>tuq x b R:=rfl
def VG (ts:List T) (R:List T->(lO->Prop)->lO->Prop):tuq (.tup ts) H R=R ts cL H:=rfl
def liq (x:T) (H:lO) (R:List T->(lO->Prop)->lO->Prop):Prop:=match x with
 |.ref a=>match H a with
  |some (.lst ts)=>R ts (bD a ts) H
  |some (.rol ts)=>R ts (bD a ts) H
  |_=>False
 |_=>False
def liO (o:Option O3) (a:Addr) (H:lO) (R:List T->(lO->Prop)->lO->Prop):Prop:=match o with
 |some (.lst ts)=>R ts (bD a ts) H
 |some (.rol ts)=>R ts (bD a ts) H
 |_=>False
def Jl (a:Pr) (R:List T->(lO->Prop)->lO->Prop):Ca a Z H R=a Z H fun x b=>liq x b R:=rfl
def MJ (a:Addr) (R:List T->(lO->Prop)->lO->Prop):liq (.ref a) H R=liO (H a) a H R:=rfl
def yu (ts:List T) (a:Addr) (R:List T->(lO->Prop)->lO->Prop):liO (some (.lst ts)) a H R=R ts (bD a ts) H:=rfl
def QC (Q:St3->lO->Prop):yc [] Z H Q=Q Z H:=rfl
def Jm (t:TG3) (u:mK) (x:T) (r:List T) (Q:St3->lO->Prop):jg t u (x::r) Z H Q=t x Z H fun a H'=>u r a H' Q:=rfl
def QD (n:Nat) (g:mK) (ts:List T) (Q:St3->lO->Prop):sy n g (.tup ts) Z H Q=(ts.length=n/\g ts Z H Q):=rfl
def yw (h:j<n):ixN n (j:Int)=some j:=by
 unfold ixN;rw[if_pos (abn j),if_pos (by omega),aab]
def at0 (a:b) (r:List b):atI (a::r) 0=some a:=cB (j:=0) rfl
def at1 (a b:c) (r:List c):atI (a::b::r) 1=some b:=cB (j:=1) rfl
def at2 (a b c:d) (r:List d):atI (a::b::c::r) 2=some c:=cB (j:=2) rfl
def iJ (I:List T->St3->lO->Prop) (b:I ts Z H) (c:∀Z H,I [] Z H->still H/\D.nx Z H) (d:∀t r Z H (N:St3->lO->Prop),I (t::r) Z H->(∀a H',I r a H'->N a H')->still H/\g t Z H fun Z2 H2=>tb { D with nx:=N,ct:=N,bk:=D.nx} Z2 H2):aca g tb D still ts Z H:=by
 induction ts generalizing Z H with
 |nil=>exact c Z H b
 |cons t r e=>exact d t r Z H (aca g tb D still r) b fun a H' h=>e h
def jD (I:List T->List T->St3->lO->Prop) (f:I ts a Z H) (i:∀a Z H,I [] a Z H->still H/\a.length<=sizeLine/\c a H) (j:∀t r a Z H (N:List T->St3->lO->Prop),I (t::r) a Z H->(∀d e H',I r d e H'->N d e H') ->
   still H/\g t Z H fun Z2 H2=>tt Z2 H2 fun b H3=>if b=true then te Z2 H3 fun y H4=>a.length<sizeLine/\N (a++[y]) Z2 H4 else N a Z2 H3):Z7 g tt te still c ts a Z H:=by
 induction ts generalizing Z H a with
 |nil=>exact i a Z H f
 |cons t r k=>exact j t r a Z H (Z7 g tt te still c r) f fun d e H' h=>k h
def sx0 (n:Nat):HT.sIx n 0 none=0:=rfl
def qu {k:Nat}:fZ ts none (some (k:Int))=ts.take k:=by
 unfold fZ;rw[sx0,HT.adT,List.drop_zero,Nat.sub_zero];by_cases h:k<=ts.length
 ·rw[Nat.min_eq_left h]
 rw[Nat.min_eq_right (by omega),List.take_length,abm (by omega)]
def tu {k:Nat}:fZ ts (some (k:Int)) none=ts.drop k:=by
 unfold fZ;rw[HT.aee,HT.adT];by_cases h:k<=ts.length
 ·rw[Nat.min_eq_left h,abm (by simp)]
 rw[Nat.min_eq_right (by omega),List.drop_of_length_le (m_ _),List.drop_of_length_le (by omega),List.take_nil]
def cM (h:fY H a o b=none):b≠a/\H b=none:=by
 by_cases e:b=a
 ·subst e;rw[aq] at h;cases h
 rw[aD e] at h;exact⟨e,h⟩
def CK (h:a≠b):fY (fY H a o) b u=fY (fY H b u) a o:=by
 funext c;by_cases d:c=b
 ·subst d;rw[aq,aD (Ne.symm h),aq]
 rw[aD d];by_cases e:c=a
 ·subst e;rw[aq,aq]
 rw[aD e,aD e,aD d]
def bK {n:Type} (d f:n->T) (g:List n) (rest:St3) (h:still H) (q:g.length<=sizeLine) (p:∀a∈g,∀Q:My,Q (f a) H->te (some (d a)::rest) H Q) (l:k (g.map f) H):Z7 (fJ 0) yf te still k (g.map d) [] (v::rest) H:=by
 refine jD (fun r m Z H'=>∃(e j:List n) (v:Option T),Z=v::rest/\r=e.map d/\m=j.map f/\j++e=g/\H'=H) ⟨g,[],v,rfl,rfl,rfl,rfl,rfl⟩ ?_ ?_
 ·rintro m Z H' ⟨e,j,v,rfl,c,rfl,b,rfl⟩;have i:e=[]:=aba.mp c.symm;subst i;rw[W_] at b;subst b;exact⟨h,by rw[g_];exact q,l⟩
 rintro x r m Z H' N ⟨e,j,v,rfl,c,rfl,b,rfl⟩ o;cases e with
 |nil=>cases c
 |cons t e =>
 injection c with e1 e2;subst e1 e2;refine⟨h,?_⟩;show te (some (d t)::rest) H' _;refine p t (by rw[<- b];simp) _ ⟨?_,o _ _ _ ⟨e,j++[t],_,rfl,rfl,by simp,by rw[<- b];simp,rfl⟩⟩;have:=T_ List.length b;simp only[d_,j_] at this;rw[g_];omega
def cU:List T->Option (List Bool)
 |[]=>some []
 |.bl x::r=>(cU r).map (x::·)
 |_=>none
def mR:∀(ns:List Bool),cU (ns.map T.bl)=some ns
 |[]=>rfl
 |n::r=>by simp [cU,mR r]
def lq {K:Frag}:∀{ts:List T}{xs:List V}{us:List Value}{c:List Bool},cU ts=some c->lX K H ts xs->Vals xs us->us=c.map Value.bool
 |[],xs,us,c,e,r,v=>by
  cases e
  rw[r.inv0] at v
  cases v
  rfl
 |.bl i::l,xs,us,c,e,r,v=>by
  obtain⟨x,j,rfl,f,g⟩:=r.inv
  cases v with
  |cons a b =>
   rw[f.bl] at a
   cases d:cU l with
   |none=>simp [cU,d] at e
   |some h =>
    simp [cU,d] at e
    subst e
    cases a
    rw[lq d g b]
    rfl
 |.non::_,_,_,_,e,_,_=>by simp [cU] at e
 |.int _::_,_,_,_,e,_,_=>by simp [cU] at e
 |.str _::_,_,_,_,e,_,_=>by simp [cU] at e
 |.tup _::_,_,_,_,e,_,_=>by simp [cU] at e
 |.ref _::_,_,_,_,e,_,_=>by simp [cU] at e
 |.ty _::_,_,_,_,e,_,_=>by simp [cU] at e
def YH:T->Option Key
 |.int i=>some (.inl i)
 |.str x=>some (.inr x)
 |_=>none
def CN:List T->Option (List Key)
 |[]=>some []
 |t::r=>match YH t,CN r with
  |some k,some ks=>some (k::ks)
  |_,_=>none
def MK (k:List Key):List (List Key × T)->Option T
 |[]=>none
 | (k',v)::r=>if k'=k then some v else MK k r
def putP (k:List Key) (v:T) (kvs:List (List Key × T)):List (List Key × T) :=
 if (kvs.any fun a=>decide (a.1=k))=true then kvs.map (fun a=>if a.1=k then (a.1,v) else a) else kvs++[(k,v)]
def YJ (o:Option O3) (ts:List T) (H:lO) (Q:My):Prop:=match o with
 |some (.dcp kvs)=>oq (CN ts) fun a=>oq (MK a kvs) fun t=>Q t H
 |_=>False
def dgP (x:T) (ts:List T) (H:lO) (Q:My):Prop:=match x with
 |.ref a=>YJ (H a) ts H Q
 |_=>False
def Jo (c:Pr) (d:TA3):Pr:=fun Z H Q=>c Z H fun x b=>d Z b fun ts a=>ts.length<=sizeLine/\dgP x ts a Q
def YK (o:Option O3) (a:Addr) (ts:List T) (v:T) (H:lO) (Q:lO->Prop):Prop:=match o with
 |some (.dcp kvs)=>oq (CN ts) fun b=>kvs.length<sizeLine/\Q (fY H a (.dcp (putP b v kvs)))
 |_=>False
def dpP (x:T) (ts:List T) (v:T) (H:lO) (Q:lO->Prop):Prop:=match x with
 |.ref a=>YK (H a) a ts v H Q
 |_=>False
def Jp (a:Pr) (f:TA3) (e:Pr):TS3:=fun D Z H=>e Z H fun v d=>a Z d fun x c=>f Z c fun ts H3=>ts.length<=sizeLine/\dpP x ts v H3 fun b=>D.nx Z b
section
variable {H:lO}{Q:My}
variable {X:Cx}{o i k value:Expr}
def CP:Pr:=fun _ H Q=>∀p,H p=none->Q (.ref p) (fY H p (.dct []))
def Jq:Pr:=fun _ H Q=>∀p,H p=none->Q (.ref p) (fY H p (.dcp []))
def tL.newD {K:Frag}{H:Hp} (s:tL K H3 H) (c:H p=none):tL K (fY H3 p (.dct [])) (upd H p (.dK [])):=fun a o e=>by
 by_cases b:a=p
 ·subst b;rw[aq] at e;cases e;exact⟨[],aY,.nil⟩
 rw[aD b] at e;exact s.new c a o e
def jE:Ho X (.Dict [] [] pos) CP:=by
 refine PE.imp rW ?_;rintro Z H Q ⟨d,H3,c,e,b,h,k⟩ p a;exact k _ _ _ _ (aN a) (b.newD a) .ofRef (h p (b.fresh a))
def d1q (y:T) (p:Addr) (v:T) (H:lO) (Q:My):Prop:=match y with
 |.str k=>H p=some (.dct [])/\Q (.ref p) (fY H p (.dct [(k,v)]))
 |_=>False
def CQ (tk c:Pr):Pr:=fun Z H Q=>∀p,H p=none->tk Z (fY H p (.dct [])) fun y b=>c Z b fun v a=>d1q y p v a Q
def VH (x:Str) (p:Addr) (v:T):d1q (.str x) p v H Q=(H p=some (.dct [])/\Q (.ref p) (fY H p (.dct [(x,v)]))):=rfl
def CT (w:Ho X k tk) (A:Ho X v tv):Ho X (.Dict [some k] [v] pos) (CQ tk tv):=by
 refine PE.imp (xX (rY w A xW) rfl rfl (by simp) (by show 1<=15;decide)) ?_;rintro Z H Q ⟨n,H3,u,m,q,h,k⟩ p j;have a:tR X.K H (upd H p (.dK [])):=aN j;refine⟨n,fY H3 p (.dct []),_,m.mono a,q.newD j,h p (q.fresh j),fun y D t g c l B C=>?_⟩;refine⟨n,g,_,m.mono (a.trans c),l,C,fun z E x b f d s o=>?_⟩;cases t with
 |str key =>
  have h':b p=some (.dct [])/\u (.ref p) (fY b p (.dct [(key,x)])):=o
  obtain⟨ws,i,r⟩:=d p _ h'.1
  cases r
  refine⟨i,[(Sum.inr key,z)],by rw[(B.mono f).str];rfl,by show 1<=15;decide,?_⟩
  have e:jd [] [((Sum.inr key:Key),z)]=[((Sum.inr key:Key),z)]:=rfl
  rw[e]
  exact k _ _ _ _ (a.trans (c.trans (f.trans (bM (by rw[i];exact trivial))))) (d.wrD i (.cons ⟨rfl,s⟩ .nil)) .ofRef h'.2
 |_=>exact o.elim
def diH (a:Bool) (y:T) (o:Option O3) (H:lO) (Q:My):Prop:=match y,o with
 |.str k,some (.dct kvs)=>Q (.bl (if a then !(aP k kvs).isSome else (aP k kvs).isSome)) H
 |_,_=>False
def diq (b:Bool) (y x:T) (H:lO) (Q:My):Prop:=match x with
 |.ref a=>diH b y (H a) H Q
 |_=>False
def CV (a:Bool) (d e:Pr):Pr:=fun Z H Q=>d Z H fun y c=>e Z c fun x b=>diq a y x b Q
def VJ (b:Bool) (y:T) (a:Addr):diq b y (.ref a) H Q=diH b y (H a) H Q:=rfl
def VL (a:Bool) (k:Str) (kvs:List (Str × T)):diH a (.str k) (some (.dct kvs)) H Q=Q (.bl (if a then !(aP k kvs).isSome else (aP k kvs).isSome)) H:=rfl
def ph {K:Frag}{H:Hp}{k:Str}:∀{kvs:List (Str × T)}{vs:List (Key × V)},acK K H kvs vs->(fC vs (Sum.inr k:Key)).isSome=(aP k kvs).isSome
 |[],_,.nil=>rfl
 | (k',t')::r,_,.cons (b:=(kk,v')) ⟨e1,rv⟩ rr=>by
  simp only at e1 rv
  subst e1
  unfold aP
  by_cases a:k'=k
  ·
   rw[if_pos a,fG (by rw[a])];rfl
  ·
   rw[if_neg a,fH (by intro z;exact a (Sum.inr.inj z))]
   exact ph rr
def yx {H:Hp} (j:tL X.K H3 H) (m:Rep X.K H g x) (n:Rep X.K H d y) (q:diq c d g H3 f):
  ∃a h b,x=.ref a/\acB H a y h/\(if c then !h.isSome else h.isSome)=b/\f (.bl b) H3:=by
 cases g with
 |ref a =>
  have h':diH c d (H3 a) H3 f:=q
  cases d with
  |str k =>
   cases e:H3 a with
   |none=>rw[e] at h';exact h'.elim
   |some l =>
    rw[e] at h'
    cases l with
    |dct kvs =>
     obtain⟨ws,i,r⟩:=j a _ e
     refine⟨a,fC ws (Sum.inr k:Key),_,m.ref,by rw[n.str];exact acB.k (k:=Sum.inr k) i,rfl,?_⟩
     rw[ph r]
     exact h'
    |_=>exact h'.elim
  |_=>exact h'.elim
 |_=>exact q.elim
def gO (B:X.A.units+1<cLine) (D:Ho X i ti) (r:Ho X o td) (v:behindInMarks .In o=false:=by rfl):PT3 X (.Compare i [.In] [o] pos) (j0 (CV false ti td)):=by
 refine PT.imp (vg (PN B D r) v) ?_;rintro Z H Q ⟨n,H3,I,m,z,h,k⟩;refine⟨n,H3,_,m,z,h,fun y J G j c l C E=>⟨n,j,_,m.mono c,l,E,fun x K F s f d u w=>?_⟩⟩;obtain⟨a,p,b,e,g,t,q⟩:=yx d u (C.mono f) w;exact⟨a,p,e,g,b,by rw[show p.isSome=b from t],k _ _ _ (c.trans f) d q⟩
def pA (B:X.A.units+1<cLine) (D:Ho X i ti) (r:Ho X o td) (v:behindInMarks .NotIn o=false:=by rfl):PT3 X (.Compare i [.NotIn] [o] pos) (j0 (CV true ti td)):=by
 refine PT.imp (vg (oX B D r) v) ?_;rintro Z H Q ⟨n,H3,I,m,z,h,k⟩;refine⟨n,H3,_,m,z,h,fun y J G j c l C E=>⟨n,j,_,m.mono c,l,E,fun x K F s f d u w=>?_⟩⟩;obtain⟨a,p,b,e,g,t,q⟩:=yx d u (C.mono f) w;exact⟨a,p,e,g,b,by rw[show (!p.isSome)=b from t],k _ _ _ (c.trans f) d q⟩
end
def zX (x:T) (H:lO) (R:List T->(lO->Prop)->lO->Prop):Prop:=match x with
 |.tup ts=>R ts cL H
 |.ref a=>liO (H a) a H R
 |_=>False
def QF (ts:List T):zX (.tup ts) H R=R ts cL H:=rfl
def QG (a:Addr):zX (.ref a) H R=liO (H a) a H R:=rfl
def CW (i:Nat):TI3:=fun Z H R=>vq (Z[i]?) fun x=>zX x H R
def Jr (i:Nat):CW i Z H R=vq (Z[i]?) fun x=>zX x H R:=rfl
def Js {X:Cx}{p:Expr} (i:Nat) {f:Pos} (n:X.N[i]?=some x:=by rfl) (l:Vis X.env.scope x:=by first | exact Or.inl rfl | exact Or.inr (Or.inl rfl) | exact Or.inr (Or.inr rfl)) (j:(x==("__debug__":Str))=false:=by decide) (d:(x==("__classdict__":Str))=false:=by decide):PI3 X p (.Name x f) (CW i):=by
 intro b s Z H R I q;obtain⟨c,H3,R3,g,m,h,k⟩:=q;have h':vq (c[i]?) fun x=>zX x H3 R3:=h;cases e:c[i]? with
 |none=>rw[e] at h';exact h'.elim
 |some o =>
 cases o with
 |none=>rw[e] at h';exact h'.elim
 |some t =>
 rw[e] at h';cases t with
 |tup ts=>exact bF (v3 i n l j d) b s Z H R I ⟨c,H3,R3,g,m,by show sr i c H3 _;rw[Cy,e];exact h',k⟩
 |ref a=>exact cD (v3 i n l j d) b s Z H R I ⟨c,H3,R3,g,m,by show sr i c H3 _;rw[Cy,e];exact h',k⟩
 |_=>exact h'.elim
def aV {c:Type} (a:c->T) (xs:List c) (I:List c->St3->lO->Prop) (d:I [] Z H) (f:∀Z H,I xs Z H->still H/\D.nx Z H) (i:∀A x B Z H (N:St3->lO->Prop),xs=A++x::B->I A Z H->(∀b H',I (A++[x]) b H'->N b H')->still H/\g (a x) Z H fun Z2 H2=>tb { D with nx:=N,ct:=N,bk:=D.nx} Z2 H2):aca g tb D still (xs.map a) Z H:=by
 have:∀(B A:List c) (Z:St3) (H:lO),xs=A++B->I A Z H->aca g tb D still (B.map a) Z H:=by
  intro B;induction B with
  |nil=>intro A Z H e h;rw[W_] at e;subst e;exact f Z H h
  |cons x B j =>
  intro A Z H e h;exact i A x B Z H (aca g tb D still (B.map a)) e h fun b H' h'=>j (A++[x]) b H' (by rw[e];simp) h'
 exact this xs [] Z H rfl d
def gC {j:Type} (d:j->T) (xs:List j) (I:List j->List T->St3->lO->Prop) (k:I [] [] Z H) (l:∀a Z H,I xs a Z H->still H/\a.length<=sizeLine/\c a H) (m:∀A x B a Z H (N:List T->St3->lO->Prop),xs=A++x::B->I A a Z H->(∀f i H',I (A++[x]) f i H'->N f i H') ->
   still H/\g (d x) Z H fun Z2 H2=>tt Z2 H2 fun b H3=>if b=true then te Z2 H3 fun y H4=>a.length<sizeLine/\N (a++[y]) Z2 H4 else N a Z2 H3):Z7 g tt te still c (xs.map d) [] Z H:=by
 have:∀(B A:List j) (a:List T) (Z:St3) (H:lO),xs=A++B->I A a Z H->Z7 g tt te still c (B.map d) a Z H:=by
  intro B;induction B with
  |nil=>intro A a Z H e h;rw[W_] at e;subst e;exact l a Z H h
  |cons x B n =>
  intro A a Z H e h;exact m A x B a Z H (Z7 g tt te still c (B.map d)) e h fun f i H' h'=>n (A++[x]) f i H' (by rw[e];simp) h'
 exact this xs [] [] Z H rfl k
def Jt (b:s.heap.IsTupleIter it t i) (k:s.heap.IsTuple t a) (h:a[i]?=some x) (g:∀h',h'.IsTupleIter it t (i+1)->Heap.SameBut it s.heap h'->Q x { s with heap:=h'}):wpAny (model prog w) A (Builtin.SmallTypes.nextOf (.ref it)) Q E s:=by
 obtain⟨o,d,j,c⟩:=id b;obtain⟨l,f,_,m,e⟩:=k;unfold Builtin.SmallTypes.nextOf;refine a_ (aaf (name:=Str.ofString "__next__") b.typeIs aaV
  (aak aaV b.typeIs F.entry_tuple_iterator_next ?_ (F.args_tuple_iterator_next_1 _)))
 show wpAny _ _ (field (.ref it) 0 >>= _) _ _ s;refine a_ (Zq d c (x:=.ref t) rfl ?_);show wpAny _ _ (if (Value.ref t==Value.none)=true then _ else _) _ _ s;rw[if_neg (show ¬((Value.ref t==Value.none)=true) from G_)];show wpAny _ _ (field (.ref it) 1 >>= _) _ _ s;refine a_ (Zq d c (x:=.int i 0) rfl ?_);show wpAny _ _ (seqItems? (.ref t) >>= _) _ _ s;refine a_ (aaK f e ?_);simp only[aab,h];refine a_ (wpAny_setField d c (by simp) (k_ ⟨x,rfl,k_ (g _ ?_ (Heap.SameBut.update ..))⟩));refine⟨_,aaq _ d (Obj.isFreed_of_fields (Obj.data_mapFields c _)),(Obj.cls_mapFields ..).trans j,?_⟩;rw[Obj.data_mapFields c];simp [rawInt]
def CZ (j:A.handled=none) (c:s.heap.IsTupleIter it t i) (n:s.heap.IsTuple t b) (l:b[i]?=none) (k:∀h' e,Heap.ExtBut it s.heap h'->(∃o,h'.get? e=some o/\o.cls=.type "StopIteration")->E (.ref e) { s with heap:=h'}):wpAny (model prog w) A (Builtin.SmallTypes.nextOf (.ref it)) Q E s:=by
 obtain⟨o,f,r,g⟩:=id c;obtain⟨p,h,_,q,d⟩:=n;unfold Builtin.SmallTypes.nextOf;refine a_ (aaf (name:=Str.ofString "__next__") c.typeIs aaV
  (aak aaV c.typeIs F.entry_tuple_iterator_next ?_ (F.args_tuple_iterator_next_1 _)))
 show wpAny _ _ (field (.ref it) 0 >>= _) _ _ s;refine a_ (Zq f g (x:=.ref t) rfl ?_);show wpAny _ _ (if (Value.ref t==Value.none)=true then _ else _) _ _ s;rw[if_neg (show ¬((Value.ref t==Value.none)=true) from G_)];show wpAny _ _ (field (.ref it) 1 >>= _) _ _ s;refine a_ (Zq f g (x:=.int i 0) rfl ?_);show wpAny _ _ (seqItems? (.ref t) >>= _) _ _ s;refine a_ (aaK h d ?_);simp only[aab,l];refine a_ (wpAny_rule (a_ (wpAny_setField f g (by simp) ?_)));show wpAny _ _ (newExc (.type "StopIteration") [] >>= _) _ _ _;refine a_ ?_;simp only[newExc,newTuple];refine a_ (ZC ?_ (by size_fits));refine a_ (m:=firstArgMember _ _) (wpAny_of_eq (a:=Value.none) (by first | rfl | (simp only[firstArgMember];rfl)) ?_);refine ZC ?_ (by size_fits);simp only[raiseNew];refine a_ (wpAny_handled ?_);first | rw[show A.in1.handled=none from j] | rw[j]
 refine a_ (k_ (wpAny_throw ?_));exact k _ _ (((Heap.SameBut.update ..).extBut.push _).push _) ⟨_,t_ _ rfl,rfl⟩
def Dc (l:A.handled=none) (it t:Addr) (d:t≠it) (a:Array Value):
  Draws prog w A it [it,t] a.size (fun i v=>a[i]?=some v) (fun i h=>h.IsTupleIter it t i/\h.IsTuple t a) where
 live:=fun _ _ st=>let ⟨o,ho,_⟩:=st.1;⟨o,ho⟩
 frame:=fun _ _ _ st f=>⟨st.1.at fun o e=>f it (by simp) o e,st.2.at fun o e=>f t (by simp) o e⟩
 item:=fun i s Q E g st j=>by
  refine Jt st.1 st.2 (x:=a[i]) (by simp [g]) fun h' b c=>?_
  exact j _ h' s.toks (by simp [g]) ⟨b,st.2.extBut c.extBut d⟩ c
 done:=fun s Q E st k=>CZ l st.1 st.2 (by simp) k
structure ZAp (z ti to i1 i2:Addr) (f1 f2:List Addr):Prop where
 ne:ti≠z/\to≠z/\ti≠to/\i1≠i2
 m1:i1∈f1
 m2:i2∈f2
 n1:z∉f1/\ti∉f1/\to∉f1/\i2∉f1
 n2:z∉f2/\ti∉f2/\to∉f2/\i1∉f2
def ZAp.i1z (D:ZAp z ti to i1 i2 f1 f2):i1≠z:=fun e=>D.n1.1 (e▸D.m1)
def ZAp.i2z (D:ZAp z ti to i1 i2 f1 f2):i2≠z:=fun e=>D.n2.1 (e▸D.m2)
def ZAp.i1ti (D:ZAp z ti to i1 i2 f1 f2):i1≠ti:=fun e=>D.n1.2.1 (e▸D.m1)
def ZAp.i2ti (D:ZAp z ti to i1 i2 f1 f2):i2≠ti:=fun e=>D.n2.2.1 (e▸D.m2)
def ZAp.i1to (D:ZAp z ti to i1 i2 f1 f2):i1≠to:=fun e=>D.n1.2.2.1 (e▸D.m1)
def ZAp.i2to (D:ZAp z ti to i1 i2 f1 f2):i2≠to:=fun e=>D.n2.2.2.1 (e▸D.m2)
def z_item {Q:Value->Shared->Prop} (U:Draws prog w A i1 f1 n1 P1 S1) (D2:Draws prog w A i2 f2 n2 P2 S2) (D:ZAp z ti to i1 i2 f1 f2) (P:IsZip s.heap z ti to .none) (hI:IsPair s.heap ti (.ref i1) (.ref i2)) (hO:IsPair s.heap to a b) (h1:S1 k s.heap) (h2:S2 k s.heap) (k1:k<n1) (k2:k<n2) (hQ:∀x y h' tk,P1 k x->P2 k y->IsZip h' z ti to (rawInt s.heap.objs.size)->IsPair h' to x y->S1 (k+1) h'->S2 (k+1) h'->IsPair h' s.heap.objs.size x y->h'.objs.size=s.heap.objs.size+1 ->
   (∀c o,c∉[z,to,i1,i2]->s.heap.get? c=some o->h'.get? c=some o)->Q (.ref s.heap.objs.size) { s with heap:=h',toks:=tk}):
  wpAny (model prog w) A (Builtin.«zip.__next__» ⟨[.ref z],[]⟩) (fun fin s'=>∃v,fin=.done (.ret v)/\Q v s') E s:=by
 show wpAny _ _ (field (.ref z) 2 >>= _) _ _ _;refine a_ (Zq P rfl (x:=.bool false) rfl ?_);show wpAny _ _ (field (.ref z) 3 >>= _) _ _ _;refine a_ (Zq P rfl (x:=.ref ti) rfl ?_);refine a_ (aaK hI rfl ?_);show wpAny _ _ (Builtin.SmallTypes.ownedTupleIsFree (.ref z) >>= _) _ _ _;refine a_ ?_;unfold Builtin.SmallTypes.ownedTupleIsFree;refine a_ (Zq P rfl (x:=.none) rfl (k_ ?_));try simp only[if_true]
 refine a_ (wpAny_rule ?_);refine a_ (Zq P rfl (x:=.ref to) rfl ?_);refine a_ (aaW P (by simp) fun ha H j=>?_);replace H:IsZip ha z ti to .ellipsis:=H;refine a_ ?_;simp only[List.zipIdx_cons,List.zipIdx_nil,List.forIn_cons,List.forIn_nil];refine a_ (a_ (abR ?_));show wpAny _ _ (Builtin.SmallTypes.nextOf (.ref i1) >>= _) _ _ _;have B:∀{i:Nat} {h h':Heap} {c:Addr},S1 i h->Heap.SameBut c h h'->c∉f1->S1 i h':=fun st Z X=>U.frame _ _ _ st fun b u o e=>(Z.2 b fun q=>X (q▸u)).trans e;have r:∀{i:Nat} {h h':Heap} {c:Addr},S2 i h->Heap.SameBut c h h'->c∉f2->S2 i h':=fun st Z X=>D2.frame _ _ _ st fun b u o e=>(Z.2 b fun q=>X (q▸u)).trans e;refine a_ (U.item k _ _ _ k1 (B h1 j D.n1.1) fun x u tb px sb1 l=>k_ ?_);have J:IsPair u to a b:=(l.2 to (Ne.symm D.i1to)).trans ((j.2 to D.ne.2.1).trans hO);refine a_ (aaK J rfl ?_);refine a_ (wpAny_updateSeq_pair J fun f F n=>?_);replace F:IsPair f to x b:=F;refine a_ (wpAny_letGo (k_ ?_));refine a_ (a_ (abR ?_));show wpAny _ _ (Builtin.SmallTypes.nextOf (.ref i2) >>= _) _ _ _;have V:S2 k f:=r (r (r h2 j D.n2.1) l D.n2.2.2.2) n D.n2.2.2.1;refine a_ (D2.item k _ _ _ k2 V fun y hd td py sd2 m=>k_ ?_);have R:IsPair hd to x b:=(m.2 to (Ne.symm D.i2to)).trans F;refine a_ (aaK R rfl ?_);refine a_ (wpAny_updateSeq_pair R fun d p g=>?_);replace p:IsPair d to x y:=p;refine a_ (wpAny_letGo (k_ (k_ ?_)));refine a_ (aaK p rfl ?_);refine a_ (wpAny_newTuple ?_);have hsz:d.objs.size=s.heap.objs.size:=by rw[g.1,m.1,n.1,l.1,j.1]
 have L:IsZip d z ti to .ellipsis:=(g.2 z (Ne.symm D.ne.2.1)).trans ((m.2 z (Ne.symm D.i2z)).trans ((n.2 z (Ne.symm D.ne.2.1)).trans ((l.2 z (Ne.symm D.i1z)).trans H)));have T:∀c o,c∉[z,to,i1,i2]->s.heap.get? c=some o->d.get? c=some o:=fun c o f e=>by simp only[x_,Ze,aaB,not_or] at f;exact (g.2 c f.2.1).trans ((m.2 c f.2.2.2).trans ((n.2 c f.2.1).trans ((l.2 c f.2.2.1).trans ((j.2 c f.1).trans e))))
 have s1e:S1 (k+1) d:=B (B (B sb1 n D.n1.2.2.1) m D.n1.2.2.2) g D.n1.2.2.1;have Y:S2 (k+1) d:=r sd2 g D.n2.2.2.1;have O:z<d.objs.size:=o_ L;show wpAny _ _ (Builtin.SmallTypes.ownedTupleHandOut (.ref z) (.ref d.objs.size) >>= _) _ _ _;refine a_ ?_;unfold Builtin.SmallTypes.ownedTupleHandOut;have W:IsZip (d.push { cls:=.type "tuple",data:=.seq #[x,y]}) z ti to .ellipsis:=b_ _ L;refine a_ (aaW W (by simp) fun hg G I=>?_);replace G:IsZip hg z ti to (rawInt d.objs.size):=G;refine aaW G (by simp) fun K t C=>?_;replace t:IsZip K z ti to (rawInt d.objs.size):=t;have S:∀c o,c≠z->d.get? c=some o->K.get? c=some o:=fun c o c1 e=>(C.2 c c1).trans ((I.2 c c1).trans (b_ _ e));have M:IsPair K d.objs.size x y:=(C.2 _ (Zd O)).trans ((I.2 _ (Zd O)).trans (t_ _ rfl));have N:K.objs.size=d.objs.size+1:=by rw[C.1,I.1,ZX]
 rw[hsz] at t M N;refine k_ ⟨_,rfl,?_⟩;show Q (.ref d.objs.size) _;rw[hsz];exact hQ x y K _ px py t (S _ _ D.ne.2.1 p) (U.frame _ _ _ s1e fun b u o e=>S b o (fun q=>D.n1.1 (q▸u)) e) (D2.frame _ _ _ Y fun b u o e=>S b o (fun q=>D.n2.1 (q▸u)) e) M N fun c o f e=>S c o (fun q=>f (q▸l_)) (T c o f e)
def z_end (H:Draws prog w A i1 f1 n1 P1 S1) (M:Draws prog w A i2 f2 n2 P2 S2) (D:ZAp z ti to i1 i2 f1 f2) (G:IsZip s.heap z ti to .none) (V:IsPair s.heap ti (.ref i1) (.ref i2)) (X:IsPair s.heap to a b) (O:S1 k s.heap) (P:S2 k s.heap) (S:k=n1\/(k<n1/\k=n2)) (N:∀h' e tk,(∀c o,c∉[z,to,i1,i2]->s.heap.get? c=some o->h'.get? c=some o)->(∃o,h'.get? e=some o/\o.cls=.type "StopIteration")->E (.ref e) { s with heap:=h',toks:=tk}):
  wpAny (model prog w) A (Builtin.«zip.__next__» ⟨[.ref z],[]⟩) Q E s:=by
 show wpAny _ _ (field (.ref z) 2 >>= _) _ _ _;refine a_ (Zq G rfl (x:=.bool false) rfl ?_);show wpAny _ _ (field (.ref z) 3 >>= _) _ _ _;refine a_ (Zq G rfl (x:=.ref ti) rfl ?_);refine a_ (aaK V rfl ?_);show wpAny _ _ (Builtin.SmallTypes.ownedTupleIsFree (.ref z) >>= _) _ _ _;refine a_ ?_;unfold Builtin.SmallTypes.ownedTupleIsFree;refine a_ (Zq G rfl (x:=.none) rfl (k_ ?_));try simp only[if_true]
 refine a_ (wpAny_rule ?_);refine a_ (Zq G rfl (x:=.ref to) rfl ?_);refine a_ (aaW G (by simp) fun Z n j=>?_);replace n:IsZip Z z ti to .ellipsis:=n;refine a_ ?_;simp only[List.zipIdx_cons,List.zipIdx_nil,List.forIn_cons,List.forIn_nil];refine a_ (a_ (abR ?_));show wpAny _ _ (Builtin.SmallTypes.nextOf (.ref i1) >>= _) _ _ _;have F:∀{i:Nat} {h h':Heap} {c:Addr},S1 i h->Heap.SameBut c h h'->c∉f1->S1 i h':=fun st L g=>H.frame _ _ _ st fun b t o e=>(L.2 b fun q=>g (q▸t)).trans e;have r:∀{i:Nat} {h h':Heap} {c:Addr},S2 i h->Heap.SameBut c h h'->c∉f2->S2 i h':=fun st L g=>M.frame _ _ _ st fun b t o e=>(L.2 b fun q=>g (q▸t)).trans e;rcases S with rfl | ⟨R,rfl⟩
 ·refine a_ (H.done _ _ _ (F O j D.n1.1) fun t e d ⟨K,f,m⟩=>?_);have u:IsZip t z ti to .ellipsis:=d z _ (Ne.symm D.i1z) n;have p:e≠z:=fun x=>by subst x;rw[u] at f;cases f;simp at m
  refine aaW u (by simp) fun I _ l=>N I e _ (fun c o g x=>?_) ⟨K,(l.2 e p).trans f,m⟩;simp only[x_,Ze,aaB,not_or] at g;exact (l.2 c g.1).trans (d c _ g.2.2.1 ((j.2 c g.1).trans x))
 refine a_ (H.item k _ _ _ R (F O j D.n1.1) fun x t tb px W d=>k_ ?_);have y:IsPair t to a b:=(d.2 to (Ne.symm D.i1to)).trans ((j.2 to D.ne.2.1).trans X);refine a_ (aaK y rfl ?_);refine a_ (wpAny_updateSeq_pair y fun I T l=>?_);refine a_ (wpAny_letGo (k_ ?_));refine a_ (a_ (abR ?_));show wpAny _ _ (Builtin.SmallTypes.nextOf (.ref i2) >>= _) _ _ _;have J:S2 k I:=r (r (r P j D.n2.1) d D.n2.2.2.2) l D.n2.2.2.1;refine a_ (M.done _ _ _ J fun Y e B ⟨K,f,m⟩=>?_);have C:IsZip Y z ti to .ellipsis:=B z _ (Ne.symm D.i2z) ((l.2 z (Ne.symm D.ne.2.1)).trans ((d.2 z (Ne.symm D.i1z)).trans n));have p:e≠z:=fun x=>by subst x;rw[C] at f;cases f;simp at m
 refine aaW C (by simp) fun U _ v=>N U e _ (fun c o g x=>?_) ⟨K,(v.2 e p).trans f,m⟩;simp only[x_,Ze,aaB,not_or] at g;exact (v.2 c g.1).trans (B c _ g.2.2.2 ((l.2 c g.2.1).trans ((d.2 c g.2.2.1).trans ((j.2 c g.1).trans x))))
def Ju (i:Draws prog w A.in1 i1 f1 n1 P1 S1) (u:Draws prog w A.in1 i2 f2 n2 P2 S2) (D:ZAp z ti to i1 i2 f1 f2) (e:IsZip s.heap z ti to .none) (t:IsPair s.heap ti (.ref i1) (.ref i2)) (v:IsPair s.heap to a b) (H:S1 k s.heap) (h:S2 k s.heap) (j:k<n1) (f:k<n2) (G:∀x y h' tk,P1 k x->P2 k y->IsZip h' z ti to (rawInt s.heap.objs.size)->IsPair h' to x y->S1 (k+1) h'->S2 (k+1) h'->IsPair h' s.heap.objs.size x y->h'.objs.size=s.heap.objs.size+1 ->
   (∀c o,c∉[z,to,i1,i2]->s.heap.get? c=some o->h'.get? c=some o)->Q (some (.ref s.heap.objs.size)) { s with heap:=h',toks:=tk}):wpAny (model prog w) A (pyNext (.ref z)) Q E s:=by
 have d:s.TypeIs (.ref z) "zip":=⟨_,e,rfl⟩;unfold pyNext;exact a_ (wpAny_attempt (aaf (name:=Str.ofString "__next__") d F.slot_zip_next
  (aak F.slot_zip_next d F.entry_zip_next (z_item i u D e t v H h j f fun x y h' tk p g B l n C r q m=>k_ (G x y h' tk p g B l n C r q m)) (F.args_zip_next_1 _))))
def Dd (m:Draws prog w A.in1 i1 f1 n1 P1 S1) (n:Draws prog w A.in1 i2 f2 n2 P2 S2) (D:ZAp z ti to i1 i2 f1 f2) (d:IsZip s.heap z ti to .none) (t:IsPair s.heap ti (.ref i1) (.ref i2)) (r:IsPair s.heap to a b) (p:S1 k s.heap) (i:S2 k s.heap) (l:k=n1\/(k<n1/\k=n2)) (j:∀h' tk,(∀c o,c∉[z,to,i1,i2]->s.heap.get? c=some o->h'.get? c=some o)->Q none { s with heap:=h',toks:=tk}):wpAny (model prog w) A (pyNext (.ref z)) Q E s:=by
 have f:s.TypeIs (.ref z) "zip":=⟨_,d,rfl⟩;unfold pyNext;refine a_ (wpAny_attempt (aaf (name:=Str.ofString "__next__") f F.slot_zip_next
  (aak F.slot_zip_next f F.entry_zip_next (z_end m n D d t r p i l fun h' e tk g ⟨o,h,q⟩=>?_) (F.args_zip_next_1 _))))
 refine a_ (wpAny_isInstance (T:="StopIteration") (b:=true) ⟨o,h,q⟩ isSubtype_stop ?_);exact k_ (j _ _ g)
abbrev MN (t:Addr):Obj:={ cls:=.type "tuple_iterator",data:=.fields #[.ref t,.int 0 0]}
def De (f:A.handled=none) (it t:Addr) (d:t≠it) (a:Array Value) (k:Nat) (b:a[k]?=none):
  Draws prog w A it [it,t] k (fun _ _=>True) (fun i h=>i=k/\h.IsTupleIter it t i/\h.IsTuple t a) where
 live:=fun _ _ st=>let ⟨o,ho,_⟩:=st.2.1;⟨o,ho⟩
 frame:=fun _ _ _ st b=>⟨st.1,st.2.1.at fun o e=>b it (by simp) o e,st.2.2.at fun o e=>b t (by simp) o e⟩
 item:=fun i s Q E g st j=>absurd st.1 (K_ g)
 done:=fun s Q E st c=>CZ f st.2.1 st.2.2 b c
section
variable {X:Cx}{pins:List (Addr × Obj)}{Z:L2.St}
def iK {ch:List Addr} (I:Inv X pins Z H s) (k:∀b o,b∉ch->s.heap.get? b=some o->h'.get? b=some o) (f:∀b∈ch,my X pins H b):Inv X pins Z H { s with heap:=h',toks:=t'}:=by
 have d:∀b u,H b=some u->b∉ch:=fun b u e z=>by rw[(f b z).1] at e;cases e
 refine I.step (g':=s.gens) (d':=s.drawn) (ch:=ch) (fun b t=>?_) (fun b o _ _ a e _=>k b o a e) (fun b o _ _ a e _=>⟨o.slots,k b o a e⟩) (fun _ _ _ _ n=>n)
  (fun b o a e=>⟨o,k b o a e⟩) (fun _ _ e=>e) (fun _ _ _ e=>e) (fun b ps e=>⟨#[],by rw[e];simp⟩) (fun m p=>?_) (fun b u e=>?_) I.bare
 ·obtain⟨_,w,_,j,i,h⟩:=f b t;exact⟨j,w,i,h⟩
 ·obtain⟨o,l,ep,g,r⟩:=p;exact⟨o,l,ep,k _ o (fun z=>(f _ z).2.1 rfl) g,r⟩
 refine (I.hok b u e).stay (fun c v a q=>k c v ?_ q) (fun _ q=>q) fun _ _ q=>q;rcases a with z | z
 ·rw[z];exact d b u e
 exact d c _ z
end
def nm2 {x p q:Addr}(a:x≠p) (b:x≠q):x∉[p,q]:=fun h=>by
 rcases x_.mp h with e | e
 ·exact a e
 exact b (i_.mp e)
def zap (d:a<c/\b<c) (f:c<e) (m:e<g) (i:g<h) (l:h<z):ZAp z g h c e [c,a] [e,b] :=
 have j:c<g:=Zo f m
 have k:c<h:=Zo j i
 have n:c<z:=Zo k l
 have o:e<h:=Zo m i
 have q:e<z:=Zo o l
 have p:g<z:=Zo i l
 ⟨⟨K_ p,K_ l,K_ i,K_ f⟩,l_,l_,
  ⟨nm2 (Zd n) (Zd (Zo d.1 n)),nm2 (Zd j) (Zd (Zo d.1 j)),nm2 (Zd k) (Zd (Zo d.1 k)),nm2 (Zd f) (Zd (Zo d.1 f))⟩,
  ⟨nm2 (Zd q) (Zd (Zo d.2 n)),nm2 (Zd m) (Zd (Zo d.2 j)),nm2 (Zd o) (Zd (Zo d.2 k)),nm2 (K_ f) (Zd d.2)⟩⟩
def gP:List T->List T->List T
 |x::xs,y::ys=>.tup [x,y]::gP xs ys
 |_,_=>[]
def tD:∀(xs a:List T) (i:Nat),(gP xs a)[i]?=(match xs[i]?,a[i]? with
  |some x,some y=>some (.tup [x,y])
  |_,_=>none)
 |[],a,i=>by simp [gP]
 |x::xs,[],i=>by
  simp only[gP,List.getElem?_nil]
  cases (x::xs)[i]? <;> rfl
 |x::xs,y::a,0=>by simp [gP]
 |x::xs,y::a,i+1=>by simp only[gP,aas];exact tD xs a i
def tG:∀(xs a:List T),(gP xs a).length=min xs.length a.length
 |[],a=>by simp [gP]
 |x::xs,[]=>by simp [gP]
 |x::xs,y::a=>by simp [gP,tG xs a]
def Df:bootBuiltins "zip"=some (.type "zip"):=by decide +kernel
def tH {o:Type} (m l f:o->T) (e:List o) (rest:St3) (g:still H) (s:e.length<=sizeLine) (q:∀a∈e,∀Q:My,Q (f a) H->te (some (m a)::some (l a)::rest) H Q) (k:j (e.map f) H):
  Z7 (sy 2 (jg (fJ 0) (jg (fJ 1) yc))) yf te still j (e.map fun a=>.tup [m a,l a]) [] (v::u::rest) H:=by
 refine jD (fun r n Z H'=>∃(d i:List o) (v u:Option T),Z=v::u::rest/\r=d.map (fun a=>.tup [m a,l a])/\n=i.map f/\i++d=e/\H'=H) ⟨e,[],v,u,rfl,rfl,rfl,rfl,rfl⟩ ?_ ?_
 ·rintro n Z H' ⟨d,i,v,u,rfl,c,rfl,b,rfl⟩;have h:d=[]:=aba.mp c.symm;subst h;rw[W_] at b;subst b;exact⟨g,by rw[g_];exact s,k⟩
 rintro x r n Z H' N ⟨d,i,v,u,rfl,c,rfl,b,rfl⟩ p;cases d with
 |nil=>cases c
 |cons t d =>
 injection c with a1 a2;subst a1 a2;refine⟨g,rfl,?_⟩;show te (some (m t)::some (l t)::rest) H' _;refine q t (by rw[<- b];simp) _ ⟨?_,p _ _ _ ⟨d,i++[t],_,_,rfl,rfl,by simp,by rw[<- b];simp,rfl⟩⟩;have:=T_ List.length b;simp only[d_,j_] at this;rw[g_];omega
section
variable {H:lO}{Q:My}
def QH (x:T):o9 [x,.ty "str"] H Q=oq (isT "str" x H) fun b=>Q (.bl b) H:=by rw[yt];exact propext ⟨fun h=>h.2,fun h=>⟨by simp,h⟩⟩
def vW (x:Str):isT "str" (.str x) H=some true:=rfl
def vX (x:Int):isT "str" (.int x) H=some false:=rfl
def vY (x:List T):isT "str" (.tup x) H=some false:=rfl
def zY (x:Bool):isT "str" (.bl x) H=some false:=rfl
def vZ  : isT "str" (.non) H=some false:=rfl
def QJ (x:T):o9 [x,.ty "int"] H Q=oq (isT "int" x H) fun b=>Q (.bl b) H:=by rw[yt];exact propext ⟨fun h=>h.2,fun h=>⟨by simp,h⟩⟩
def wg (x:Str):isT "int" (.str x) H=some false:=rfl
def wj (x:Int):isT "int" (.int x) H=some true:=rfl
def wu (x:List T):isT "int" (.tup x) H=some false:=rfl
def zZ (x:Bool):isT "int" (.bl x) H=some true:=rfl
def ww  : isT "int" (.non) H=some false:=rfl
def Jv (x:T):o9 [x,.ty "bool"] H Q=oq (isT "bool" x H) fun b=>Q (.bl b) H:=by rw[yt];exact propext ⟨fun h=>h.2,fun h=>⟨by simp,h⟩⟩
def tK (x:Str):isT "bool" (.str x) H=some false:=rfl
def tM (x:Int):isT "bool" (.int x) H=some false:=rfl
def tO (x:List T):isT "bool" (.tup x) H=some false:=rfl
def wy (x:Bool):isT "bool" (.bl x) H=some true:=rfl
def tQ  : isT "bool" (.non) H=some false:=rfl
def Dg (x:T):o9 [x,.ty "tuple"] H Q=oq (isT "tuple" x H) fun b=>Q (.bl b) H:=by rw[yt];exact propext ⟨fun h=>h.2,fun h=>⟨by simp,h⟩⟩
def qw (x:Str):isT "tuple" (.str x) H=some false:=rfl
def qz (x:Int):isT "tuple" (.int x) H=some false:=rfl
def qC (x:List T):isT "tuple" (.tup x) H=some true:=rfl
def tU (x:Bool):isT "tuple" (.bl x) H=some false:=rfl
def qD  : isT "tuple" (.non) H=some false:=rfl
def tV (x:Str):isT "list" (.str x) H=some false:=rfl
def tW (x:Int):isT "list" (.int x) H=some false:=rfl
def tX (x:List T):isT "list" (.tup x) H=some false:=rfl
def wz (x:Bool):isT "list" (.bl x) H=some false:=rfl
def tY  : isT "list" (.non) H=some false:=rfl
def lN {b:Type} [DecidableEq b] (a:b):decide (a=a)=true:=L_ rfl
end
open L2 PySem.Builtin PySem.Builtin.Str
def qF:bootBuiltins "enumerate"=some (.type "enumerate"):=by decide +kernel
def ngq (x:T) (H:lO) (Q:My):Prop:=match x with
 |.int i=>Q (.int (-i)) H
 |_=>False
def MP (b:Pr):Pr:=fun Z H Q=>b Z H fun x a=>ngq x a Q
def VM (a:Pr) {Z:St3}{H:lO}{Q:My}:MP a Z H Q=a Z H fun x b=>ngq x b Q:=rfl
def VN (i:Int) {H:lO}{Q:My}:ngq (.int i) H Q=Q (.int (-i)) H:=rfl
def wA (j:Ho X a ta):Ho X (.UnaryOp .USub a pos) (MP ta):=by
 refine PE.imp (Ue Pj j) ?_;rintro Z H Q ⟨d,H3,l,e,f,h,k⟩;refine⟨d,H3,_,e,f,h,fun v H' t c g b r q=>?_⟩;cases t with
 |int i=>exact⟨i,r.int,k _ _ _ _ g b .ofInt q⟩
 |_=>exact q.elim
def gY (k:Int):List T->List T
 |[]=>[]
 |x::r=>.tup [.int k,x]::gY (k+1) r
def pB:∀(k:Int) (xs:List T) (i:Nat),(gY k xs)[i]?=xs[i]?.map fun x=>.tup [.int (k+i),x]
 |_,[],i=>by simp [gY]
 |k,x::xs,0=>by simp [gY]
 |k,x::xs,i+1=>by
  simp only[gY,aas]
  rw[pB (k+1) xs i]
  have:k+1+(i:Int)=k+((i+1:Nat):Int):=by omega
  rw[this]
def pC:∀(k:Int) (xs:List T),(gY k xs).length=xs.length
 |_,[]=>rfl
 |k,x::xs=>by simp [gY,pC (k+1) xs]
def tZ (l:Addr) (a:Array Value) (n:Nat) (e:Option Addr) (m:Array (Option Value)) :
  Meets (Builtin.«enumerate.__new__» ⟨[.type "enumerate",.ref l],[]⟩) (fun _ R s=>s.heap.get? l=some { cls:=.type "tuple",dict:=e,data:=.seq a n,slots:=m} /\
   R (.ok (.ret (.ref (s.heap.push { cls:=.type "tuple_iterator",data:=.fields #[.ref l,.int 0 0]}).objs.size)))
    { s with heap:=(s.heap.push { cls:=.type "tuple_iterator",data:=.fields #[.ref l,.int 0 0]}).push { cls:=.type "enumerate",data:=.fields #[.none,.bool false,.ref s.heap.objs.size,rawInt 0,.none,.none]}}) :=
 .of_wp fun prog w A R s h=>by
  obtain⟨j,g,d,tk,k⟩:=s;obtain⟨b,h⟩:=h;have i:=sub_enumerate;have f:Heap.IsTuple (Shared.heap ⟨j,g,d,tk,k⟩) l a:=⟨_,b,rfl,n,rfl⟩
  wp_walk using aa8 b
  refine wpAny_stack_any fun st=>k_ ?_;split
  ·rename_i c _ _ _ _ _;cases (c==Value.type "enumerate")
   ·wp_walk using aa8 b,abj f
    exact⟨_,rfl,h⟩
   wp_walk using aa8 b,abj f
   exact⟨_,rfl,h⟩
  wp_walk using aa8 b,abj f
  exact⟨_,rfl,h⟩
def jm {s:Shared} (p:s.heap.IsTuple l a) (h:∀h',IsEnum h' (s.heap.objs.size+1) s.heap.objs.size 0 .none->h'.IsTupleIter s.heap.objs.size l 0->h'.objs.size=s.heap.objs.size+2 ->
   (∀b o,s.heap.get? b=some o->h'.get? b=some o)->Q (.ref (s.heap.objs.size+1)) { s with heap:=h'}):
  wpAny (model prog w) A (call (.type "enumerate") [.ref l]) Q E s:=by
 obtain⟨⟨c,e,k,m⟩,q,g,n,d⟩:=p;replace g:c=.type "tuple":=g;replace d:k=.seq a n:=d;subst g d;refine callType_new F.called_enumerate (by decide) (F.typeCall_enumerate_1 _) (F.newCall_enumerate_1 _) (fun f=>F.args_object_init_2 f _) F.entry_enumerate_new
  (tZ l a n e m) ⟨q,?_⟩
 have i:(s.heap.push { cls:=.type "tuple_iterator",data:=.fields #[.ref l,.int 0 0]}).objs.size=s.heap.objs.size+1:=ZX ..;show _/\_;rw[i];have j:IsEnum ((s.heap.push { cls:=.type "tuple_iterator",data:=.fields #[.ref l,.int 0 0]}).push
   { cls:=.type "enumerate",data:=.fields #[.none,.bool false,.ref s.heap.objs.size,rawInt 0,.none,.none]}) (s.heap.objs.size+1) s.heap.objs.size 0 .none:=by
  have:=t_ (s.heap.push { cls:=.type "tuple_iterator",data:=.fields #[.ref l,.int 0 0]})
   (o:={ cls:=.type "enumerate",data:=.fields #[.none,.bool false,.ref s.heap.objs.size,rawInt 0,.none,.none]}) rfl
  rw[i] at this;exact this
 refine⟨⟨_,j,rfl⟩,h _ j ⟨_,b_ _ (t_ _ rfl),rfl,rfl⟩ (by rw[ZX,i]) fun b o x=>b_ _ (b_ _ x)⟩
def QK (K:Frag) (a:Addr):It :=
 ⟨fun i H=>∃xs x,SqT K H a xs/\xs[i]?=some x,
  fun i H v H'=>∃p x,v=.ref p/\H p=none/\H'=upd H p (.tup [.int (i:Int),x])/\∀xs,SqT K H a xs->xs[i]?=some x,
  fun i H=>∃xs,SqT K H a xs/\xs.length<=i⟩
def wB {K:Frag} (a it e:Addr) (Y:a<it) (l2:it<e):
  Turn P w K (.Tuple F x1 pos) (QK K a) [e,it] e (fun i h=>(∃f,IsEnum h e it (i:Int) f)/\h.IsTupleIter it a i) where
 mem:=l_
 obj:=fun i h st c d=>by
  obtain⟨⟨f,l⟩,⟨o1,V,_,d1⟩⟩:=st
  simp only[x_,Ze,aaB] at d
  rcases d with rfl | rfl
  ·
   exact⟨_,l,fun v z=>by cases z⟩
  ·
   exact⟨_,V,fun v z=>by rw[d1] at z;cases z⟩
 keep:=fun i h h' st k=>by
  obtain⟨⟨f,l⟩,t⟩:=st
  exact⟨⟨f,k e (by simp) _ l⟩,t.at fun o q=>k it (by simp) o q⟩
 item:=by
  intro X hP W S d i g s Z H E I L st U
  subst hP W S
  obtain⟨xs,x,N,hx⟩:=U
  obtain⟨j,Q,p,hz⟩:=I.tuple N
  obtain⟨u,hu,ru⟩:=Q.get hx
  obtain⟨⟨f,l⟩,t⟩:=st
  have J:j.toArray[i]?=some u:=by simpa using hu
  have r:a≠it:=K_ Y
  have m:e≠it:=Zd l2
  have R:e≠a:=Zd (Zo Y l2)
  have hef:e∉[it,a]:=by simp [m,R]
  have D:=Dc (prog:=X.prog) (w:=X.w) (A:=X.A.in1) (I.ok.hd d) it a r j.toArray
  refine wpAny_pyNext_enum_itemD (i:=i) D l ⟨t,p⟩ (aai.mp J).1 m hef fun n h' tk px ho hs' hT hsz kp=>?_
  have V:n=u:=F_ (px.symm.trans J)
  subst V
  obtain⟨hs1,hs2⟩:=hs'
  refine⟨_,rfl,wpAny_letOwnedTupleGo_enum ho fun B G sb=>?_⟩
  have kp2:∀c o,c∉[e,it]->s.heap.get? c=some o->B.get? c=some o:=fun c o C q=>(sb.2 c fun z=>C (z▸l_)).trans (kp c o (fun z=>C (z▸l_)) (fun z=>C (by simp [z])) q)
  have lt:∀{c o},s.heap.get? c=some o->s.heap.objs.size≠c:=fun q=>Zd (o_ q)
  have M:∀{c:Addr},c∈[e,it]->c≠s.heap.objs.size:=fun {c} d=>by
   simp only[x_,Ze,aaB] at d
   rcases d with q | q <;> subst q
   ·
    exact Ne.symm (lt l)
   ·
    obtain⟨o,q,_⟩:=t;exact Ne.symm (lt q)
  have O:s.heap.objs.size≠e:=lt l
  have I1:Inv X g Z (upd H s.heap.objs.size (.tup [.int (i:Int),x])) { s with heap:=s.heap.push { cls:=.type "tuple",data:=.seq #[.int (i:Int) tk,n]},toks:=tk+1} :=
   I.laid (t':=tk+1) (fun b o q=>b_ _ q) (m_ _) (show zc X.prog X.w _ _ _ (.tup [.int (i:Int),x]) from ⟨by show 2<=sizeLine;decide,[.int (i:Int) tk,n],.cons ⟨tk,rfl⟩ (.cons ru .nil),acR.new _ _⟩)
  have I2:Inv X g Z (upd H s.heap.objs.size (.tup [.int (i:Int),x])) { s with heap:=B,toks:=tk+1}:=iK (s:={ s with heap:=s.heap.push { cls:=.type "tuple",data:=.seq #[.int (i:Int) tk,n]},toks:=tk+1}) (ch:=[e,it]) (t':=tk+1) I1 (fun c o C q=>by
   by_cases z:c=s.heap.objs.size
   ·
    subst z
    have y:(s.heap.push { cls:=.type "tuple",data:=.seq #[.int (i:Int) tk,n]}).get? s.heap.objs.size=some o:=q
    rw[t_ _ rfl] at y
    cases y
    exact (sb.2 _ O).trans hT
   ·
    have y:(s.heap.push { cls:=.type "tuple",data:=.seq #[.int (i:Int) tk,n]}).get? c=some o:=q
    rw[Heap.get?_push_ne _ _ _ z] at y
    exact kp2 c o C y) fun c d=>⟨by rw[aK (M d)];exact (L c d).1,(L c d).2⟩
  refine⟨.ref s.heap.objs.size,_,I2,rfl,⟨s.heap.objs.size,x,rfl,I.hok.fresh (m_ _),rfl,fun zs T=>by rw[I.tuple_inj T N];exact hx⟩,⟨⟨n,?_⟩,hs1.at fun o q=>(sb.2 it (Ne.symm m)).trans q⟩,fun c d=>by rw[aK (M d)];exact (L c d).1⟩
  exact G
 done:=by
  intro X hP W S d i g s Z H E I L st U
  subst hP W S
  obtain⟨xs,N,hx⟩:=U
  obtain⟨j,Q,p,hz⟩:=I.tuple N
  obtain⟨⟨f,l⟩,t⟩:=st
  have hl:=Q.length
  have r:a≠it:=K_ Y
  have D:=De (prog:=X.prog) (w:=X.w) (A:=X.A.in1) (I.ok.hd d) it a r j.toArray i (by simp;omega)
  exact wpAny_pyNext_enum_endD D l ⟨rfl,t,p⟩ fun h' eb=>⟨rfl,iK (ch:=[e,it]) (t':=s.toks) I (fun b o nb q=>eb b o (fun z=>nb (by simp [z])) q) L⟩
 self:=fun _ _ _ _ _ st h=>wpAny_pyIter_enum st.1.choose_spec h
section
variable {elts:List Expr}{x1:Nat}{tpos pos p:Pos}
def QL (K:Frag) (te:TE):TI:=fun Z H R=>te Z H fun x b=>∃a,x=.ref a/\(∃xs,SqT K b a xs)/\R (QK K a) b
def Dh (w:Gl X "enumerate") (B:X.mg "enumerate"=none) (y:PE X e te) (l:starEach [e] X.env=(false,eval e X.env)::starEach [] X.env:=by rfl) (i:(backTo pos (starEach [] X.env)).any (·.1)=false:=by rfl):
  PI X (.Tuple elts x1 tpos) (.Call (.Name "enumerate" p) [e] [] pos) (QL X.K te):=by
 intro d s Z H R I h;refine ZF (fX I w B qF ?_ (by decide) (by decide));refine Zv ?_ l i;rw[l];show wpAny _ _ (spliced ((false,eval e X.env)::backTo pos (starEach [] X.env))) _ _ s;refine aaG (Ob (y d s Z H _ I h) fun u b ⟨x,A,g,C,a,E,⟨xs,r⟩,q⟩=>?_);subst E;cases C;refine aa4 ?_;obtain⟨t,F,j,_⟩:=g.tuple r;have v:a<b.heap.objs.size:=let ⟨o,e,_⟩:=j;o_ e;refine jm j fun h' m n G D=>wpAny_pyIter_enum m ?_;refine⟨b.heap.objs.size+1,[b.heap.objs.size+1,b.heap.objs.size],_,_,A,rfl,g.kept (t':=b.toks) D,wB a b.heap.objs.size (b.heap.objs.size+1) v (ZZ _),⟨⟨.none,m⟩,n⟩,fun c k=>?_,q⟩;have f:b.heap.objs.size<=c:=by
  simp only[x_,Ze,aaB] at k;rcases k with z | z <;> subst z
  ·exact aaE _
  exact m_ _
 exact g.fpOk f (g.hok.fresh f)
def QM (x:T) (H:lO) (R:List T->(lO->Prop)->lO->Prop):Prop:=match x with
 |.tup ts=>R (gY 0 ts) cL H
 |_=>False
def yz (te:Pr):TI3:=fun Z H R=>te Z H fun x a=>QM x a R
def Di (te:Pr):yz te Z H R=te Z H fun x a=>QM x a R:=rfl
def QQ (ts:List T):QM (.tup ts) H R=R (gY 0 ts) cL H:=rfl
def wC {K:Frag} (l:SqT K H a xs) (f:lX K H ts xs):jx K (QK K a) (gY 0 ts) cL H:=fun H' c h n st=>by
 have s:=f.length;have b:=h _ _ l;refine⟨fun i k=>⟨xs,b,by rw[pC] at k;omega⟩,fun i t e=>?_⟩;rw[pB] at e;cases q:ts[i]? with
 |none=>rw[q] at e;cases e
 |some x =>
 rw[q] at e;cases e;obtain⟨v,g,j⟩:=f.get q;refine⟨⟨xs,v,b,g⟩,fun z m y=>?_⟩;obtain⟨p,r,rfl,d,rfl,o⟩:=y;have:=(o xs b).symm.trans g;cases this;refine⟨aN d,n.new d,?_⟩;rw[show (0:Int)+(i:Int)=(i:Int) from by omega];exact tL.newTup (H3:=c) d (.cons .ofInt (.cons (j.mono h) .nil))
def Dj (s:Gl X "enumerate") (m:X.mg "enumerate"=none) (u:Ho X e te) (o:starEach [e] X.env=(false,eval e X.env)::starEach [] X.env:=by rfl) (c:(backTo pos (starEach [] X.env)).any (·.1)=false:=by rfl):
  PI3 X (.Tuple elts x1 tpos) (.Call (.Name "enumerate" p) [e] [] pos) (yz te):=by
 refine PI.imp (Dh s m u o c) ?_;rintro Z H R ⟨i,H3,R3,j,l,h,k⟩;refine⟨i,H3,_,j,l,h,fun v H' t b n d r q=>?_⟩;cases t with
 |tup ts=>obtain⟨a,xs,rfl,f,g⟩:=r.tup;exact⟨a,rfl,⟨xs,f⟩,k _ _ cL H' b n d (wC f g) q⟩
 |_=>exact q.elim
def anH (o:Option O3) (H:lO) (Q:My):Prop:=match o with
 |some (.lst xs)=>oq (cU xs) fun a=>Q (.bl (a.any id)) H
 |some (.rol xs)=>oq (cU xs) fun a=>Q (.bl (a.any id)) H
 |_=>False
def MT:List T->lO->My->Prop:=fun ts H Q=>match ts with
 |[.ref a]=>anH (H a) H Q
 |_=>False
def VP (a:Addr):MT [.ref a] H Q=anH (H a) H Q:=rfl
def VR (xs:List T):anH (some (.lst xs)) H Q=oq (cU xs) fun a=>Q (.bl (a.any id)) H:=rfl
def any_range (d:List Bool):(List.range d.length).any (fun i=>d.getD i true)=d.any id:=by
 rw[Zk,aal,aal];constructor
 ·rintro⟨i,c,h⟩;have a:=Zf.mp c;refine⟨d[i],Zw a,?_⟩;simpa [List.getD,a] using h
 rintro⟨b,e,h⟩;obtain⟨i,c,rfl⟩:=List.mem_iff_getElem.mp e;refine⟨i,Zf.mpr c,?_⟩;simpa [List.getD,c] using h
def QR (L:X.calm=true):dz X (.builtin "any") MT:=by
 intro p s Z H xs us Q I N h;obtain⟨ts,H3,J,r,F,h,k⟩:=h
 match ts,h,r with
 |[.ref a],h,r =>
 obtain⟨v,rfl,y⟩:=r.one';obtain⟨u,rfl,G⟩:=vals1 N;rw[y.ref] at G;cases G;have f:∀{g:List T} {t:List V},SqL X.K H a t->lX X.K H g t->oq (cU g) (fun d=>J (.bl (d.any id)) H3)->wpAny (model X.prog X.w) X.A (call (.builtin "any") [.ref a]) (EP X p Z Q) X.xe s:=by
  intro g t m l q;cases e:cU g with
  |none=>rw[e] at q;exact q.elim
  |some d =>
  rw[e] at q;obtain⟨M,E,B,_⟩:=I.list m;have S:=lq e l E;subst S;have D:a≠s.heap.objs.size:=fun z=>by obtain⟨o,n,j,_⟩:=B;have:=o_ j;rw[z] at this;exact Zr _ this
  refine call_any_walk (wpAny_pyIter_list B.isList ?_);refine⟨s.heap.objs.size,_,_,_,_,_,fun i=>d.getD i true,rfl,Walks.list (A:=X.A.in1) (I.ok.hd L) s.heap.objs.size a D (d.map Value.bool).toArray,⟨⟨_,t_ _ rfl,rfl,rfl⟩,B.isList.push _⟩,fun i v s' W U P x=>?_,fun h' tk O=>?_⟩
  ·have c:(d.map Value.bool)[i]?=some v:=by simpa using P
   rw[B_] at c;cases C:d[i]? with
   |none=>rw[C] at c;cases c
   |some b =>
   rw[C] at c;cases c;have:d.getD i true=b:=by simp [List.getD,C]
   dsimp only at x;rw[this] at x;exact aaM x
  have R:(d.map Value.bool).toArray.size=d.length:=by simp
  rw[R,any_range];refine⟨.bl (d.any id),H,I.kept fun b o e=>O b o (fun z=>?_) (b_ _ e),rfl,k _ _ _ _ .refl F .ofBl q⟩;have:=o_ e;rw[i_.mp z] at this;exact Zr _ this
 have h':anH (H3 a) H3 J:=h;cases j:H3 a with
 |none=>rw[j] at h';exact h'.elim
 |some o =>
 rw[j] at h';cases o with
 |lst g=>obtain⟨t,m,l⟩:=F.sqL (.inl j);exact f m l h'
 |rol g=>obtain⟨t,m,l⟩:=F.sqL (.inr j);exact f m l h'
 |_=>exact h'.elim
def Dk:List T->lO->My->Prop:=fun ts H Q=>match ts with
 |[.int i,.int j]=>Q (.int (if j>i then j else i)) H
 |_=>False
def Dl:List T->lO->My->Prop:=fun ts H Q=>match ts with
 |[.int i,.int j]=>Q (.int (if j<i then j else i)) H
 |_=>False
def QS (i j:Int):Dk [.int i,.int j] H Q=Q (.int (if j>i then j else i)) H:=rfl
def QT (i j:Int):Dl [.int i,.int j] H Q=Q (.int (if j<i then j else i)) H:=rfl
def Jw (m:X.calm=true):dz X (.builtin "max") Dk:=by
 intro b s Z H xs us Q I d h;obtain⟨ts,H3,o,r,g,h,k⟩:=h
 match ts,h,r with
 |[.int i,.int j],h,r =>
 obtain⟨v,u,rfl,l,f⟩:=r.two';obtain⟨q,p,rfl,c,a⟩:=vals2 d;rw[l.int] at c;rw[f.int] at a;obtain⟨n,rfl⟩:=c;obtain⟨t,rfl⟩:=a;refine max_two_ints (I.ok.hd m) fun h' tk e=>?_;refine⟨.int (if j>i then j else i),H,I.kept e,?_,k _ _ _ _ .refl g .ofInt h⟩;by_cases z:j>i
 ·rw[if_pos z,if_pos z];exact⟨_,rfl⟩
 rw[if_neg z,if_neg z];exact⟨_,rfl⟩
def Jx (m:X.calm=true):dz X (.builtin "min") Dl:=by
 intro b s Z H xs us Q I d h;obtain⟨ts,H3,o,r,g,h,k⟩:=h
 match ts,h,r with
 |[.int i,.int j],h,r =>
 obtain⟨v,u,rfl,l,f⟩:=r.two';obtain⟨q,p,rfl,c,a⟩:=vals2 d;rw[l.int] at c;rw[f.int] at a;obtain⟨n,rfl⟩:=c;obtain⟨t,rfl⟩:=a;refine min_two_ints (I.ok.hd m) fun h' tk e=>?_;refine⟨.int (if j<i then j else i),H,I.kept e,?_,k _ _ _ _ .refl g .ofInt h⟩;by_cases z:j<i
 ·rw[if_pos z,if_pos z];exact⟨_,rfl⟩
 rw[if_neg z,if_neg z];exact⟨_,rfl⟩
def Dm:d8 X (binaryOp .BitAnd) (sI fun i j=>.int (Builtin.bitAnd i j)):=o7 Ph fun _ _ _=>.ofInt
def V0:d8 X (binaryOp .BitOr) (sI fun i j=>.int (Builtin.bitOr i j)):=o7 Uh fun _ _ _=>.ofInt
def mU:bootBuiltins "max"=some (.builtin "max"):=by decide +kernel
def QV:bootBuiltins "min"=some (.builtin "min"):=by decide +kernel
end
def aZ {N P:List Str}{h:Scope}(a:h.kind=.function:=by rfl) (b:h.isCoroutine=false:=by rfl) (c:h.isGenerator=false:=by rfl) (d:N.Nodup:=by decide +kernel) (e:N.take P.length=P:=by rfl)
 (f:∀x∈P,h.names.lookup x=some .local\/h.names.lookup x=some .cell:=by decide +kernel) (g:∀y∈h.names,y.2≠.free:=by decide +kernel):gV N P h:=⟨a,b,c,d,e,f,g⟩
def jF {p:Prop} [Decidable p] (h:¬p):¬(decide p=true) := fun e=>h (ZR e)
def upa (h:H a=some u) (b:H q=none):fY H q o a=some u := by rw[aD (bz h b)];exact h
structure Oc (P:Program) (w:World) (K:Frag) (mg:Str->Option Value) (base:Heap) (k:Nat) (x:Str) (st:Stmt) (ps:List Str) (sp:Sp3):Prop where
 ex:∃(f:Addr) (fd:FuncData),G3 K mg x st ps f fd/\kZ P w K mg base k f fd ps sp
def Do {st:Stmt}{p c:Pos} (D:Oc X.prog X.w X.K X.mg X.base k x st ps sp) (l:t6 k X.A) (i:Gl X x) (n:PA3 X (e::a) t) (d:(x==("__debug__":Str))=false:=by decide) (j:starEach (e::a) X.env=(false,eval e X.env)::starEach a X.env:=by rfl) (h:(backTo c (starEach a X.env)).any (·.1)=false:=by rfl):
  Ho X (.Call (.Name x p) (e::a) [] c) (qm sp t):=by
 obtain⟨f,o,g,F⟩:=D.ex;exact Jc F l i g.m g.fn.kp g.b n d j h
def aU {st:Stmt}{p b:Pos} (D:Oc X.prog X.w X.K X.mg X.base k x st ps sp) (i:t6 j X.A) (g:Gl X x) (l:PA3 X (e::a) t) (f:k<=j:=by decide) (c:(x==("__debug__":Str))=false:=by decide) (h:starEach (e::a) X.env=(false,eval e X.env)::starEach a X.env:=by rfl) (d:(backTo b (starEach a X.env)).any (·.1)=false:=by rfl):Ho X (.Call (.Name x p) (e::a) [] b) (qm sp t):=Do D (i.mono f) g l c h d
def rpH (o:Option O3) (k:Int) (H:lO) (Q:My):Prop:=match o with
 |some (.lst xs)=>(-(2^63)<=k/\k<2^63/\xs.length*k.toNat<=sizeLine)/\∀p,H p=none->Q (.ref p) (fY H p (.lst (List.replicate k.toNat xs).flatten))
 |_=>False
def M3:R3:=fun x y H Q=>match x,y with
 |.ref a,.int k=>rpH (H a) k H Q
 |_,_=>False
def M4 (a:Addr) (k:Int) (H:lO) (Q:My):M3 (.ref a) (.int k) H Q=rpH (H a) k H Q:=rfl
def M5 (xs:List T) (k:Int) (H:lO) (Q:My):rpH (some (.lst xs)) k H Q=((-(2^63)<=k/\k<2^63/\xs.length*k.toNat<=sizeLine)/\∀p,H p=none->Q (.ref p) (fY H p (.lst (List.replicate k.toNat xs).flatten))):=rfl
def lX.rep {K:Frag} (r:lX K H ts vs):∀k:Nat,lX K H (List.replicate k ts).flatten (List.replicate k vs).flatten
 |0=>.nil
 |k+1=>by rw[ZK,ZK,aac,aac];exact r.append (lX.rep r k)
def wD:d8 X (binaryOp .Mult) M3:=by
 refine OpR.imp PL ?_;rintro x y H Q ⟨i,q,H3,s,l,m,c,h,k⟩;cases i with
 |ref a =>
  cases q with
  |int n =>
   rw[M4] at h;cases e:H3 a with
   |none=>rw[e] at h;exact h.elim
   |some o =>
   rw[e] at h;cases o with
   |lst xs=>rw[M5] at h;obtain⟨vs,r,d⟩:=c a _ e;obtain⟨⟨j,f,g⟩,h'⟩:=h;refine⟨a,n,vs,l.ref,m.int,r,j,f,by rw[<- d.length];exact g,fun p b=>?_⟩;exact k _ _ _ _ (aN b) (c.newLst b (d.rep n.toNat)) .ofRef (h' p (c.fresh b))
   |_=>exact h.elim
  |_=>exact h.elim
 |_=>exact h.elim
def aeC:Slot "list_reverseiterator" "__length_hint__" "list_reverseiterator.__length_hint__":=.of (owner:="list_reverseiterator") (n:="__length_hint__") (by rw[typeLookup_type,builtinLookup_eq_fast];kernel_rfl) (by decide +kernel) (by decide +kernel) (by decide +kernel)
 (by first | exact .inr (by decide +kernel) | exact .inl (by decide +kernel)) (by rw[isSubtype_type];kernel_rfl)
def Dp:typeLookup (.type "list_reverseiterator") "__len__"=pure none:=by rw[typeLookup_type,builtinLookup_eq_fast];kernel_rfl
def QW:isSubtype (.type "list_reverseiterator") (.type "list_reverseiterator")=pure true:=by rw[isSubtype_type];kernel_rfl
def Dq {a b:Array Value}(h:ItemsOf (fun i v=>a[a.size - 1 - i]?=some v) b a.size):b=a.reverse:=by
 refine Array.ext (by rw[h.1];simp) fun j c d=>?_;have q:a[a.size - 1 - j]?=some b[j]:=h.2 j b[j] (aa0 c);have e:j<a.size:=by rw[<- h.1];exact c
 rw[aa0 (by omega)] at q;rw[Array.getElem_reverse];exact (F_ q).symm
def z6 (z:A.handled=none) (u:l≠I) (hsz:c.size<=sizeLine) (n:S∉[I,l]) (j:s.heap.IsRevIter I l ((c.size:Int) - 1)) (y:s.heap.IsList l c) (H:s.heap.get? S=some { cls:=.type "list",data:=.seq #[] p}) (C:∀s' d k,Moved (S::[I]) (fun a b=>b=a) s s'->s'.heap.get? S=some { cls:=.type "list",dict:=none,data:=.seq d k,slots:=#[]}->ItemsOf (fun i v=>c[c.size - 1 - i]?=some v) d c.size->R (.ok (.ret o)) s'):
  wpAny (model prog w) A.in1 (Builtin.List.listExtendWith (.ref S) (.ref I) o)
   (fun t s'=>match t with | .done f=>R (.ok f) s' | .again k=>k.quiet=true/\codeAny (model prog w) A k R s') (fun e s'=>R (.error e) s') s:=by
 have W:=(Walks.listRev (prog:=prog) (w:=w) (A:=A.in1) z I l u c).toS;have x:S≠I:=fun e=>n (e▸l_);have st:(fun (i:Nat) (s:Shared)=>i<=c.size/\s.heap.IsRevIter I l ((c.size:Int) - 1 - (i:Int))/\s.heap.IsList l c) 0 s:=⟨Zx _,by simpa using j,y⟩;have g:s.TypeIs (.ref I) "list_reverseiterator":=j.typeIs;unfold Builtin.List.listExtendWith;refine a_ (abM g ?_);have B:Builtin.List.listSameRef (.ref S) (.ref I)=false:=by simp [Builtin.List.listSameRef,x]
 have G:(Value.type "list_reverseiterator"==Value.type "list")=false:=by decide
 have E:(Value.type "list_reverseiterator"==Value.type "tuple")=false:=by decide
 simp only[B,G,E,Bool.or_false,y_,Zb];refine a_ (wpAny_pyIter_revIter j ?_);refine a_ (aaj ?_);unfold Builtin.List.listLengthHint;refine a_ (wpAny_specialOf g Dp ?_);show wpAny _ A.in1 (specialOf (Value.ref I) (Str.ofString "__length_hint__") >>= _) _ _ _;refine a_ (wpAny_specialOf g aeC.lookup ?_);generalize h:("list_reverseiterator.__length_hint__":String)=q
 (fail_if_success (clear h q))
 wp_delta
 rw[show splitId q=some ("list_reverseiterator","__length_hint__") from by subst h;decide +kernel];subst h;refine a_ (wpAny_isInstance (b:=true) g QW ?_);rw[if_neg (show ¬(!true)=true from G_)];dsimp only;rw[if_pos (by decide +kernel)];rw[if_neg (show ¬((Value.builtin "list_reverseiterator.__length_hint__"==Value.builtin "range_iterator.__length_hint__")=true) from by decide)];refine k_ ?_;try rw[if_neg G_]
 refine k_ ⟨plainId_quiet F.plain_extend_loop _,?_⟩;exact codeAny_extend_loopS W hsz _ n _ c.size 0 _ _ _ rfl (Zx _) st H (ItemsOf.nil _) fun s' d k D r m=>C s' d k D r m
def Jy (E:A.handled=none) (y:l≠I) (hsz:d.size<=sizeLine) (k:S∉[I,l]) (x:s.heap.IsRevIter I l ((d.size:Int) - 1)) (C:s.heap.IsList l d) (z:s.heap.get? S=some { cls:=.type "list",data:=.seq #[]}) (H:∀s' g n,Moved (S::[I]) (fun a b=>b=a) s s'->s'.heap.get? S=some { cls:=.type "list",dict:=none,data:=.seq g n,slots:=#[]}->ItemsOf (fun i v=>d[d.size - 1 - i]?=some v) g d.size->R (.ok (.ret .none)) s'):
  wpAny (model prog w) A.in1 (Builtin.«list.__init__» ⟨[.ref S,.ref I],[]⟩)
   (fun t s'=>match t with | .done f=>R (.ok f) s' | .again n=>n.quiet=true/\codeAny (model prog w) A n R s') (fun e s'=>R (.error e) s') s:=by
 show wpAny _ A.in1 (do let q <- Builtin.List.listItems (.ref S);Builtin.List.listUpdate (.ref S) (fun _=>#[]);letGo q.toList.reverse;Builtin.List.listExtendWith (.ref S) (.ref I) .none) _ _ s;refine a_ ?_;unfold Builtin.List.listItems;refine a_ (aaK z rfl (k_ ?_));show wpAny _ A.in1 (updateSeq S (fun _=>#[]) >>= fun _=>letGo (#[]:Array Value).toList.reverse >>= fun _=>Builtin.List.listExtendWith (.ref S) (.ref I) .none) _ _ s;refine a_ (wpAny_updateSeq z rfl ?_);have j:=aaq (Obj.mapSeq (fun _=>(#[]:Array Value))) z rfl;have m:∀b o,b≠S->s.heap.get? b=some o->(s.heap.update S (Obj.mapSeq (fun _=>(#[]:Array Value)))).get? b=some o :=
  fun b o u e=>(Zm _ _ (Ne.symm u)).trans e
 refine a_ (wpAny_letGo ?_);have F:I≠S:=fun e=>k (by simp [e]);have D:l≠S:=fun e=>k (by simp [e]);refine z6 E y hsz k (x.at fun o e=>m _ o F e) (C.at fun o e=>m _ o D e) j fun s' g n J r p=>?_;exact H s' g n (Moved.trans (G:=fun a b=>b=a) (fun a b c K B=>B.trans K) ((Moved.refl (G:=fun a b=>b=a) fun _=>rfl).then_heap (m_ _) fun b o u e=>m b o (fun h=>u (h▸l_)) e) J) r p
def oh (y:A.handled=none) (t:l≠I) (hsz:c.size<=sizeLine) (j:s.heap.IsRevIter I l ((c.size:Int) - 1)) (u:s.heap.IsList l c) (z:∀s' n,Moved (s.heap.objs.size::[I]) (fun a b=>b=a) { s with heap:=s.heap.push { cls:=.type "list",data:=.seq #[]}} s' ->
   s'.heap.get? s.heap.objs.size=some { cls:=.type "list",dict:=none,data:=.seq c.reverse n,slots:=#[]}->Q (.ref s.heap.objs.size) s'):
  wpAny (model prog w) A (call (.type "list") [.ref I]) Q E s:=by
 have i:I<s.heap.objs.size:=by obtain⟨o,m,_⟩:=j;exact o_ m
 have f:l<s.heap.objs.size:=by obtain⟨o,m,_⟩:=u;exact o_ m
 have p:s.heap.objs.size∉[I,l]:=fun r=>by
  rcases x_.mp r with e | e
  ·rw[<- e] at i;exact Zr _ i
  rw[<- i_.mp e] at f;exact Zr _ f
 refine callType_codes (Q₁:=fun h d=>h=.ref s.heap.objs.size/\d={ s with heap:=s.heap.push { cls:=.type "list",data:=.seq #[]}}) F.called_list (F.typeCall_list_1 _) F.entry_list_init
  (code_list_new _ ⟨rfl,rfl⟩) fun h d k=>?_
 obtain⟨rfl,rfl⟩:=k;have x:(s.heap.push { cls:=.type "list",data:=.seq #[]}).get? s.heap.objs.size=some { cls:=.type "list",data:=.seq #[]}:=t_ _ rfl;refine⟨⟨_,x,rfl⟩,F.args_list_init_2 _ _,Jy (A:=A.in1) y t hsz p (j.at fun o e=>b_ _ e) (u.at fun o e=>b_ _ e) x fun s' v n r q g=>?_⟩;refine⟨rfl,z s' n r ?_⟩;rw[<- Dq g];exact q
def Itv (K:Frag) (a:Addr) (n:Nat):It :=
 ⟨fun i H=>∃xs x,SqL K H a xs/\xs.length=n/\i<n/\xs[n - 1 - i]?=some x,fun i H x H'=>H'=H/\∀xs,SqL K H a xs->xs[n - 1 - i]?=some x,fun i _=>n<=i⟩
def Dr {K:Frag} (a it:Addr) (n:Nat):Turn P w K Y (Itv K a n) [it] it (fun i h=>i<=n/\h.IsRevIter it a ((n:Int) - 1 - (i:Int))) where
 mem:=by simp
 obj:=fun i h st b g=>by
  have e:b=it:=by simpa using g
  subst e
  obtain⟨_,o,e,c,d⟩:=st
  exact⟨o,e,fun v z=>by rw[d] at z;cases z⟩
 keep:=fun i h h' st k=>⟨st.1,st.2.at fun o e=>k it (by simp) o e⟩
 item:=by
  intro X D B t G i f s Z H E I l st y
  subst D B t
  obtain⟨xs,x,F,hn,hi,J⟩:=y
  obtain⟨N,O,p,hz⟩:=I.list F
  obtain⟨u,hu,L⟩:=O.get J
  obtain⟨A,C,W,m,r,q⟩:=l it (by simp)
  have e:(n:Int) - 1 - (i:Int)=((n - 1 - i:Nat):Int):=by omega
  obtain⟨_,st⟩:=st
  rw[e] at st
  refine wpAny_pyNext_rev_item st p.isList (x:=u) (by simpa using hu) fun h' j U=>?_
  have R:Inv X f Z H { s with heap:=h'}:=I.turned (t':=s.toks) (fun b o g e=>(U.2 b g).trans e) A C m r q
  obtain⟨o,S,c,d⟩:=id j
  have T:((n - 1 - i:Nat):Int) - 1=(n:Int) - 1 - ((i+1:Nat):Int):=by omega
  rw[T] at j
  exact⟨u,rfl,xP (s:={ s with heap:=h'}) S c d (by decide) ⟨x,H,R,L,⟨rfl,fun ys hy=>by rw[I.list_inj hy F];exact J⟩,⟨hi,j⟩,fun b g=>(l b g).1⟩⟩
 done:=by
  intro X D B t G i f s Z H E I l st y
  subst D B t
  obtain⟨A,C,W,m,r,q⟩:=l it (by simp)
  obtain⟨Q,st⟩:=st
  have V:n<=i:=y
  have e:(n:Int) - 1 - (i:Int) = -1:=by omega
  rw[e] at st
  exact wpAny_pyNext_rev_end (I.ok.hd G) st fun h' M=>⟨rfl,I.turned (t':=s.toks) (fun b o g e=>M b o g e) A C m r q⟩
 self:=fun _ _ _ _ _ st h=>wpAny_pyIter_revIter st.2 h
def lr:bootBuiltins "reversed"=some (.type "reversed"):=by decide +kernel
section
variable {X:Cx}{tg e:Expr}{p p1 p2 pos pos':Pos}
def YL (K:Frag) (te:TE):TI:=fun Z H R=>te Z H fun x b=>∃a xs,x=.ref a/\SqL K b a xs/\R (Itv K a xs.length) b
def QX (t:Gl X "reversed") (y:X.mg "reversed"=none) (v:PE X e te) (l:starEach [e] X.env=(false,eval e X.env)::starEach [] X.env:=by rfl) (i:(backTo pos (starEach [] X.env)).any (·.1)=false:=by rfl):
  PI X tg (.Call (.Name "reversed" p) [e] [] pos) (YL X.K te):=by
 intro f s Z H R I h;refine ZF (fX I t y lr ?_ (by decide) (by decide));refine Zv ?_ l i;rw[l];show wpAny _ _ (spliced ((false,eval e X.env)::backTo pos (starEach [] X.env))) _ _ s;refine aaG (Ob (v f s Z H _ I h) fun u c ⟨x,w,g,z,a,xs,B,m,q⟩=>?_);subst B;cases z;refine aa4 ?_;obtain⟨j,r,n,D⟩:=g.list m;have d:=r.length;refine call_reversed_list n.isList ?_;have C:((j.toArray.size:Nat):Int) - 1=(xs.length:Int) - 1:=by simp [d]
 rw[C];have k:(c.heap.push (revObj a ((xs.length:Int) - 1))).IsRevIter c.heap.objs.size a ((xs.length:Int) - 1):=⟨_,t_ _ rfl,rfl,rfl⟩;refine wpAny_pyIter_revIter k ?_;refine⟨c.heap.objs.size,[c.heap.objs.size],_,_,w,rfl,g.kept (t':=c.toks) fun b o e=>b_ _ e,Dr a c.heap.objs.size xs.length,⟨Zx _,by simpa using k⟩,fun b A=>?_,q⟩;have e:b=c.heap.objs.size:=by simpa using A
 subst e;exact g.fpOk (m_ _) (g.hok.fresh (m_ _))
def reO (o:Option O3) (a:Addr) (H:lO) (R:List T->(lO->Prop)->lO->Prop):Prop:=match o with
 |some (.lst ts)=>R ts.reverse (bD a ts) H
 |_=>False
def M6 (te:Pr):TI3:=fun Z H R=>te Z H fun x b=>match x with
 |.ref a=>reO (b a) a b R
 |_=>False
def Ds {K:Frag}{xs:List V} (l:xs.length=ts.length):jx K (Itv K a xs.length) ts.reverse (bD a ts) H:=fun H' j p f st=>by
 obtain⟨h,d,b⟩:=f.sqL st;have n:=b.length;rw[l];refine⟨fun i c=>by rw[aaa] at c;exact c,fun i t e=>?_⟩;have c:i<ts.length:=by have:=(ZV.mp e).1;rw[aaa] at this;exact this
 rw[List.getElem?_reverse c] at e;obtain⟨v,g,k⟩:=b.get e;refine⟨⟨h,v,d,n.symm,c,g⟩,fun x m y=>?_⟩;obtain⟨o,y⟩:=y;subst o;have:=y h d;rw[g] at this;cases this;exact⟨.refl,f,k⟩
def QZ (w:Gl X "reversed") (n:X.mg "reversed"=none) (x:Ho X e te) (u:starEach [e] X.env=(false,eval e X.env)::starEach [] X.env:=by rfl) (f:(backTo pos (starEach [] X.env)).any (·.1)=false:=by rfl):
  PI3 X tg (.Call (.Name "reversed" p) [e] [] pos) (M6 te):=by
 refine PI.imp (QX w n x u f) ?_;rintro Z H R ⟨i,H3,R3,j,m,h,k⟩;refine⟨i,H3,_,j,m,h,fun v H' t b s d r q=>?_⟩;cases t with
 |ref a =>
  have c:reO (b a) a b R3:=q
  cases e:b a with
  |none=>rw[e] at c;exact c.elim
  |some o =>
   rw[e] at c
   cases o with
   |lst ts =>
    obtain⟨xs,l,g⟩:=d.sqL (.inl e)
    exact⟨a,xs,r.ref,l,k _ _ (bD a ts) H' b s d (Ds g.length.symm) c⟩
   |_=>exact c.elim
 |_=>exact q.elim
def Q0 (te:Pr) {Z:St3}{H:lO}{R:List T->(lO->Prop)->lO->Prop}:M6 te Z H R=te Z H fun x b=>match x with
 |.ref a=>reO (b a) a b R
 |_=>False:=rfl
def V1 (ts:List T) (a:Addr) (H:lO) (R:List T->(lO->Prop)->lO->Prop):reO (some (.lst ts)) a H R=R ts.reverse (bD a ts) H:=rfl
def Q4 (te:TE):TE:=fun Z H Q=>te Z H fun x a=>∃p b,x=.ref p/\SqL X.K a p b/\∀l,a l=none->Q (.ref l) (upd a l (.lst b.reverse))
def Dt (E:X.calm=true) (v:Gl X "list") (n:X.mg "list"=none) (m:Gl X "reversed") (r:X.mg "reversed"=none) (T:PE X e te) (A:starEach [e] X.env=(false,eval e X.env)::starEach [] X.env:=by rfl) (d:(backTo pos (starEach [] X.env)).any (·.1)=false:=by rfl) (g:(backTo pos' (starEach [] X.env)).any (·.1)=false:=by rfl):
  PE X (.Call (.Name "list" p1) [.Call (.Name "reversed" p2) [e] [] pos'] [] pos) (Q4 (X:=X) te):=by
 intro c s Z H Q I h;refine ZF (fX I v n lM ?_ (by decide) (by decide));refine Zv ?_ rfl d;show wpAny _ _ (spliced ((false,eval (.Call (.Name "reversed" p2) [e] [] pos') X.env)::backTo pos (starEach [] X.env))) _ _ s;refine aaG ?_;refine ZF (fX I m r lr ?_ (by decide) (by decide));refine Zv ?_ A g;rw[A];show wpAny _ _ (spliced ((false,eval e X.env)::backTo pos' (starEach [] X.env))) _ _ s;refine aaG (Ob (T c s Z H _ I h) fun u s1 ⟨x,F,j,M,p,R,L,K,q⟩=>?_);subst L;cases M;obtain⟨a,y,l,P⟩:=j.list K;have B:=y.length;have hsz:a.toArray.size<=sizeLine:=by simp only[p_];omega
 refine aa4 ?_;refine call_reversed_list l.isList ?_;refine aa4 ?_;have d:p<s1.heap.objs.size:=by obtain⟨o,J,_⟩:=l.isList;exact o_ J
 have t:(s1.heap.push (revObj p ((a.toArray.size:Int) - 1))).IsRevIter s1.heap.objs.size p ((a.toArray.size:Int) - 1):=⟨_,t_ _ rfl,rfl,rfl⟩;refine oh (s:={ s1 with heap:=s1.heap.push (revObj p ((a.toArray.size:Int) - 1))}) (j.ok.hd E) (K_ d) hsz t (l.isList.at fun o e=>b_ _ e) fun s' D i C=>?_;generalize k:(s1.heap.push (revObj p ((a.toArray.size:Int) - 1))).objs.size=z at i C;have f:s1.heap.objs.size<z:=by rw[<- k];simp [Heap.push]
 have O:∀b u,s1.heap.get? b=some u->s'.heap.get? b=some u:=fun b u w=>i.heap b u (fun N=>by
  have:=o_ w
  rcases x_.mp N with e | e
  ·
   rw[e] at this;exact absurd (Zo this f) (Zr _)
  ·
   rw[i_.mp e] at this;exact Zr _ this) (b_ _ (b_ _ w))
 have G:s'={ s1 with heap:=s'.heap,toks:=s'.toks}:=by
  obtain⟨Y,U,a3,V,W⟩:=s';have:=i.gens;have:=i.drawn;have:=i.os
  simp_all
 have S:Inv X c Z (upd F z (.lst R.reverse)) { s1 with heap:=s'.heap,toks:=s'.toks} :=
  j.laid (t':=s'.toks) O (aar f) ⟨by rw[aaa];exact P,a.reverse,D,y.reverse,by simpa using C⟩
 rw[G];exact⟨.ref z,_,S,rfl,q _ (j.hok.fresh (aar f))⟩
def lrO (o:Option O3) (H:lO) (Q:My):Prop:=match o with
 |some (.lst xs)=>∀p,H p=none->Q (.ref p) (fY H p (.lst xs.reverse))
 |_=>False
def yC (te:Pr):Pr:=fun Z H Q=>te Z H fun x b=>match x with
 |.ref a=>lrO (b a) b Q
 |_=>False
def Du (s:X.calm=true) (p:Gl X "list") (m:X.mg "list"=none) (j:Gl X "reversed") (n:X.mg "reversed"=none) (D:Ho X e te) (y:starEach [e] X.env=(false,eval e X.env)::starEach [] X.env:=by rfl) (g:(backTo pos (starEach [] X.env)).any (·.1)=false:=by rfl) (f:(backTo pos' (starEach [] X.env)).any (·.1)=false:=by rfl):
  Ho X (.Call (.Name "list" p1) [.Call (.Name "reversed" p2) [e] [] pos'] [] pos) (yC te):=by
 refine PE.imp (Dt s p m j n D y g f) ?_;rintro Z H Q ⟨A,H3,u,w,C,h,k⟩;refine⟨A,H3,_,w,C,h,fun v H' t b x c r q=>?_⟩;cases t with
 |ref a =>
  have d:lrO (b a) b u:=q
  cases e:b a with
  |none=>rw[e] at d;exact d.elim
  |some o =>
   rw[e] at d
   cases o with
   |lst ts =>
    obtain⟨xs,B,z⟩:=c.sqL (.inl e)
    exact⟨a,xs,r.ref,B,fun l i=>k _ _ _ _ (x.trans (aN i)) (c.newLst i z.reverse) .ofRef (d l (c.fresh i))⟩
   |_=>exact d.elim
 |_=>exact q.elim
def Jz (te:Pr) {Z:St3}{H:lO}{Q:My}:yC te Z H Q=te Z H fun x b=>match x with
 |.ref a=>lrO (b a) b Q
 |_=>False:=rfl
def V2 (xs:List T) (H:lO) (Q:My):lrO (some (.lst xs)) H Q=∀p,H p=none->Q (.ref p) (fY H p (.lst xs.reverse)):=rfl
variable {apos cpos:Pos}{Ty id:String}
def M7 (b:String) (m:T->List T->lO->My->Prop) (c:Pr):Pr:=fun Z H Q=>c Z H fun x a=>ty3 b x a/\m x [] a Q
def wF (p:PlainAttrs Ty) (d:Slot Ty name id) (f:typeOf (.builtin id)=pure (.type "method_descriptor")) (u:vM X id m) (l:Ho X o to)
  (b:attributeBase o name X.env (eval o X.env)=eval o X.env:=by rfl) (a:(apos.endLine==cpos.line)=true:=by rfl) :
  Ho X (.Call (.Attribute o name apos) [] [] cpos) (M7 Ty m to):=by
 refine PE.imp (PJ p d f u l b a) ?_;rintro Z H Q ⟨n,H3,r,s,t,h,k⟩;exact⟨n,H3,_,s,t,h,fun x v q e g c i j=>⟨Ms c i j.1,q,[],e,r,i,.nil,c,j.2,k.at g⟩⟩
def mxH (o:Option O3) (H:lO) (Q:My):Prop:=match o with
 |some (.lst xs)=>oq (ints3 xs) fun ns=>ns≠[]/\∀M,M∈ns->(∀a∈ns,a<=M)->Q (.int M) H
 |_=>False
def Dv:List T->lO->My->Prop:=fun ts H Q=>match ts with
 |[.ref a]=>mxH (H a) H Q
 |_=>False
def Dw (a:Addr) (H:lO) (Q:My):Dv [.ref a] H Q=mxH (H a) H Q:=rfl
def M8 (xs:List T) (H:lO) (Q:My):mxH (some (.lst xs)) H Q=oq (ints3 xs) fun ns=>ns≠[]/\∀M,M∈ns->(∀a∈ns,a<=M)->Q (.int M) H:=rfl
def lQ (B:X.calm=true):dz X (.builtin "max") Dv:=by
 intro w s Z H xs us Q I E h;obtain⟨ts,H3,N,r,x,h,k⟩:=h;cases ts with
 |nil=>exact h.elim
 |cons t ts =>
 cases ts with
 |cons _ _=>cases t <;> exact h.elim
 |nil =>
 cases t with
 |ref a =>
  rw[Dw] at h;obtain⟨v,rfl,g⟩:=r.one';obtain⟨u,rfl,p⟩:=vals1 E;rw[g.ref] at p;cases p;cases e:H3 a with
  |none=>rw[e] at h;exact h.elim
  |some o =>
  rw[e] at h;cases o with
  |lst G =>
   rw[M8] at h;obtain⟨P,K,J⟩:=x.sqL (.inl e);cases i:ints3 G with
   |none=>rw[i] at h;exact h.elim
   |some ns =>
   rw[i,f9] at h;obtain⟨n,h⟩:=h;obtain⟨b,m,C,_⟩:=I.list K;have y:=ji i J m;have c:AllInts b.toArray:=y.allInts;obtain⟨d,q⟩:=c.items;have l:s.heap.IsList a (intItems d):=by rw[<- q];exact C.isList
   have f:=nums_intItems d;rw[<- q,show b.toArray.toList=b from rfl,y.numsOf] at f;have M:0<d.size:=by have:=T_ List.length f;simp at this;have:=List.length_pos_iff.mpr n;omega
   refine max_intList (I.ok.hd B) l M fun v h' tk L F=>?_;obtain⟨t,rfl⟩:=intItems_at L;obtain⟨O,A⟩:=argBest_gt (numAt d) (d.size - 1);refine⟨.int _,H,I.kept F,⟨t,rfl⟩,k _ _ _ _ .refl x .ofInt (h _ ?_ fun a z=>?_)⟩
   ·rw[f,numAt_eq];exact getD_mem (by rw[g_,aaT];omega)
   rw[f] at z;obtain⟨j,D,rfl⟩:=mem_getD z;rw[g_,aaT] at D;rw[<- numAt_eq];exact A j (by omega)
  |_=>exact h.elim
 |_=>cases h
end
def Dy {o:Type} (k l n f:o->T) (p:o->Bool) (g:List o) (rest:St3) (h:still H) (A:g.length<=sizeLine) (z:∀a∈g,∀Q:Bool->lO->Prop,Q (p a) H->tt (some (k a)::some (l a)::some (n a)::rest) H Q) (B:∀a∈g,p a=true->∀Q:My,Q (f a) H->te (some (k a)::some (l a)::some (n a)::rest) H Q) (i:m ((g.filter p).map f) H):
  Z7 (sy 3 (jg (fJ 0) (jg (fJ 1) (jg (fJ 2) yc)))) tt te still m (g.map fun a=>.tup [k a,l a,n a]) [] (v::u::w::rest) H:=by
 refine jD (fun r s Z H'=>∃(c e:List o) (v u w:Option T),Z=v::u::w::rest/\r=c.map (fun a=>.tup [k a,l a,n a])/\s=(e.filter p).map f/\e++c=g/\H'=H) ⟨g,[],v,u,w,rfl,rfl,rfl,rfl,rfl⟩ ?_ ?_
 ·rintro s Z H' ⟨c,e,v,u,w,rfl,d,rfl,b,rfl⟩;have j:c=[]:=aba.mp d.symm;subst j;rw[W_] at b;subst b;exact⟨h,by rw[g_];exact R_ (Zc _ _) A,i⟩
 rintro x r s Z H' N ⟨c,e,v,u,w,rfl,d,rfl,b,rfl⟩ y;cases c with
 |nil=>cases d
 |cons t c =>
 injection d with a1 a2;subst a1 a2;refine⟨h,rfl,?_⟩;show tt (some (k t)::some (l t)::some (n t)::rest) H' _;refine z t (by rw[<- b];simp) _ ?_;cases q:p t with
 |true=>rw[if_pos rfl];refine B t (by rw[<- b];simp) q _ ⟨?_,y _ _ _ ⟨c,e++[t],_,_,_,rfl,rfl,by simp [q],by rw[<- b];simp,rfl⟩⟩;have:=T_ List.length b;simp only[d_,j_] at this;rw[g_];have:=Zc p e;omega
 |false =>
 rw[if_neg G_];exact y _ _ _ ⟨c,e++[t],_,_,_,rfl,rfl,by simp [q],by rw[<- b];simp,rfl⟩
open L2 HT
def jn (b:IsTup s.heap t a) (k:s.heap.IsSliceOf f m j .none) (pl:IsPart m c) (n:IsPart j g) (l:sIx a.size 0 c=0/\sIx a.size a.size g=a.size) (h:Q (.ref t) s):wpAny (model prog w) A (getItem (.ref t) (.ref f)) Q E s:=by
 obtain⟨o,d,i,p⟩:=id k;have e:s.TypeIs (.ref f) "slice":=⟨o,d,i⟩;unfold getItem;try with_reducible refine aaj ?_
 first | refine a_ (k_ ?_) | skip
 refine a_ (wpAny_sequenceKey b.typeIs (by decide) ?_);refine a_ (aaf (name:=Str.ofString "__getitem__") b.typeIs Zj
  (aak Zj b.typeIs entry_tuple_getitem ?_ (args_tuple_getitem _ _)))
 show wpAny _ _ (Builtin.Tuple.tupleItemsOf (.ref t) >>= _) _ _ s;refine a_ (tupleItemsOf_ b ?_);refine a_ (abM e ?_);rw[if_pos (by decide)];refine a_ (gA k pl n ?_);show wpAny _ _ (if (((sIx a.size 0 c:Nat):Int)==0&&(1:Int)==1&&(sIx a.size a.size g - sIx a.size 0 c)==a.size)=true then _ else _) _ _ s;rw[if_pos (by rw[l.1,l.2];simp)];have q:=b.typeIs
 wp_walk
 exact⟨_,rfl,k_ h⟩
def JB:SlR X (fun x e d H Q=>∃a xs,x=.ref a/\SqT X.K H a xs/\(HT.sIx xs.length 0 e=0/\HT.sIx xs.length xs.length d=xs.length)/\Q (.ref a) H):=by
 intro f s Z H x v p n e d o Q I l k pl i h;obtain⟨a,xs,rfl,j,m,q⟩:=h;cases l;obtain⟨c,r,g,t⟩:=I.tuple j;have b:c.toArray.size=xs.length:=by rw[p_];exact r.length.symm
 refine⟨"tuple",_,Zj.lookup,g.typeIs,?_⟩;exact jn g k pl i (by rw[b];exact m) ⟨.ref a,H,I,rfl,q⟩
def Dz:T->Option Int->Option Int->lO->My->Prop:=fun x b a H Q=>match x with
 |.tup ts=>Q (.tup (fZ ts b a)) H
 |_=>False
def M9 (te:Pr) (d c:TO3):Pr:=fun Z H Q=>te Z H fun x b=>d Z b fun l a=>c Z a fun u H3=>Dz x l u H3 Q
def wG (ts:List T) (b a:Option Int) (H:lO) (Q:My):Dz (.tup ts) b a H Q=Q (.tup (fZ ts b a)) H:=rfl
def DG (te:Pr) (b a:TO3) (Z:St3) (H:lO) (Q:My):M9 te b a Z H Q=te Z H fun x d=>b Z d fun l c=>a Z c fun u H3=>Dz x l u H3 Q:=rfl
def j4 {B E:Option Expr}{C A:TO3}{K w:Pos} (J:Ho X e te) (G:PO3 X B C) (N:PO3 X E A):Ho X (.Subscript e (.Slice B E none K) w) (M9 te C A):=by
 refine PE.imp (rM (aec.or JB) J G N) ?_;rintro Z H Q ⟨s,H3,P,q,M,h,k⟩;refine⟨s,H3,_,q,M,h,fun x R F j b z I O=>⟨s,j,_,q.mono b,z,O,fun l S n c y L=>⟨s,n,_,q.mono (b.trans c),y,L,fun u T t f g d=>?_⟩⟩⟩;have D:=k.at (b.trans (c.trans f));have m:=I.mono (c.trans f);cases F with
 |tup ts =>
  rw[wG] at d;obtain⟨a,xs,rfl,v,r⟩:=m.tup;by_cases i:HT.sIx xs.length 0 l=0/\HT.sIx xs.length xs.length u=xs.length
  ·refine .inr ⟨a,xs,rfl,v,i,D _ _ _ _ .refl g (.ofTup v r) ?_⟩;have e:fZ ts l u=ts:=by unfold fZ;rw[r.length,i.1,i.2,Nat.sub_zero,List.drop_zero,<- r.length,List.take_length]
   rw[e] at d;exact d
  exact .inl ⟨a,xs,rfl,v,i,fun p o=>D _ _ _ _ (aN o) (g.new o) (tL.newTup (H3:=t) o (lL r l u)) d⟩
 |_=>exact d.elim
def DK (l : List Value) : ((List.range l.length).filterMap fun (k : Nat) => l.toArray[((l.length : Int) - 1 + (k : Int) * (-1)).toNat]?) = l.reverse:=by
 have e:(List.range l.length).map (fun (k:Nat)=>l.toArray[((l.length:Int) - 1+(k:Int)*(-1)).toNat]?)=l.reverse.map some:=by
  apply aa5;intro i;rw[B_,B_];by_cases h:i<l.length
  ·rw[Zg h,List.getElem?_reverse h];have b:((l.length:Int) - 1+(i:Int)*(-1)).toNat=l.length - 1 - i:=by omega
   have d:l.length - 1 - i<l.length:=by omega
   simp only[aa3,b,List.getElem?_toArray];rw[e_ d];rfl
  rw[N_ (by simp;omega),N_ (by simp;omega)];rfl
 have a:=T_ (List.filterMap id) e;rw [List.filterMap_map,List.filterMap_map] at a;have c : List.filterMap (id ∘ some) l.reverse = l.reverse:=List.filterMap_some;rw [c] at a;exact a
section
variable {w:World}
def JC (n:Nat):Builtin.Slice.sliceAdjust none none (-1) (n:Int)=((n:Int) - 1,-1):=by
 unfold Builtin.Slice.sliceAdjust;simp
def wH (n:Nat):Builtin.Slice.slicePlaces ((n:Int) - 1) (-1) (-1)=n:=by
 unfold Builtin.Slice.slicePlaces;have a:¬((-1:Int)>0):=by omega
 simp only[a,Zb,Int.neg_neg,Int.ediv_one];split <;> omega
def j5 {n:Nat} (d:s.heap.IsSliceOf c .none .none vs) (ps:IsPart vs (some (-1))) (h:Q ((n:Int) - 1,-1,n) s):wpAny (model prog w) A (Builtin.Slice.sliceApplied (.ref c) (pure (n:Int))) Q E s:=by
 obtain⟨f,a,e,b⟩:=id d;unfold Builtin.Slice.sliceApplied Builtin.Slice.sliceFields;refine a_ (a_ (Zq a b (x:=.none) rfl (a_ (Zq a b (x:=.none) rfl (a_ (Zq a b (x:=vs) rfl (k_ ?_)))))));refine a_ (jc ps ?_);show wpAny _ _ (if ((-1:Int)==0)=true then _ else _) _ _ s;rw[if_neg (by decide)];refine a_ (slicePart_none (a_ (slicePart_none (a_ (k_ ?_)))));show wpAny _ _ (match Builtin.Slice.sliceAdjust none none (-1) (n:Int) with | (lo,hi)=>pure (lo,(-1:Int),Builtin.Slice.slicePlaces lo hi (-1))) _ _ s;rw[JC n];show wpAny _ _ (pure ((n:Int) - 1,(-1:Int),Builtin.Slice.slicePlaces ((n:Int) - 1) (-1) (-1))) _ _ s;rw[wH];exact k_ h
def jG {b:List Value} (c:IsTup s.heap t b.toArray) (i:s.heap.IsSliceOf f .none .none vs) (ps:IsPart vs (some (-1))) (h:Q (.ref s.heap.objs.size) { s with heap:=s.heap.push { cls:=.type "tuple",data:=.seq b.reverse.toArray}}) (hsz:b.length<=sizeLine):wpAny (model prog w) A (getItem (.ref t) (.ref f)) Q E s:=by
 obtain⟨j,d,g,k⟩:=id i;have e:s.TypeIs (.ref f) "slice":=⟨j,d,g⟩;have a:sizeOk (.seq b.reverse.toArray):=by show b.reverse.toArray.size<=sizeLine;rw[p_,aaa];exact hsz
 unfold getItem;try with_reducible refine aaj ?_
 first | refine a_ (k_ ?_) | skip
 refine a_ (wpAny_sequenceKey c.typeIs (by decide) ?_);refine a_ (aaf (name:=Str.ofString "__getitem__") c.typeIs Zj
  (aak Zj c.typeIs entry_tuple_getitem ?_ (args_tuple_getitem _ _)))
 show wpAny _ _ (Builtin.Tuple.tupleItemsOf (.ref t) >>= _) _ _ s;refine a_ (tupleItemsOf_ c ?_);refine a_ (abM e ?_);rw[if_pos (by decide)];refine a_ (j5 i ps ?_);rw[p_];show wpAny _ _ (if (((b.length:Int) - 1)==0&&(-1:Int)==1&&b.length==b.toArray.size)=true then _ else _) _ _ s;rw[if_neg (by simp),DK];first
  |exact a_ (m:=Builtin.Tuple.tupleExact _) (ZC (k_ ⟨_,rfl,k_ h⟩) a)
  |exact a_ (m:=Builtin.Tuple.tupleExact _) (ZC (a_ (k_ (k_ ⟨_,rfl,k_ h⟩))) a)
  |exact a_ (a_ (m:=Builtin.Tuple.tupleExact _) (ZC (k_ (k_ ⟨_,rfl,k_ h⟩)) a))
  |exact a_ (a_ (m:=Builtin.Tuple.tupleExact _) (ZC (k_ ⟨_,rfl,k_ h⟩) a))
variable {e st:Expr}
def V3 (K:Frag) (te:TE) (ts:TO):TE:=fun Z H Q=>te Z H fun x c=>ts Z c fun o b=>o=some (-1)/\∃a xs,x=.ref a/\SqT K b a xs/\∀p,b p=none->Q (.ref p) (upd b p (.tup xs.reverse))
def JD (l:PE X e te) (p:PO X (some st) ts):PE X (.Subscript e (.Slice none none (some st) p2) pos) (V3 X.K te ts):=by
 intro c s Z H Q I h;refine Subscript_ (Ob (l c s Z H _ I h) fun v n ⟨x,k,j,t,D⟩=>?_);refine wpAny_Slice ?_;rw[evalPart_none];refine k_ (k_ (Ob (p c n Z k _ j D) fun vs s3 ⟨o,H3,B,ps,m,a,xs,C,u,q⟩=>?_));subst m C;cases t;have f:Inv X c Z H3 { s3 with heap:=s3.heap.push { cls:=.type "slice",data:=.fields #[.none,.none,vs]}}:=B.kept (t':=s3.toks) fun b y q=>b_ _ q;obtain⟨d,r,i,z⟩:=f.tuple u;have g:=r.length;show wpAny (model X.prog X.w) X.A (subscriptTail e (.Slice none none (some st) p2) (.ref a) (.ref s3.heap.objs.size)) (EP X c Z Q) X.xe { s3 with heap:=s3.heap.push { cls:=.type "slice",data:=.fields #[.none,.none,vs]}};refine tail_any (T:="tuple") (ops:=[.ref a,.ref s3.heap.objs.size]) i.typeIs Zj.lookup ?_ (by with_unfolding_all rfl);refine jG i (Heap.IsSliceOf.new ..) ps ?_ (by omega);refine⟨.ref (s3.heap.push { cls:=.type "slice",data:=.fields #[.none,.none,vs]}).objs.size,_,f.laid (t':=s3.toks) (o:=.tup xs.reverse) (fun b y q=>b_ _ q) (m_ _) ?_,rfl,q _ (f.hok.fresh (m_ _))⟩;exact⟨by simpa using z,d.reverse,r.reverse,acR.new _ _⟩
def rvT (x:T) (o:Option Int) (H:lO) (Q:My):Prop:=match x with
 |.tup ts=>o=some (-1)/\Q (.tup ts.reverse) H
 |_=>False
def DN (te:Pr) (ts:TO3):Pr:=fun Z H Q=>te Z H fun x b=>ts Z b fun o a=>rvT x o a Q
def DP (te:Pr) (ts:TO3):DN te ts Z H Q=te Z H fun x b=>ts Z b fun o a=>rvT x o a Q:=rfl
def DQ (xs:List T) (o:Option Int):rvT (.tup xs) o H Q=(o=some (-1)/\Q (.tup xs.reverse) H):=rfl
def JF (t:Ho X e te) (v:PO3 X (some st) ts):Ho X (.Subscript e (.Slice none none (some st) p2) pos) (DN te ts):=by
 refine PE.imp (JD t v) ?_;rintro Z H Q ⟨n,H3,z,m,w,h,k⟩;refine⟨n,H3,_,m,w,h,fun x A q f b l s y=>⟨n,f,_,m.mono b,l,y,fun o B g c j d=>?_⟩⟩;cases q with
 |tup ts=>rw[DQ] at d;obtain⟨a,xs,rfl,u,r⟩:=(s.mono c).tup;exact⟨d.1,a,xs,rfl,u,fun p i=>k _ _ _ _ (b.trans (c.trans (aN i))) (j.new i) (tL.newTup (H3:=g) i r.reverse) d.2⟩
 |_=>exact d.elim
def isN:T->Bool
 |.non=>true
 |_=>false
def JG:isN .non=true:=rfl
def JH (i:Int):isN (.int i)=false:=rfl
def JK (x:Str):isN (.str x)=false:=rfl
def JL (ts:List T):isN (.tup ts)=false:=rfl
def Q5 (b:Bool):isN (.bl b)=false:=rfl
end
end L3
namespace L2
end L2
namespace L3
open L2
def orq (x:T) (p q:Prop):Prop:=match x with
 |.non=>p
 |.tup (_::_)=>q
 |_=>False
def V4 (b tb:Pr):Pr:=fun Z H Q=>b Z H fun x a=>orq x (tb Z a Q) (Q x a)
end L3
namespace L2
end L2
namespace L3
open L2
section
variable {X:Cx}
variable {pins:List (Addr × Obj)}{Z:L2.St}
def Inv.freeze (I:Inv X pins Z H s) (e:H a=some (.dK kvs)):∃o,s.heap.get? a=some o/\Inv X pins Z (upd H a (.frz o (.dK kvs))) s:=by
 have z:=I.hok a _ e;obtain⟨l,i,vs,g,o,j,ep,f,m,r⟩:=id (show zc X.prog X.w H s.heap a (.dK kvs) from z);have d:∀b u,H b=some u->(∀k,u≠.dK k)->b≠a:=fun b u q n w=>by subst w;rw[e] at q;cases q;exact n _ rfl
 refine⟨o,f,?_⟩;have:=I.step (h':=s.heap) (g':=s.gens) (d':=s.drawn) (t':=s.toks) (H':=upd H a (.frz o (.dK kvs))) (ch:=[]) (fun _ z=>nomatch z) (fun b o _ _ _ q _=>q) (fun b o _ _ _ q _=>⟨_,q⟩)
  (fun b o _ _ n=>by rw[aK (fun w=>by subst w;rw[e] at n;cases n)];exact n) (fun b o _ q=>⟨_,q⟩)
  (fun b xs q=>by rw[aK (d b _ q fun _=>nofun)];exact q) (fun b o u q=>by rw[aK (d b _ q fun _=>nofun)];exact q)
  (fun b ps q=>⟨#[],by rw[aK (d b _ q fun _=>nofun),Array.append_empty];exact q⟩) (fun _ q=>q) (fun b u q=>?_) I.bare
 ·exact this
 by_cases h:b=a
 ·subst h;rw[aY] at q;cases q;exact⟨f,l,i,vs,g,o,j,ep,f,m,r⟩
 rw[aK h] at q;exact (I.hok b u q).stay (fun _ _ _ r=>r) (fun c r=>by rw[aK (d c _ r fun _=>nofun)];exact r) fun c xs r=>by rw[aK (d c _ r fun _=>nofun)];exact r
end
def V5 (h:(bI P w).is k u=true):RelV (kV k) u:=by
 rcases bL h with ⟨i,t,b,a⟩ | ⟨y,t,b,a⟩
 ·subst b a;exact⟨t,rfl⟩
 subst b a;exact⟨t,rfl⟩
def jo:∀{l₁:List a}{l₂:List c}{i:Nat}{x:a},Paired F l₁ l₂->l₁[i]?=some x->∃y,l₂[i]?=some y/\F x y
 |_,_,i,x,.nil,e=>by simp at e
 |_,_,0,x,.cons (b:=b) h t,e=>by simp at e;subst e;exact⟨b,rfl,h⟩
 |_,_,i+1,x,.cons h t,e=>by simpa using jo t (by simpa using e)
def Iti (d:Addr) (o:Obj):It :=
 ⟨fun i H=>∃kvs a,H d=some (.frz o (.dK kvs))/\kvs[i]?=some a,
  fun i H v H'=>∃p k x,v=.ref p/\H p=none/\H'=upd H p (.tup [kV k,x])/\∀kvs,H d=some (.frz o (.dK kvs))->kvs[i]?=some (k,x),
  fun i H=>∃kvs,H d=some (.frz o (.dK kvs))/\kvs.length<=i⟩
def z7:entryFor table "dict_itemiterator.__iter__"=some Builtin.«dict_keyiterator.__iter__» :=
 entryFor_alias (id':="dict_keyiterator.__iter__") (by kernel_rfl) rfl (by decide +kernel) (by kernel_rfl)
def DR {Z:L2.St} (I:Inv X a Z H s) (e:H d=some (.frz o (.dK kvs))) (j:o.data=.dict f ep):
  ∃vs,KV kvs vs/\s.heap.DictAt (bI X.prog X.w) d vs ep/\vs.length=f.size:=by
 obtain⟨i,_,_,vs,g,q,m,n,c,p,b,k,h,l⟩:=(show zc X.prog X.w H s.heap d (.frz o (.dK kvs)) from I.hok d _ e);rw[i] at c;cases c;rw[j] at b;cases b;exact⟨vs,g,⟨o,f,i,p,j,k,h,l⟩,by rw[<- h.length];simp⟩
def wI {K:Frag} (d it:Addr) (o:Obj) (Y:Array DictEntry) (ep:Nat) (hd:o.data=.dict Y ep):
  Turn P w K (.Tuple B x1 R) (Iti d o) [it] it (fun i h=>∃j l,IsItemIter h it d i Y.size ep j l) where
 mem:=l_
 obj:=fun i h st c e=>by
  obtain⟨j,l,f⟩:=st
  rw[i_.mp e]
  exact⟨_,f,fun v z=>by cases z⟩
 keep:=fun i h h' st k=>by
  obtain⟨j,l,f⟩:=st
  exact⟨j,l,k it (by simp) _ f⟩
 item:=by
  intro X V O M e i g s Z H E I D st N
  subst V O M
  obtain⟨kvs,⟨k,x⟩,J,T⟩:=N
  obtain⟨j,l,f⟩:=st
  obtain⟨vs,m,S,a⟩:=DR I J hd
  obtain⟨⟨k',u⟩,hu,ek,ru⟩:∃q,vs[i]?=some q/\k=q.1/\RelV x q.2:=jo m T
  subst ek
  rw[<- a] at f
  refine wpAny_pyNext_items_item f S hu fun key h' hk ho r hsz kp=>?_
  refine⟨_,rfl,wpAny_letOwnedTupleGo_items ho fun t C W=>?_⟩
  have lt:∀{c o},s.heap.get? c=some o->s.heap.objs.size≠c:=fun q=>Zd (o_ q)
  have n:s.heap.objs.size≠it:=lt f
  have G:∀{c:Addr},c∈[it]->c≠s.heap.objs.size:=fun {c} e=>by rw[i_.mp e];exact Ne.symm n
  have U:∀c o,c∉[it]->s.heap.get? c=some o->t.get? c=some o:=fun c o L q=>(W.2 c fun z=>L (z▸l_)).trans (kp c o (fun z=>L (z▸l_)) q)
  have I1:Inv X g Z (upd H s.heap.objs.size (.tup [kV k,x])) { s with heap:=s.heap.push { cls:=.type "tuple",data:=.seq #[key,u]},toks:=s.toks} :=
   I.laid (t':=s.toks) (fun b o q=>b_ _ q) (m_ _) (show zc X.prog X.w _ _ _ (.tup [kV k,x]) from ⟨by show 2<=sizeLine;decide,[key,u],.cons (V5 hk) (.cons ru .nil),acR.new _ _⟩)
  have I2:Inv X g Z (upd H s.heap.objs.size (.tup [kV k,x])) { s with heap:=t}:=iK (s:={ s with heap:=s.heap.push { cls:=.type "tuple",data:=.seq #[key,u]}}) (ch:=[it]) (t':=s.toks) I1 (fun c o L q=>by
   by_cases z:c=s.heap.objs.size
   ·
    subst z
    have p:(s.heap.push { cls:=.type "tuple",data:=.seq #[key,u]}).get? s.heap.objs.size=some o:=q
    rw[t_ _ rfl] at p
    cases p
    exact (W.2 _ n).trans r
   ·
    have p:(s.heap.push { cls:=.type "tuple",data:=.seq #[key,u]}).get? c=some o:=q
    rw[Heap.get?_push_ne _ _ _ z] at p
    exact U c o L p) fun c e=>⟨by rw[aK (G e)];exact (D c e).1,(D c e).2⟩
  refine⟨.ref s.heap.objs.size,_,I2,rfl,⟨s.heap.objs.size,k,x,rfl,I.hok.fresh (m_ _),rfl,fun zs y=>by rw[J] at y;cases y;exact T⟩,⟨key,u,?_⟩,fun c e=>by rw[aK (G e)];exact (D c e).1⟩
  rw[<- a]
  exact C
 done:=by
  intro X V O M e i g s Z H E I D st N
  subst V O M
  obtain⟨kvs,J,T⟩:=N
  obtain⟨j,l,f⟩:=st
  obtain⟨vs,m,S,a⟩:=DR I J hd
  have hl:=m.length
  rw[<- a] at f
  exact wpAny_pyNext_items_end (I.ok.hd e) f S (N_ (by omega)) fun h' eb=>⟨rfl,iK (ch:=[it]) (t':=s.toks) I (fun b o nb q=>eb b o (fun z=>nb (by simp [z])) q) D⟩
 self:=fun A i s Q E st h=>by
  obtain⟨j,l,f⟩:=st
  have r:s.TypeIs (.ref it) "dict_itemiterator":=⟨_,f,rfl⟩
  refine wpAny_pyIter_slot r PySem.F.slot_dict_itemiterator_iter (aak PySem.F.slot_dict_itemiterator_iter r z7 ?_ (PySem.F.args_dict_itemiterator_iter_1 _))
  show wpAny _ _ (ret (.ref it)) _ _ s
  exact k_ ⟨_,rfl,"dict_itemiterator",_,r,PySem.F.slot_dict_itemiterator_next.lookup,h⟩
section
variable {elts:List Expr}{x1:Nat}{tpos pos apos cpos:Pos}
def Q6 (te:TE):TI:=fun Z H R=>te Z H fun x b=>∃a kvs,x=.ref a/\b a=some (.dK kvs)/\∀o,R (Iti a o) (upd b a (.frz o (.dK kvs)))
def DW (G:PE X e te) (i:attributeBase e "items" X.env (eval e X.env)=eval e X.env:=by rfl) (g:(apos.endLine==cpos.line)=true:=by rfl):
  PI X (.Tuple elts x1 tpos) (.Call (.Attribute e "items" apos) [] [] cpos) (Q6 te):=by
 intro f s Z H R I h;refine wpAny_Call_method0_late i g (Ob (G f s Z H _ I h) fun v s1 ⟨x,E,n,L,a,kvs,N,m,q⟩=>?_);subst N;cases L;obtain⟨z,j,vs,J,u⟩:=rQ n.hok m;obtain⟨o,t,M⟩:=Inv.freeze n m;obtain⟨A,B,_⟩:=Bv n (a:=a) (.inl ⟨kvs,.inl m⟩);refine⟨"dict","dict.items",PySem.F.plainAttrs_dict,PySem.F.slot_dict_items,PySem.F.type_dict_items,A,B,abk rfl (PySem.evalArgs_none (call_meetsIn PySem.F.slot_dict_items A PySem.F.entry_dict_items (PySem.F.args_dict_items_1 _) (meets_dict_items (bI X.prog X.w) a j) ⟨⟨vs,u⟩,?_⟩))⟩;obtain⟨P,p,ep,k,O,l,D,y,K⟩:=id u;rw[t] at k;cases k;have hsz:p.size=vs.length:=by rw[<- y.length];simp
 have r:Inv X f Z (upd E a (.frz o (.dK kvs))) { s1 with heap:=s1.heap.push { cls:=.type "dict_items",data:=.fields #[.ref a]}}:=M.kept (t':=s1.toks) fun b o q=>b_ _ q;refine wpAny_pyIter_items (knd:=bI X.prog X.w) (d:=a) (kvs:=vs) (ep:=ep) ⟨_,t_ _ rfl,rfl,rfl⟩ ⟨o,p,b_ _ t,O,l,D,y,K⟩ ?_;refine⟨_,[_],_,Iti a o,_,rfl,r.kept (t':=s1.toks) fun b o q=>b_ _ q,wI a _ o p ep l,⟨.none,.none,?_⟩,fun c C=>?_,q o⟩
 ·rw[hsz];exact t_ _ rfl
 rw[i_.mp C];exact r.fpOk (m_ _) (r.hok.fresh (m_ _))
def V6 (f e c:TE):TE:=fun Z H Q=>f Z H fun x b=>∃a,x=.ref a/\IsD b a/\e Z b fun y d=>c Z d fun z H3=>∃kvs k,H3 a=some (.dK kvs)/\y=kV k/\kvs.length<sizeLine /\
 (∀v,fC kvs k=some v->Q v H3)/\(fC kvs k=none->Q z (upd H3 a (.dK (putK kvs k z))))
def JM (E:PE X o td) (n:PE X e ty) (U:PE X f tx) (m:M2 X o "setdefault" apos e f cpos):PE X (.Call (.Attribute o "setdefault" apos) [e,f] [] cpos) (V6 td ty tx):=by
 intro c s Z H Q I h;refine wpAny_Call_method m.base m.few m.line PySem.F.plainAttrs_dict PySem.F.slot_dict_setdefault PySem.F.type_dict_setdefault (Ob (E c s Z H _ I h) fun u P ⟨x,M,A,N,a,ex,d,q1⟩=>?_);subst ex;obtain rfl:u=Value.ref a:=N;obtain⟨O,G,_⟩:=Bv A d;refine⟨O,G,?_⟩;rw[m.trees];refine abk rfl (Calls.evalArgs_plain (aaG (Ob (n c P Z M _ A q1) fun iv s2 ⟨y,R,V,ry,q2⟩ =>
  aaG (Ob (U c s2 Z R _ V q2) fun Y s3 ⟨z,H3,p,r,kvs,k,C,ey,l,W,L⟩=>aa4 ?_))))
 subst ey;obtain⟨J,D,vs,g,t⟩:=rQ p.hok C;have i:=g.val k;refine call_meetsIn PySem.F.slot_dict_setdefault t.typeIs PySem.F.entry_dict_setdefault (PySem.F.args_dict_setdefault_3 _ _ _) (kt_meets_setdefault (bI X.prog X.w) a (mF ry) D Y) ⟨vs,t,by rw[<- g.length];exact J,fun v B=>?_,fun S h' j T=>?_⟩
 ·cases b:fC kvs k with
  |none=>rw[b,B] at i;exact (show False from i).elim
  |some w =>
  rw[b,B] at i;exact⟨w,H3,p.tok _,i,W w b⟩
 have b:fC kvs k=none:=by
  cases b:fC kvs k with
  |none=>rfl
  |some w=>rw[b,S] at i;exact (show False from i).elim
 have n:∃q,h'.get? a=some q:=let ⟨q,_,_,hq,_⟩:=j;⟨q,hq⟩;have K:(putK kvs k z).length<=sizeLine:=by have:=fL kvs k z;omega
 exact⟨z,_,lK p (by rw[C];exact True.intro) T n (vK K D (g.put k r) j),r,L b⟩
end
def dq (k:Int):List (Int × T)->Option T
 |[]=>none
 | (k',v)::r=>if k'=k then some v else dq k r
def wJ (k:Int) (v:T) (kvs:List (Int × T)):List (Int × T) :=
 if (kvs.any fun a=>decide (a.1=k))=true then kvs.map (fun a=>if a.1=k then (a.1,v) else a) else kvs++[(k,v)]
def iM {K:Frag}:∀{kvs:List (Int × T)}{vs:List (Key × V)}{t:T},acO K H kvs vs->dq k kvs=some t->∃v,fC vs (Sum.inl k:Key)=some v/\Rep K H t v
 |[],_,_,_,e=>by cases e
 | (k',t')::r,_,t,.cons (b:=(kk,v')) ⟨e1,rv⟩ rr,e=>by
  simp only at e1 rv
  subst e1
  unfold dq at e
  by_cases a:k'=k
  ·
   rw[if_pos a] at e
   cases e
   exact⟨v',by rw[fG (by rw[a])],rv⟩
  ·
   rw[if_neg a] at e
   obtain⟨v,c,q⟩:=iM rr e
   exact⟨v,by rw[fH (by intro z;exact a (Sum.inl.inj z))];exact c,q⟩
def gQ {K:Frag}:∀{kvs:List (Int × T)}{vs:List (Key × V)},acO K H kvs vs->(fC vs (Sum.inl k:Key)).isSome=(dq k kvs).isSome
 |[],_,.nil=>rfl
 | (k',t')::r,_,.cons (b:=(kk,v')) ⟨e1,rv⟩ rr=>by
  simp only at e1 rv
  subst e1
  unfold dq
  by_cases a:k'=k
  ·
   rw[if_pos a,fG (by rw[a])];rfl
  ·
   rw[if_neg a,fH (by intro z;exact a (Sum.inl.inj z))]
   exact gQ rr
def DY {K:Frag} (h:Rep K H t v) (r:acO K H kvs vs):acO K H (wJ k t kvs) (putK vs (Sum.inl k:Key) v):=by
 have e:∀{kvs:List (Int × T)} {vs:List (Key × V)},acO K H kvs vs->(kvs.any fun a=>decide (a.1=k))=(vs.any fun a=>decide (a.1=(Sum.inl k:Key)))/\acO K H (kvs.map (fun a=>if a.1=k then (a.1,t) else a)) (vs.map (fun a=>if a.1=(Sum.inl k:Key) then (a.1,v) else a)):=by
  intro kvs;induction kvs with
  |nil=>intro vs r;cases r;exact⟨rfl,.nil⟩
  |cons p l n =>
  intro vs r;cases r with
  |cons q m =>
  rename_i b o;obtain⟨g,f⟩:=n m;obtain⟨j,i⟩:=q;obtain⟨s,u⟩:=b;simp only at j i;subst j;by_cases c:p.1=k
  ·refine⟨by simp [c],?_⟩;simp only[J_,c,if_true];exact .cons ⟨rfl,h⟩ f
  have d:¬(Sum.inl p.1:Key)=Sum.inl k:=fun z=>c (Sum.inl.inj z);refine⟨by simp only[abB,c,d,ZL,Bool.false_or];exact g,?_⟩;simp only[J_,c,d,Zb];exact .cons ⟨rfl,i⟩ f
 obtain⟨g,f⟩:=e r;unfold wJ putK;rw[g];split
 ·exact f
 exact Paired.snoc r ⟨rfl,h⟩
section
variable {K:Frag}
def tL.wrI (s:tL K H3 H) (g:H a=some (.dK h)) (r:acO K H kvs c):tL K (fY H3 a (.dci kvs)) (upd H a (.dK c)):=fun b o e=>by
 have f:tR K H (upd H a (.dK c)):=bM (by rw[g];exact trivial);by_cases d:b=a
 ·subst d;rw[aq] at e;cases e;exact⟨c,aY,r.mono f⟩
 rw[aD d] at e;exact (s b o e).stay f fun u q=>by rw[aK d];exact q
def tL.newI (s:tL K H3 H) (c:H p=none):tL K (fY H3 p (.dci [])) (upd H p (.dK [])):=fun a o e=>by
 by_cases b:a=p
 ·subst b;rw[aq] at e;cases e;exact⟨[],aY,.nil⟩
 rw[aD b] at e;exact s.new c a o e
def tL.frzI (s:tL K H3 H) (g:H a=some (.dK c)) (r:acO K H kvs c):tL K (fY H3 a (.dif o kvs)) (upd H a (.frz o (.dK c))):=fun b u e=>by
 have f:tR K H (upd H a (.frz o (.dK c))):=bM (by rw[g];exact trivial);by_cases d:b=a
 ·subst d;rw[aq] at e;cases e;exact⟨c,aY,r.mono f⟩
 rw[aD d] at e;exact (s b u e).stay f fun u q=>by rw[aK d];exact q
end
section
variable {X:Cx}{pos pos' apos cpos tpos:Pos}{elts:List Expr}{x1:Nat}
def yD:Pr:=fun _ H Q=>∀p,H p=none->Q (.ref p) (fY H p (.dci []))
def Ea:Ho X (.Dict [] [] pos) yD:=by
 refine PE.imp rW ?_;rintro Z H Q ⟨d,H3,c,e,b,h,k⟩ p a;exact k _ _ _ _ (aN a) (b.newI a) .ofRef (h p (b.fresh a))
def d1i (y:T) (p:Addr) (v:T) (H:lO) (Q:My):Prop:=match y with
 |.int k=>H p=some (.dci [])/\Q (.ref p) (fY H p (.dci [(k,v)]))
 |_=>False
def qG (tk c:Pr):Pr:=fun Z H Q=>∀p,H p=none->tk Z (fY H p (.dci [])) fun y b=>c Z b fun v a=>d1i y p v a Q
def V7 (x:Int) (p:Addr) (v:T):d1i (.int x) p v H Q=(H p=some (.dci [])/\Q (.ref p) (fY H p (.dci [(x,v)]))):=rfl
def z8 (w:Ho X k tk) (A:Ho X v tv):Ho X (.Dict [some k] [v] pos) (qG tk tv):=by
 refine PE.imp (xX (rY w A xW) rfl rfl (by simp) (by show 1<=15;decide)) ?_;rintro Z H Q ⟨n,H3,u,m,q,h,k⟩ p j;have a:tR X.K H (upd H p (.dK [])):=aN j;refine⟨n,fY H3 p (.dci []),_,m.mono a,q.newI j,h p (q.fresh j),fun y D t g c l B C=>?_⟩;refine⟨n,g,_,m.mono (a.trans c),l,C,fun z E x b f d s o=>?_⟩;cases t with
 |int key =>
  have h':b p=some (.dci [])/\u (.ref p) (fY b p (.dci [(key,x)])):=o
  obtain⟨ws,i,r⟩:=d p _ h'.1
  cases r
  refine⟨i,[(Sum.inl key,z)],by rw[(B.mono f).int];rfl,by show 1<=15;decide,?_⟩
  have e:jd [] [((Sum.inl key:Key),z)]=[((Sum.inl key:Key),z)]:=rfl
  rw[e]
  exact k _ _ _ _ (a.trans (c.trans (f.trans (bM (by rw[i];exact trivial))))) (d.wrI i (.cons ⟨rfl,s⟩ .nil)) .ofRef h'.2
 |_=>exact o.elim
def dgI (o:Option O3) (k:Int) (H:lO) (Q:My):Prop:=match o with
 |some (.dci kvs)=>oq (dq k kvs) fun t=>Q t H
 |some (.dif _ kvs)=>oq (dq k kvs) fun t=>Q t H
 |_=>False
def V8:R3:=fun x y H Q=>match x,y with
 |.ref a,.int k=>dgI (H a) k H Q
 |_,_=>False
def YM (a:Addr) (k:Int):V8 (.ref a) (.int k) H Q=dgI (H a) k H Q:=rfl
def Nb (kvs:List (Int × T)) (k:Int):dgI (some (.dci kvs)) k H Q=oq (dq k kvs) fun t=>Q t H:=rfl
def Eb (o:Obj) (kvs:List (Int × T)) (k:Int):dgI (some (.dif o kvs)) k H Q=oq (dq k kvs) fun t=>Q t H:=rfl
def Ec (K:X.A.units+1<cLine) (C:Ho X o s) (L:Ho X i ti) (G:Io i:=by exact fun _ _=>rfl):Ho X (.Subscript o i pos) (su V8 s ti):=by
 refine PE.imp (xV K C L G) ?_;rintro Z H Q ⟨z,H3,F,u,I,h,k⟩;refine⟨z,H3,_,u,I,h,fun x O D j d q w M=>⟨z,j,_,u.mono d,q,M,fun y P E c g b B p=>?_⟩⟩;cases D with
 |ref a =>
  cases E with
  |int key =>
   have h':dgI (c a) key c F:=p
   cases e:c a with
   |none=>rw[e] at h';exact h'.elim
   |some J =>
    rw[e] at h'
    cases J with
    |dci kvs =>
     rw[Nb] at h'
     obtain⟨vs,l,r⟩:=b a _ e
     cases f:dq key kvs with
     |none=>rw[f] at h';exact h'.elim
     |some t =>
      rw[f] at h'
      obtain⟨v,n,m⟩:=iM r f
      refine⟨a,v,w.ref,?_,k.at (d.trans g) _ _ _ _ .refl b m h'⟩
      rw[B.int,<- n]
      exact acB.k (k:=Sum.inl key) l
    |dif N kvs =>
     rw[Eb] at h'
     obtain⟨vs,l,r⟩:=b a _ e
     cases f:dq key kvs with
     |none=>rw[f] at h';exact h'.elim
     |some t =>
      rw[f] at h'
      obtain⟨v,n,m⟩:=iM r f
      refine⟨a,v,w.ref,?_,k.at (d.trans g) _ _ _ _ .refl b m h'⟩
      rw[B.int,<- n]
      exact .inl ⟨vs,Sum.inl key,.inr ⟨_,l⟩,rfl,rfl⟩
    |_=>exact h'.elim
  |_=>exact p.elim
 |_=>exact p.elim
def dpI (x y v:T) (H:lO) (Q:lO->Prop):Prop:=match x,y with
 |.ref a,.int k=>match H a with
  |some (.dci kvs)=>kvs.length<sizeLine/\Q (fY H a (.dci (wJ k v kvs)))
  |_=>False
 |_,_=>False
def JN (a e f:Pr):TS3:=fun D Z H=>f Z H fun v d=>a Z d fun x c=>e Z c fun y H3=>dpI x y v H3 fun b=>D.nx Z b
def diI (a:Bool) (y:T) (o:Option O3) (H:lO) (Q:My):Prop:=match y,o with
 |.int k,some (.dci kvs)=>Q (.bl (if a then !(dq k kvs).isSome else (dq k kvs).isSome)) H
 |_,_=>False
def Q7 (b:Bool) (y x:T) (H:lO) (Q:My):Prop:=match x with
 |.ref a=>diI b y (H a) H Q
 |_=>False
def Ed (a:Bool) (d e:Pr):Pr:=fun Z H Q=>d Z H fun y c=>e Z c fun x b=>Q7 a y x b Q
def Q8 (b:Bool) (y:T) (a:Addr):Q7 b y (.ref a) H Q=diI b y (H a) H Q:=rfl
def V9 (a:Bool) (k:Int) (kvs:List (Int × T)):diI a (.int k) (some (.dci kvs)) H Q=Q (.bl (if a then !(dq k kvs).isSome else (dq k kvs).isSome)) H:=rfl
def Ef {H:Hp}{f:My} (j:tL X.K H3 H) (m:Rep X.K H g x) (n:Rep X.K H d y) (q:Q7 c d g H3 f):
  ∃a h b,x=.ref a/\acB H a y h/\(if c then !h.isSome else h.isSome)=b/\f (.bl b) H3:=by
 cases g with
 |ref a =>
  have h':diI c d (H3 a) H3 f:=q
  cases d with
  |int k =>
   cases e:H3 a with
   |none=>rw[e] at h';exact h'.elim
   |some l =>
    rw[e] at h'
    cases l with
    |dci kvs =>
     obtain⟨ws,i,r⟩:=j a _ e
     refine⟨a,fC ws (Sum.inl k:Key),_,m.ref,by rw[n.int];exact acB.k (k:=Sum.inl k) i,rfl,?_⟩
     rw[gQ r]
     exact h'
    |_=>exact h'.elim
  |_=>exact h'.elim
 |_=>exact q.elim
def wK (B:X.A.units+1<cLine) (D:Ho X i ti) (r:Ho X o td) (v:behindInMarks .NotIn o=false:=by rfl):PT3 X (.Compare i [.NotIn] [o] pos) (j0 (Ed true ti td)):=by
 refine PT.imp (vg (oX B D r) v) ?_;rintro Z H Q ⟨n,H3,I,m,z,h,k⟩;refine⟨n,H3,_,m,z,h,fun y J G j c l C E=>⟨n,j,_,m.mono c,l,E,fun x K F s f d u w=>?_⟩⟩;obtain⟨a,p,b,e,g,t,q⟩:=Ef d u (C.mono f) w;exact⟨a,p,e,g,by rw[show (!p.isSome)=b from t];exact⟨b,rfl,k _ _ _ (c.trans f) d q⟩⟩
def sdO (o:Option O3) (a:Addr) (k:Int) (v:T) (H:lO) (Q:My):Prop:=match o with
 |some (.dci kvs)=>kvs.length<sizeLine/\match dq k kvs with
  |some t=>Q t H
  |none=>Q v (fY H a (.dci (wJ k v kvs)))
 |_=>False
def sdq (x y v:T) (H:lO) (Q:My):Prop:=match x,y with
 |.ref a,.int k=>sdO (H a) a k v H Q
 |_,_=>False
def Q9 (o:Option O3):Prop:=match o with
 |some (.dci _)=>True
 |_=>False
def Wa (x:T) (H:lO):Prop:=match x with
 |.ref a=>Q9 (H a)
 |_=>False
def Eg (b d e:Pr):Pr:=fun Z H Q=>b Z H fun x a=>Wa x a/\d Z a fun y c=>e Z c fun v H3=>sdq x y v H3 Q
def wL (a:Addr):Wa (.ref a) H=Q9 (H a):=rfl
def Rg (kvs:List (Int × T)):Q9 (some (.dci kvs))=True:=rfl
def Nf (a:Addr) (k:Int) (v:T):sdq (.ref a) (.int k) v H Q=sdO (H a) a k v H Q:=rfl
def Ng (kvs:List (Int × T)) (a:Addr) (k:Int) (v:T):sdO (some (.dci kvs)) a k v H Q=(kvs.length<sizeLine/\match dq k kvs with
  |some t=>Q t H
  |none=>Q v (fY H a (.dci (wJ k v kvs)))):=rfl
def JP (T:Ho X o td) (Y:Ho X e B) (hf:Ho X f tv) (m:M2 X o "setdefault" apos e f cpos:=by exact⟨rfl,rfl,rfl,rfl⟩):Ho X (.Call (.Attribute o "setdefault" apos) [e,f] [] cpos) (Eg td B tv):=by
 refine PE.imp (JM T Y hf m) ?_;rintro Z H Q ⟨E,H3,Q3,C,sh,h,k⟩;refine⟨E,H3,_,C,sh,h,fun x H1 U i c s W L=>?_⟩;obtain⟨p,L⟩:=L;cases U with
 |ref a =>
  cases D:i a with
  |none=>rw[wL,D] at p;exact p.elim
  |some J =>
  rw[wL,D] at p;cases J with
  |dci N =>
   obtain⟨I,A,_⟩:=s a _ D;refine⟨a,W.ref,.inl ⟨I,.inl A⟩,E,i,_,C.mono c,s,L,fun y H2 B w n G ry q2=>⟨E,w,_,C.mono (c.trans n),G,q2,fun z S tz F l d M b=>?_⟩⟩;cases B with
   |int key =>
    rw[Nf] at b;cases e:F a with
    |none=>rw[e] at b;exact b.elim
    |some J =>
    rw[e] at b;cases J with
    |dci kvs =>
     rw[Ng] at b;obtain⟨vs,u,r⟩:=d a _ e;have P:=c.trans (n.trans l);refine⟨vs,Sum.inl key,u,(ry.mono l).int,by rw[<- aa7 r];exact b.1,fun v R=>?_,fun hn=>?_⟩
     ·have q:=gQ (k:=key) r;cases g:dq key kvs with
      |none=>rw[g,R] at q;cases q
      |some t =>
      rw[g] at b;obtain⟨v',O,V⟩:=iM r g;rw[R] at O;cases O;exact k _ _ _ _ P d V b.2
     have q:=gQ (k:=key) r;cases g:dq key kvs with
     |some t=>rw[g,hn] at q;cases q
     |none =>
     rw[g] at b;have j:tR X.K S (upd S a (.dK (putK vs (Sum.inl key:Key) z))):=bM (by rw[u];exact trivial);exact k _ _ _ _ (P.trans j) (d.wrI u (DY M r)) (M.mono j) b.2
    |_=>exact b.elim
   |_=>exact b.elim
  |_=>exact p.elim
 |_=>exact p.elim
def itT (a:Int × T):T:=.tup [.int a.1,a.2]
def wM (a:Addr) (o:Obj) (kvs:List (Int × T)):lO->Prop:=fun H=>H a=some (.dif o kvs)
def itO (u:Option O3) (a:Addr) (H:lO) (R:List T->(lO->Prop)->lO->Prop):Prop:=match u with
 |some (.dci kvs)=>∀o,R (kvs.map itT) (wM a o kvs) (fY H a (.dif o kvs))
 |_=>False
def itq (x:T) (H:lO) (R:List T->(lO->Prop)->lO->Prop):Prop:=match x with
 |.ref a=>itO (H a) a H R
 |_=>False
def yE (te:Pr):TI3:=fun Z H R=>te Z H fun x a=>itq x a R
def Eh (te:Pr):yE te Z H R=te Z H fun x a=>itq x a R:=rfl
def Nh (a:Addr):itq (.ref a) H R=itO (H a) a H R:=rfl
def Ni (kvs:List (Int × T)) (a:Addr):itO (some (.dci kvs)) a H R=∀o,R (kvs.map itT) (wM a o kvs) (fY H a (.dif o kvs)):=rfl
def wN {K:Frag}{H:Hp}{o:Obj}:jx K (Iti a o) (kvs.map itT) (wM a o kvs) H:=fun H' b s g st=>by
 obtain⟨vs,c,r⟩:=g a _ st;have x:=aa7 r;refine⟨fun i k=>⟨vs,c,by rw[g_] at k;omega⟩,fun i t e=>?_⟩;rw[B_] at e;cases q:kvs[i]? with
 |none=>rw[q] at e;cases e
 |some u =>
 rw[q] at e;cases e;obtain⟨⟨n,v⟩,h,j,f⟩:=jo r q;simp only at j f;subst j;refine⟨⟨vs,_,c,h⟩,fun z l y=>?_⟩;obtain⟨p,A,w,rfl,d,rfl,m⟩:=y;have:=(m vs c).symm.trans h;cases this;exact⟨aN d,g.new d,tL.newTup (H3:=b) d (.cons .ofInt (.cons f .nil))⟩
def Ei (u:Ho X e te) (b:attributeBase e "items" X.env (eval e X.env)=eval e X.env:=by rfl) (c:(apos.endLine==cpos.line)=true:=by rfl):
  PI3 X (.Tuple elts x1 tpos) (.Call (.Attribute e "items" apos) [] [] cpos) (yE te):=by
 refine PI.imp (DW u b c) ?_;rintro Z H R ⟨l,H3,R3,m,n,h,k⟩;refine⟨l,H3,_,m,n,h,fun v H' t f p d r q=>?_⟩;cases t with
 |ref a =>
  rw[Nh] at q;cases i:f a with
  |none=>rw[i] at q;exact q.elim
  |some s =>
  rw[i] at q;cases s with
  |dci kvs=>rw[Ni] at q;obtain⟨vs,g,j⟩:=d a _ i;exact⟨a,vs,r.ref,g,fun o=>k _ _ _ _ _ (p.trans (bM (by rw[g];exact trivial))) (d.frzI g j) wN (q o)⟩
  |_=>exact q.elim
 |_=>exact q.elim
end
def pF {K:Frag}:∀{fs:List (Str × T)}{vs:List (Str × V)}{t:T},acN K H fs vs->aP f fs=some t->∃v,vs.lookup f=some v/\Rep K H t v
 |[],_,_,_,e=>by cases e
 | (g,t')::r,_,t,.cons (b:=(g',v')) ⟨e1,rv⟩ rr,e=>by
  simp only at e1 rv
  subst e1
  unfold aP at e
  by_cases a:g'=f
  ·
   rw[if_pos a] at e
   cases e
   exact⟨v',by rw[Z9,show (f==g')=true from aan.mpr a.symm],rv⟩
  ·
   rw[if_neg a] at e
   obtain⟨v,c,q⟩:=pF rr e
   exact⟨v,by rw[Z9,show (f==g')=false from Zy.mpr (Ne.symm a)];exact c,q⟩
def mV {K:Frag}:∀{fs:List (Str × T)}{vs:List (Str × V)},acN K H fs vs->aP f fs=none->vs.lookup f=none
 |[],_,.nil,_=>rfl
 | (g,t')::r,_,.cons (b:=(g',v')) ⟨e1,rv⟩ rr,e=>by
  simp only at e1 rv
  subst e1
  unfold aP at e
  by_cases a:g'=f
  ·
   rw[if_pos a] at e;cases e
  ·
   rw[if_neg a] at e
   rw[Z9,show (f==g')=false from Zy.mpr (Ne.symm a)]
   exact mV rr e
def dO (f:Str) (v:T):List (Str × T)->List (Str × T)
 |[]=>[(f,v)]
 | (g,x)::r=>if g=f then (g,v)::r else (g,x)::dO f v r
def t7 {K:Frag} (c:Rep K H t v):∀{fs:List (Str × T)}{vs:List (Str × V)},acN K H fs vs->acN K H (dO f t fs) (dY f v vs)
 |[],_,.nil=>.cons ⟨rfl,c⟩ .nil
 | (g,t')::r,_,.cons (b:=(g',v')) ⟨e1,r1⟩ rr=>by
  simp only at e1 r1
  subst e1
  unfold dO dY
  by_cases a:g'=f
  ·
   rw[if_pos a,if_pos a];exact .cons ⟨rfl,c⟩ rr
  ·
   rw[if_neg a,if_neg a];exact .cons ⟨rfl,r1⟩ (t7 c rr)
structure adg (K:Frag) (C:Addr) (ns:List Str):Prop where
 cls:Cls K C
 no:∀n∈ns,acG K C n
structure MtC (P:Program) (w:World) (K:Frag) (mg:Str->Option Value) (base:Heap) (C:Addr) (k:Nat) (m:Str) (ps:List Str) (sp:Sp3):Prop where
 cls:Cls K C
 ex:∃(f:Addr) (fd:FuncData),Meth K C m f/\Binds K fd ps []/\kZ P w K mg base k f fd ps sp
structure MkC (P:Program) (w:World) (K:Frag) (mg:Str->Option Value) (base:Heap) (C:Addr) (k:Nat) (x:Str) (ps:List Str) (sp:Sp3):Prop where
 at_:mg x=some (.ref C)
 ex:∃(f:Addr) (fd:FuncData),Mk K C f/\Binds K fd ps []/\kZ P w K mg base k f fd ps sp
structure GM (K:Frag) (C:Addr) (m qual:Str) (st:Stmt) (ps:List Str) (f:Addr) (fd:FuncData):Prop where
 cls:Cls K C
 fn:Fun K m qual st f fd
 b:Binds K fd ps []
 mt:Meth K C m f
structure GI (K:Frag) (mg:Str->Option Value) (C:Addr) (x qual:Str) (st:Stmt) (ps:List Str) (f:Addr) (fd:FuncData):Prop where
 mk_:Mk K C f
 fn:Fun K "__init__" qual st f fd
 b:Binds K fd ps []
 at_:mg x=some (.ref C)
def tL.wrO {K:Frag} (s:tL K H3 H) (h:H a=some (.ins C d vs)) (r:acN K H fs c):tL K (fY H3 a (.ins C fs)) (upd H a (.ins C d c)):=fun b o e=>by
 have g:tR K H (upd H a (.ins C d c)):=bM (by rw[h];exact trivial);by_cases f:b=a
 ·subst f;rw[aq] at e;cases e;exact⟨d,c,aY,r.mono g⟩
 rw[aD f] at e;exact (s b o e).stay g fun u q=>by rw[aK f];exact q
section
variable {pos pos' apos p:Pos}{H:lO}
def Rh (C:Addr) (f:Str) (u:Option O3) (H:lO) (Q:My):Prop:=match u with
 |some (.ins C' fs)=>C'=C/\oq (aP f fs) fun t=>Q t H
 |_=>False
def Wb (C:Addr) (f:Str) (x:T) (H:lO) (Q:My):Prop:=match x with
 |.ref a=>Rh C f (H a) H Q
 |_=>False
def Nj (C:Addr) (f:Str) (b:Pr):Pr:=fun Z H Q=>b Z H fun x a=>Wb C f x a Q
def Ej (a:Addr):Wb C f (.ref a) H Q=Rh C f (H a) H Q:=rfl
def Ri (fs:List (Str × T)):Rh C f (some (.ins C fs)) H Q=oq (aP f fs) fun t=>Q t H:=propext ⟨fun h=>h.2,fun h=>⟨rfl,h⟩⟩
def ik (c:adg X.K C ns) (x:Ho X e ta) (B:f∈ns:=by simp) (A:attributeBase e f X.env (eval e X.env)=eval e X.env:=by rfl):Ho X (.Attribute e f pos) (Nj C f ta):=by
 refine PE.imp (Pk x A) ?_;rintro Z H Q ⟨z,H3,p,s,D,h,k⟩;refine⟨z,H3,_,s,D,h,fun v H' t b w d r q=>?_⟩;cases t with
 |ref a =>
  rw[Ej] at q;cases i:b a with
  |none=>rw[i] at q;exact q.elim
  |some E =>
  rw[i] at q;cases E with
  |ins l fs =>
   obtain⟨rfl,g⟩:=(show l=C/\oq (aP f fs) fun t=>p t b from q);clear q;obtain⟨n,vs,m,y⟩:=d a _ i;cases j:aP f fs with
   |none=>rw[j] at g;exact g.elim
   |some t =>
   rw[j,f9] at g;obtain⟨F,u,o⟩:=pF y j;exact⟨a,l,n,vs,F,r.ref,m,c.cls,c.no f B,u,k _ _ _ _ w d o g⟩
  |_=>exact q.elim
 |_=>exact q.elim
def sfO (C:Addr) (f:Str) (a:Addr) (y:T) (u:Option O3) (H:lO) (Q:lO->Prop):Prop:=match u with
 |some (.ins C' fs)=>C'=C/\fs.length<1000/\Q (fY H a (.ins C (dO f y fs)))
 |_=>False
def sfq (C:Addr) (f:Str) (x y:T) (H:lO) (Q:lO->Prop):Prop:=match x with
 |.ref a=>sfO C f a y (H a) H Q
 |_=>False
def Nk (C:Addr) (f:Str) (d c:Pr):TS3:=fun D Z H=>c Z H fun y b=>d Z b fun x a=>sfq C f x y a fun H3=>D.nx Z H3
def Nm (a:Addr) (y:T) (Q:lO->Prop):sfq C f (.ref a) y H Q=sfO C f a y (H a) H Q:=rfl
def Wc (a:Addr) (y:T) (fs:List (Str × T)) (Q:lO->Prop):sfO C f a y (some (.ins C fs)) H Q=(fs.length<1000/\Q (fY H a (.ins C (dO f y fs)))):=propext ⟨fun h=>h.2,fun h=>⟨rfl,h⟩⟩
def qH (c:adg X.K C ns) (O:Ho X o ta) (G:Ho X value tv) (J:f∈ns:=by simp) (I:swapsWith value (some (.Attribute o f pos')) pos.line X.env=pure false:=by rfl):PS3 X (.Assign [.Attribute o f pos'] value pos) (Nk C f ta tv):=by
 refine PS.imp (Pn O G I) ?_;rintro D Z H ⟨r,H3,E,n,L,h,z,_⟩;refine⟨r,H3,_,n,L,h,fun y Q A k b s N P=>⟨r,k,_,n.mono b,s,P,fun x v w g d j F e=>?_⟩⟩;cases w with
 |ref a =>
  rw[Nm] at e;cases p:g a with
  |none=>rw[p] at e;exact e.elim
  |some M =>
  rw[p] at e;cases M with
  |ins m fs=>obtain⟨rfl,B,q⟩:=(show m=C/\fs.length<1000/\E.nx r (fY g a (.ins C (dO f A fs))) from e);obtain⟨t,vs,l,u⟩:=j a _ p;have i:tR X.K v (upd v a (.ins m t (dY f y vs))):=bM (by rw[l];exact trivial);exact⟨a,m,t,vs,F.ref,l,c.cls,c.no f J,by rw[<- aa7 u];exact B,z _ _ _ _ (b.trans (d.trans i)) (n.mono (b.trans (d.trans i))) (j.wrO l (t7 (N.mono d) u)) q⟩
  |_=>exact e.elim
 |_=>exact e.elim
def mtO (C:Addr) (m:Str) (u:Option O3) (q:Prop):Prop:=match u with
 |some (.ins C' fs)=>C'=C/\aP m fs=none/\q
 |_=>False
def mtq (C:Addr) (m:Str) (x:T) (H:lO) (q:Prop):Prop:=match x with
 |.ref a=>mtO C m (H a) q
 |_=>False
def Ek (C:Addr) (m:Str) (sp:Sp3) (c:Pr) (t:TA3):Pr:=fun Z H Q=>c Z H fun x a=>mtq C m x a (t Z a fun vs b=>sp (x::vs) b Q)
def Np (a:Addr) (q:Prop):mtq C m (.ref a) H q=mtO C m (H a) q:=rfl
def Nq (fs:List (Str × T)) (q:Prop):mtO C m (some (.ins C fs)) q=(aP m fs=none/\q):=propext ⟨fun h=>h.2,fun h=>⟨rfl,h⟩⟩
def qI {pl:Sem Bool}(M:MtC X.prog X.w X.K X.mg X.base C n m ps sp) (P:t6 n X.A) (G:Ho X o ta) (V:PA3 X (e::es) t)
  (g:starEach (e::es) X.env=(false,eval e X.env)::starEach es X.env:=by rfl) (j:(backTo pos (starEach es X.env)).any (·.1)=false:=by rfl)
  (N:eval (.Call (.Attribute o m apos) (e::es) [] pos) X.env=(do
   let ov <- eval o X.env
   standAt apos.atName
   let (f,first) <- holding [ov] (getMethod ov m pl)
   callWith pos f first (backTo pos (starEach (e::es) X.env)) (backToKw pos (keywordEach [] X.env))):=by rfl) :
  Ho X (.Call (.Attribute o m apos) (e::es) [] pos) (Ek C m sp ta t):=by
 obtain⟨f,Y,L,O,F⟩:=M.ex;refine PE.imp (Ie (dvs:=[]) (E:=E0) G M.cls L F P O .nil Bx V g j N) ?_;rintro Z H Q ⟨x,H3,D,s,S,h,k⟩;refine⟨x,H3,_,s,S,h,fun v H' t c u d r q=>?_⟩;cases t with
 |ref a =>
  rw[Np] at q;cases l:c a with
  |none=>rw[l] at q;exact q.elim
  |some T =>
  rw[l] at q;cases T with
  |ins W fs=>obtain⟨rfl,B,q⟩:=q;obtain⟨z,vs,y,I⟩:=d a _ l;refine⟨a,z,vs,r.ref,y,mV I B,x,c,_,s.mono u,d,q,fun us J ts i b p U R=>?_⟩;show sH X.K sp (v::(us++[])) J Q E0;rw[W_];exact⟨_,i,D,.cons (r.mono b) U,p,R,k.at (u.trans b)⟩
  |_=>exact q.elim
 |_=>exact q.elim
def El (C:Addr) (sp:Sp3) (t:TA3):Pr:=fun Z H Q=>t Z H fun vs b=>∀a,b a=none->sp (.ref a::vs) (fY b a (.ins C [])) fun v c=>v=.non/\Q (.ref a) c
def JQ (M:MkC X.prog X.w X.K X.mg X.base C n x ps sp) (S:t6 (n+1) X.A) (N:Gl X x) (o:PA3 X (e::es) t) (s:(x==("__debug__":Str))=false:=by decide)
  (O:starEach (e::es) X.env=(false,eval e X.env)::starEach es X.env:=by rfl) (r:(backTo pos (starEach es X.env)).any (·.1)=false:=by rfl):Ho X (.Call (.Name x p) (e::es) [] pos) (El C sp t):=by
 obtain⟨f,fd,R,m,F⟩:=M.ex;refine PE.imp (Ig (dvs:=[]) (E:=E0) R F S N M.at_ m .nil Bx o s O r) ?_;rintro Z H Q ⟨P,H3,Q3,J,W,h,k⟩;refine⟨P,H3,_,J,W,h,fun us H' ts y L j rr q=>fun a c o d B=>?_⟩;show sH X.K sp (V.ref a::(us++[])) _ _ E0;rw[W_];have D:upd H' c (.own a) a=none:=by rw[aK (Ne.symm B)];exact o
 have g:tR X.K H' (upd H' c (.own a)):=aN d;have i:tR X.K (upd H' c (.own a)) (upd (upd H' c (.own a)) a (.ins C c [])):=aN D;refine⟨T.ref a::ts,fY y a (.ins C []),_,.cons .ofRef (rr.mono (g.trans i)),fun b Y l=>?_,q a (j.fresh o),fun v H2 t2 I z u U G=>⟨?_,?_⟩⟩
 ·by_cases m:b=a
  ·subst m;rw[aq] at l;cases l;exact⟨c,[],aY,.nil⟩
  rw[aD m] at l;exact ((j.new d).new D) b Y l
 ·obtain⟨rfl,_⟩:=G;exact U.non
 exact k _ _ _ _ (L.trans (g.trans (i.trans z))) u .ofRef G.2
def Nr:R3:=fun x y H Q=>match y with
 |.non=>Q (.bl (!isN x)) H
 |_=>False
def Wd (x:T) (H:lO) (Q:My):Nr x .non H Q=Q (.bl (!isN x)) H:=rfl
def Rj:d8 X (compareOp .IsNot) Nr:=by
 refine OpR.imp HR ?_;rintro x y H Q ⟨c,ty,H3,g,b,f,d,h,k⟩;cases ty with
 |non =>
  refine⟨f.non,?_⟩;have e:decide (x=.non)=isN c:=by
   cases c with
   |non=>rw[b.non];rfl
   |int i=>rw[b.int];rfl
   |str i=>rw[b.str];rfl
   |bl i=>rw[b.bl];rfl
   |ref a=>rw[b.ref];rfl
   |tup ts=>obtain⟨a,vs,rfl,_⟩:=b.tup;rfl
   |ty n=>rw[b.ty];rfl
  rw[e];exact k _ _ _ _ .refl d .ofBl h
 |_=>exact h.elim
end
open L2 PySem.W
section
variable {O:KeyOrd}
def Kw (O:KeyOrd) (key:Nat->O.α) (n:Nat) {b:Type}:KasT b->(b->Prop)->Prop
 |.ret a,Q=>Q a
 |.ask i j k,Q=>i<n/\j<n/\Kw O key n (k (O.blt (key i) (key j))) Q
def Kw.bind {f:c->KasT b}{Q:b->Prop}:∀{t:KasT c},Kw O key n t (fun a=>Kw O key n (f a) Q)->Kw O key n (t.bind f) Q
 |.ret a,h=>h
 |.ask i j k,h=>⟨h.1,h.2.1,Kw.bind h.2.2⟩
def Kw.wp (e:∀i j (C:Bool->Shared->Prop),i<n->j<n->C (O.blt (key i) (key j)) s->b i j C s) {Q:c->Prop}{R:c->Shared->Prop} (d:∀a,Q a->R a s):
  ∀{t:KasT c},Kw O key n t Q->t.kasWp b R s
 |.ret a,h=>d a h
 |.ask i j k,h=>e i j _ h.1 h.2.1 (Kw.wp e d h.2.2)
structure Pm (n:Nat) (p:Array Nat):Prop where
 pm:p.toList.Perm (List.range n)
 n1:1<=n
def Pm.sz (h:Pm n p):p.size=n:=by
 have:=h.pm.length_eq;rw[C_] at this;simpa using this
def Pm.lt (h:Pm n p) (i:Nat):p.getD i 0<n:=by
 rw[aax];by_cases a:i<p.size
 ·rw[aa0 a];exact Zf.mp (h.pm.mem_iff.mp (by simp))
 rw[Array.getElem?_eq_none (by omega)];exact h.n1
def Pm.by (h:Pm n p) (e:q.Perm p):Pm n q:=⟨(Array.perm_iff_toList_perm.mp e).trans h.pm,h.n1⟩
def Ky (O:KeyOrd) (key:Nat->O.α) (p:Array Nat) (i:Nat):O.α:=key (p.getD i 0)
def Up (O:KeyOrd) (key:Nat->O.α) (p:Array Nat) (k:Nat):Prop:=∀i j,i<=j->j<k->O.kle (Ky O key p i) (Ky O key p j)
def Dn (O:KeyOrd) (key:Nat->O.α) (p:Array Nat) (k:Nat):Prop:=∀i j,i<=j->j<k->O.kle (Ky O key p j) (Ky O key p i)
def Ky.congr (h:p[i]?=q[j]?):Ky O key p i=Ky O key q j:=by unfold Ky;rw[aax,aax,h]
def Ky.mir (a:j<=p.size) (k:Nat):Ky O key (kas_rev p i j) k=if i<=k/\k<j then Ky O key p (i+j - 1 - k) else Ky O key p k:=by
 have e:=getElem?_mirror_all (i:=i) a k;split at e <;> rename_i h
 ·rw[if_pos h];exact Ky.congr e
 rw[if_neg h];exact Ky.congr e
def Ky.mirEq (b:j<=p.size) (a:∀k,i<=k->k<j->Ky O key p k=Ky O key p (j - 1)) (k:Nat):Ky O key (kas_rev p i j) k=Ky O key p k:=by
 rw[Ky.mir b];split
 ·rw[a _ (by omega) (by omega),a k (by omega) (by omega)]
 rfl
def Ky.bub (f:s<p.size) (c:d<=s) (k:Nat):Ky O key (bubble p s d) k=if k=s - d then Ky O key p s else if s - d<k/\k<=s then Ky O key p (k - 1) else Ky O key p k:=by
 have e:=getElem?_bubble f d c k;by_cases a:k=s - d
 ·rw[if_pos a] at e ⊢;exact Ky.congr e
 rw[if_neg a] at e ⊢;by_cases b:s - d<k/\k<=s
 ·rw[if_pos b] at e ⊢;exact Ky.congr e
 rw[if_neg b] at e ⊢;exact Ky.congr e
def Pm.rev (h:Pm n p) (i j:Nat):Pm n (kas_rev p i j):=h.by (mirror_perm _ _ _ _)
def Up.one:Up O key p 1:=fun i j a b=>by
 obtain rfl:i=j:=by omega
 exact aaR _
def Up.more (f:1<=k) (h:Up O key p k) (e:O.kle (Ky O key p (k - 1)) (Ky O key p k)):Up O key p (k+1):=fun i j a d=>by
 by_cases c:j<k
 ·exact h i j a c
 obtain rfl:j=k:=by omega
 by_cases b:i=j
 ·subst b;exact aaR _
 exact KeyOrd.kle_trans (h i (j - 1) (by omega) (by omega)) e
def Dn.more (f:1<=k) (h:Dn O key p k) (e:O.kle (Ky O key p k) (Ky O key p (k - 1))):Dn O key p (k+1):=fun i j a d=>by
 by_cases c:j<k
 ·exact h i j a c
 obtain rfl:j=k:=by omega
 by_cases b:i=j
 ·subst b;exact aaR _
 exact KeyOrd.kle_trans e (h i (j - 1) (by omega) (by omega))
def wO (b:Pm n p):∀(f a:Nat),1<=a->Up O key p a->(∀m,a<=m->m<=a+f->Up O key p m->m=a+f\/O.klt (Ky O key p m) (Ky O key p (m - 1))->Q m)->Kw O key n (kas_asc p f a) Q
 |0,a,_,h,k=>k a (m_ _) (m_ _) h (.inl rfl)
 |f+1,a,ha,h,k=>by
  refine⟨b.lt _,b.lt _,?_⟩
  cases e:O.blt (key (p.getD a 0)) (key (p.getD (a - 1) 0)) with
  |true=>exact k a (m_ _) (by omega) h (.inr e)
  |false=>exact wO b f (a+1) (by omega) (h.more ha e) fun m i g c d=>k m (by omega) (by omega) c (d.imp (fun q=>by omega) id)
def lR:∀(f:Nat) (p:Array Nat) (a q:Nat),Pm n p->1<=a->a+f<=n->Dn O key p a->q+1<=a->(∀i,a - (q+1)<=i->i<a->Ky O key p i=Ky O key p (a - 1)) ->
  (∀b m r,Pm n b->a<=m->m<=a+f->Dn O key b m->r+1<=m->(∀i,m - (r+1)<=i->i<m->Ky O key b i=Ky O key b (m - 1))->Q (b,m,r))->Kw O key n (kas_desc f p a q) Q
 |0,p,a,q,hp,_,_,h,hq,he,k=>k p a q hp (m_ _) (m_ _) h hq he
 |f+1,p,a,q,hp,ha,hn,h,hq,he,k=>by
  refine⟨hp.lt _,hp.lt _,?_⟩
  cases e:O.blt (key (p.getD a 0)) (key (p.getD (a - 1) 0)) with
  |true =>
   have z:a<=p.size:=by rw[hp.sz];omega
   have s:∀b:Array Nat,∀i,a+1 - (0+1)<=i->i<a+1->Ky O key b i=Ky O key b (a+1 - 1):=fun b i v u=>by rw[show i=a+1 - 1 by omega]
   dsimp only
   rw[if_pos rfl]
   by_cases o:q>0
   ·
    rw[if_pos o]
    have t:=Ky.mirEq (O:=O) (key:=key) (i:=a - (q+1)) z he
    refine lR f _ (a+1) 0 (hp.rev _ _) (by omega) (by omega) (Dn.more ha (fun i j v u=>by rw[t,t];exact h i j v u) (by rw[t,t];exact abu e)) (by omega) (s _) fun b m r d x y g l c=>k b m r d (by omega) (by omega) g l c
   ·
    rw[if_neg o]
    exact lR f p (a+1) 0 hp (by omega) (by omega) (h.more ha (abu e)) (by omega) (s _) fun b m r d x y g l c=>k b m r d (by omega) (by omega) g l c
  |false =>
   dsimp only
   rw[if_neg G_]
   refine⟨hp.lt _,hp.lt _,?_⟩
   cases A:O.blt (key (p.getD (a - 1) 0)) (key (p.getD a 0)) with
   |true=>exact k p a q hp (m_ _) (by omega) h hq he
   |false =>
    dsimp only
    rw[if_neg G_]
    have w:Ky O key p a=Ky O key p (a - 1):=KeyOrd.kle_antisymm A e
    refine lR f p (a+1) (q+1) hp (by omega) (by omega) (h.more ha (by rw[w];exact aaR _)) (by omega) (fun i v u=>?_) fun b m r d x y g l c=>k b m r d (by omega) (by omega) g l c
    rw[show a+1 - 1=a by omega]
    by_cases B:i=a
    ·
     rw[B]
    ·
     rw[w];exact he i (by omega) (by omega)
def yF (b:Pm n p) (l:1<=a) (g:a<=n) (h:Dn O key p a) (k:∀m p',Pm n p'->1<=m->m<=n->Up O key p' m->Q (m,p')):Kw O key n (kas_tail3 a n p) Q:=by
 refine Kw.bind (wO (b.rev 0 a) _ a l (fun i j f d=>?_) fun m f d e _=>k m _ (b.rev 0 a) (by omega) (by omega) e);have c:a<=p.size:=by rw[b.sz];exact g
 rw[Ky.mir c,Ky.mir c,if_pos (by omega),if_pos (by omega)];exact h _ _ (by omega) (by omega)
def lu (s:Pm n p) (u:a+1<=n) (h:Dn O key p (a+1)) (k:∀m b,Pm n b->1<=m->m<=n->Up O key b m->Q (m,b)):Kw O key n (kas_descPart a n p) Q:=by
 refine Kw.bind (lR _ p (a+1) 0 s (by omega) (by omega) h (by omega) (fun i f d=>by rw[show i=a+1 - 1 by omega]) fun b m r c t w e v q=>?_);dsimp only;have o:m<=b.size:=by rw[c.sz];omega
 by_cases g:r>0
 ·rw[if_pos g];have l:=Ky.mirEq (O:=O) (key:=key) (i:=m - (r+1)) o q;exact yF (c.rev _ _) (by omega) (by omega) (fun i j f d=>by rw[l,l];exact e i j f d) k
 rw[if_neg g];exact yF c (by omega) (by omega) e k
def Em (a:Pm n p) (k:∀m p',Pm n p'->1<=m->m<=n->Up O key p' m->Q (m,p')):Kw O key n (kas_count n p) Q:=by
 have v:=a.n1;refine Kw.bind (wO a _ 1 (m_ _) Up.one fun m g u d r=>?_);by_cases l:m=n
 ·rw[if_pos (by simpa using l)];exact k m p a g (by omega) d
 rw[if_neg (by simpa using l)];have c:O.klt (Ky O key p m) (Ky O key p (m - 1)):=r.resolve_left (by omega);by_cases h:m>1
 ·rw[if_pos h];refine⟨a.lt _,a.lt _,?_⟩;cases e:O.blt (key (p.getD 0 0)) (key (p.getD (m - 1) 0)) with
  |true=>exact k m p a g (by omega) d
  |false =>
  dsimp only;rw[if_neg G_];have o:m<=p.size:=by rw[a.sz];omega
  have b:∀i,0<=i->i<m->Ky O key p i=Ky O key p (m - 1):=fun i _ s=>KeyOrd.kle_antisymm (d i (m - 1) (by omega) (by omega)) (KeyOrd.kle_trans e (d 0 i (by omega) s));have f:=Ky.mirEq (O:=O) (key:=key) (i:=0) o b;refine lu (a.rev _ _) (by omega) (Dn.more g (fun i j t q=>?_) ?_) k
  ·rw[f,f,b i (by omega) (by omega),b j (by omega) (by omega)];exact aaR _
  rw[f,f];exact abu c
 rw[if_neg h];obtain rfl:m=1:=by omega
 refine lu a (by omega) (Dn.more (m_ _) (fun i j t q=>?_) (abu c)) k;obtain rfl:i=j:=by omega
 exact aaR _
def mW (a:Pm n p):∀(f l r:Nat),l<=r->r<=k->r - l<=f->(∀i,i<l->O.kle (Ky O key p i) (Ky O key p k))->(∀i,r<=i->i<k->O.klt (Ky O key p k) (Ky O key p i))->Up O key p k ->
  (∀l,l<=k->(∀i,i<l->O.kle (Ky O key p i) (Ky O key p k))->(∀i,l<=i->i<k->O.klt (Ky O key p k) (Ky O key p i))->Q l)->Kw O key n (kas_place p k f l r) Q
 |0,l,r,h1,h2,h3,lo,hi,_,q=>by
  obtain rfl:l=r:=by omega
  exact q l h2 lo hi
 |f+1,l,r,h1,h2,h3,lo,hi,hu,q=>by
  unfold kas_place
  by_cases h:l ≥ r
  ·
   obtain rfl:l=r:=by omega
   rw[if_pos h]
   exact q l h2 lo hi
  ·
   rw[if_neg h]
   refine⟨a.lt _,a.lt _,?_⟩
   cases e:O.blt (key (p.getD k 0)) (key (p.getD ((l+r) / 2) 0)) with
   |true=>exact mW a f l ((l+r) / 2) (by omega) (by omega) (by omega) lo (fun i b c=>KeyOrd.klt_of_klt_of_kle e (hu _ i b c)) hu q
   |false=>exact mW a f ((l+r) / 2+1) r (by omega) h2 (by omega) (fun i b=>KeyOrd.kle_trans (hu i ((l+r) / 2) (by omega) (by omega)) e) hi hu q
def En:∀(f:Nat) (p:Array Nat) (k:Nat),Pm n p->k+f=n->Up O key p k->(∀b,Pm n b->Up O key b n->Q b)->Kw O key n (kas_bin f p k) Q
 |0,p,k,hp,e,h,q=>by
  obtain rfl:k=n:=by omega
  exact q p hp h
 |f+1,p,k,hp,e,h,q=>by
  have c:k<p.size:=by rw[hp.sz];omega
  refine Kw.bind (mW hp k 0 k (Zx _) (m_ _) (by omega) (fun _ z=>absurd z (abp _)) (fun _ w o=>absurd o (by omega)) h fun l v r t=>?_)
  refine En f _ (k+1) (hp.by (bubble_perm _ _ _)) (by omega) (fun i j s u=>?_) q
  rw[Ky.bub c (by omega),Ky.bub c (by omega),show k - (k - l)=l by omega]
  by_cases g:i=l
  ·
   rw[if_pos g]
   by_cases a:j=l
   ·
    rw[if_pos a];exact aaR _
   ·
    rw[if_neg a,if_pos (by omega)];exact abu (t _ (by omega) (by omega))
  ·
   rw[if_neg g]
   by_cases m:l<i/\i<=k
   ·
    rw[if_pos m,if_neg (by omega),if_pos (by omega)];exact h _ _ (by omega) (by omega)
   ·
    rw[if_neg m]
    by_cases a:j=l
    ·
     rw[if_pos a];exact r i (by omega)
    ·
     rw[if_neg a]
     by_cases d:l<j/\j<=k
     ·
      rw[if_pos d];exact h _ _ (by omega) (by omega)
     ·
      rw[if_neg d];exact h _ _ s (by omega)
def JR (e:1<=n):Kw O key n (kas_sort n) fun p=>Pm n p/\Up O key p n:=by
 have f:Pm n (List.toArray (List.range n)):=⟨.refl _,e⟩;refine Kw.bind (Em f fun m p c j g d=>?_);dsimp only;by_cases h:m<n
 ·rw[if_pos h,show max m 1=m by omega];exact En _ p m c (by omega) d fun i a b=>⟨a,b⟩
 rw[if_neg h];obtain rfl:m=n:=by omega
 exact⟨c,d⟩
def Kpt (h h':Heap):Prop:=∀b o,h.get? b=some o->h'.get? b=some o
end
def j6:bootBuiltins "sorted"=some (.builtin "sorted"):=by decide +kernel
def Srt (O:KeyOrd) (key:Nat->O.α) (n:Nat) (ps:List Nat):Prop:=ps.Perm (List.range n)/\∀i j,i<=j->j<n->O.kle (key (ps.getD i 0)) (key (ps.getD j 0))
def Srt.of (h:Pm n p) (u:Up O key p n):Srt O key n p.toList:=⟨h.pm,fun i j a b=>by
 have:=u i j a b;unfold Ky at this;rw[aax,aax] at this;rw[h_,h_,abt,abt];exact this⟩
section
variable {s:Shared}{O:KeyOrd}
def mX (l:s.heap.get? a=some (seqObj "list" vs.toArray c)) (q:vs.length<64) (D:2<=vs.length->∀h',(∀b o,b≠a->s.heap.get? b=some o->h'.get? b=some o)->wpAny (model P w) A (keyKind' vs.toArray) (fun y s'=>s'={ s with heap:=h'}/\∀i j (C:Bool->Shared->Prop),i<vs.length->j<vs.length->C (O.blt (key i) (key j)) { s with heap:=h'}->kas_ask P w A y vs i j C { s with heap:=h'}) (fun _ _=>False) { s with heap:=h'}) (h:∀ps,Srt O key vs.length ps->R (.done (.ret .none)) { s with heap:=sortedHeap s.heap a vs (ps.map fun i=>vs.getD i Value.none).toArray}):wpAny (model P w) A (Builtin.«list.sort» ⟨[.ref a],[]⟩) R E s:=by
 have V:a<s.heap.objs.size:=o_ l;have N:vs.length<=sizeLine:=by rw[abh];omega
 rw[list_sort_plain];refine a_ (listItems_at l rfl ?_);refine a_ (listUpdate_at l rfl ?_ (by rw[p_];omega) (Zx _));obtain⟨r,k⟩:∃r,(s.heap.update a (Obj.mapSeq fun _=>(#[]:Array Value))).get? a=some (seqObj "list" #[] r):=⟨_,abq l fun _=>#[]⟩;refine a_ (seqEpoch_at k rfl ?_);refine a_ (wpAny_newTuple ?_ N);refine a_ (abS ?_ (Zx _));refine aaj ?_;have f:(((s.heap.update a (Obj.mapSeq fun _=>(#[]:Array Value))).push (seqObj "tuple" vs.toArray 0)).push (seqObj "list" #[] 0)).get? a=some (seqObj "list" #[] r):=b_ _ (b_ _ k);show wpAny (model P w) A _ R E { s with heap:=((s.heap.update a (Obj.mapSeq fun _=>(#[]:Array Value))).push (seqObj "tuple" vs.toArray 0)).push (seqObj "list" #[] 0)};dsimp only;by_cases g:vs.toArray.size<2
 ·rw[if_pos g,if_pos g];refine a_ (k_ ?_);rw[StateT.run_pure];refine a_ (k_ ?_);dsimp only;rw[p_] at g;refine a_ (seqEpoch_at f rfl ?_);have e:((vs.toArray.zip vs.toArray).map (·.2))=((List.range vs.length).map fun i=>vs.getD i Value.none).toArray:=by
   match vs,g with
   |[],_=>simp
   |[v],_=>simp [List.range_succ]
  show wpAny (model P w) A (Builtin.List.listUpdate (.ref a) (fun _=>(vs.toArray.zip vs.toArray).map (·.2)) >>= _) R E _;rw[e];refine a_ (listUpdate_at f rfl ?_ (Zx _) (by rw[p_,g_,C_];omega));simp only[bne_self_eq_false,y_,Zb];refine k_ (h (List.range vs.length) ⟨.refl _,fun i j U S=>?_⟩);obtain rfl:i=j:=by omega
  exact aaR _
 rw[if_neg g,if_neg g];rw[p_] at g;refine a_ (Zz (D (by omega) _ fun b o I e=>b_ _ (b_ _ ((aaC _ _ _ _ I).trans e))) (fun y s' H=>?_) fun _ _ x=>x.elim);obtain⟨rfl,B⟩:=H;have J:=JR (O:=O) (key:=key) (n:=vs.length) (by omega);refine a_ (Zz (kat_run (G:=fun p s'=>(Pm vs.length p/\Up O key p vs.length)/\s'={ s with heap:=((s.heap.update a (Obj.mapSeq fun _=>(#[]:Array Value))).push (seqObj "tuple" vs.toArray 0)).push (seqObj "list" #[] 0)}) (Q:=fun d s'=>∃p:Array Nat,arrOf d=p.map (kas_item (vs.toArray.zip vs.toArray))/\failedOf d=none/\(Pm vs.length p/\Up O key p vs.length)/\s'={ s with heap:=((s.heap.update a (Obj.mapSeq fun _=>(#[]:Array Value))).push (seqObj "tuple" vs.toArray 0)).push (seqObj "list" #[] 0)}) rfl (by omega) q (fun F d s' T z L u=>⟨F,z,L,u.1,u.2⟩) (J.wp B fun p m=>⟨m,rfl⟩)) ?_ fun _ _ e=>e);rintro⟨⟨⟩,d⟩ s' ⟨p,t,K,⟨m,M⟩,rfl⟩;dsimp only;rw[kat_snds rfl t];refine a_ (seqEpoch_at f rfl ?_);refine a_ (listUpdate_at f rfl ?_ (Zx _) (by rw[p_,g_,m.pm.length_eq,C_];omega));rw[K];simp only[bne_self_eq_false,y_,Zb];exact k_ (h _ (.of m M))
def wQ:Kpt h (sortedAll h vs out)/\∃c,(sortedAll h vs out).get? (h.objs.size+1)=some (seqObj "list" out c):=by
 have f:((h.push (seqObj "list" #[] 0)).update h.objs.size (Obj.mapSeq (·++vs.toArray))).objs.size=h.objs.size+1:=by rw[Heap.size_update,size_push']
 have d:(((h.push (seqObj "list" #[] 0)).update h.objs.size (Obj.mapSeq (·++vs.toArray))).push (seqObj "list" vs.toArray 0)).get? (h.objs.size+1)=some (seqObj "list" vs.toArray 0):=by rw[<- f];exact t_ _ rfl
 refine⟨fun b o e=>?_,?_⟩
 ·have a:b<h.objs.size:=o_ e;unfold sortedAll sortedHeap;rw[aaC _ _ _ _ (K_ (aad a))];refine b_ _ (b_ _ ?_);rw[aaC _ _ _ _ (K_ (aad a))];refine b_ _ ?_;rw[aaC _ _ _ _ (K_ a)];exact b_ _ e
 unfold sortedAll sortedHeap;exact⟨_,abq (b_ _ (b_ _ (abq d fun _=>#[]))) fun _=>out⟩
def ue (e:s.heap.IsTuple l vs.toArray) (f:vs.length<=sizeLine) (h:Q vs { s with heap:=(s.heap.push (seqObj "list" #[] 0)).update s.heap.objs.size (Obj.mapSeq (·++vs.toArray))}):wpAny (model P w) A (collect (.ref l)) Q E s:=by
 obtain⟨o,b,d,n,c⟩:=id e;unfold collect;refine a_ (wpAny_runValue (codeAny_builtin entry_proto_collect' ?_));refine a_ (m:=newList []) (abS (k_ ⟨abI _ (by decide +kernel),codeAny_builtin entry_list_iadd' ?_⟩));show wpAny _ _ (Builtin.List.listExtendWith (.ref s.heap.objs.size) (.ref l) (.ref s.heap.objs.size)) _ _ { s with heap:=s.heap.push (seqObj "list" #[] 0)};unfold Builtin.List.listExtendWith;have a:(s.heap.push (seqObj "list" #[] 0)).get? l=some o:=b_ _ b;refine a_ (abM (T:="tuple") ⟨o,a,d⟩ ?_);rw[if_pos (by rw[show (Value.type "tuple"==Value.type "tuple")=true from rfl,Bool.or_true])];refine a_ (listItems_at a c (a_ (listItems_at (xs:=#[]) (n:=0) (t_ _ rfl) rfl ?_)));rw[if_neg (by simp)];refine a_ (listUpdate_at (xs:=#[]) (n:=0) (t_ _ rfl) rfl ?_ (Zx _) (by show (#[]++vs.toArray).size<=sizeLine+1;simp only[Array.size_append,p_,Zu];omega));refine k_ ?_;refine a_ (m:=load s.heap.objs.size) (wpAny_load (abq (t_ _ rfl) _) ?_);show wpAny _ _ (pure ((#[]:Array Value)++vs.toArray).toList) Q E _;rw[show ((#[]:Array Value)++vs.toArray).toList=vs by simp];exact k_ h
def uf (a:s.heap.IsList l vs.toArray\/s.heap.IsTuple l vs.toArray) (b:vs.length<=sizeLine) (h:Q vs { s with heap:=(s.heap.push (seqObj "list" #[] 0)).update s.heap.objs.size (Obj.mapSeq (·++vs.toArray))}):wpAny (model P w) A (collect (.ref l)) Q E s:=by
 rcases a with a | a
 ·exact collect_list a h b
 exact ue a b h
def sortedK (t:s.heap.IsList l vs.toArray\/s.heap.IsTuple l vs.toArray) (f:vs.length<64) (n:2<=vs.length->∀h',Kpt s.heap h'->wpAny (model P w) A.in1.in1 (keyKind' vs.toArray) (fun κ s'=>s'={ s with heap:=h'}/\∀i j (C:Bool->Shared->Prop),i<vs.length->j<vs.length->C (O.blt (key i) (key j)) { s with heap:=h'}->kas_ask P w A.in1.in1 κ vs i j C { s with heap:=h'}) (fun _ _=>False) { s with heap:=h'}) (h:∀ps h' c,Srt O key vs.length ps->Kpt s.heap h'->h'.get? (s.heap.objs.size+1)=some (seqObj "list" (ps.map fun i=>vs.getD i Value.none).toArray c)->Q (.ref (s.heap.objs.size+1)) { s with heap:=h'}):wpAny (model P w) A (call (.builtin "sorted") [.ref l]) Q E s:=by
 refine Calls.call_function_entry kind_sorted plain_sorted entry_sorted (args_sorted1 _) ?_;unfold Builtin.«sorted»;refine a_ (m:=checkCount "sorted" 1 1 _) (k_ ?_);refine a_ (uf t (by rw[abh];omega) ?_);refine a_ (abS ?_ (by rw[abh];omega));have g:((s.heap.push (seqObj "list" #[] 0)).update s.heap.objs.size (Obj.mapSeq (·++vs.toArray))).objs.size=s.heap.objs.size+1:=by rw[Heap.size_update,size_push']
 have a:(((s.heap.push (seqObj "list" #[] 0)).update s.heap.objs.size (Obj.mapSeq (·++vs.toArray))).push (seqObj "list" vs.toArray 0)).get? (s.heap.objs.size+1)=some (seqObj "list" vs.toArray 0):=by rw[<- g];exact t_ _ rfl
 show wpAny _ _ _ _ _ { s with heap:=((s.heap.push (seqObj "list" #[] 0)).update s.heap.objs.size (Obj.mapSeq (·++vs.toArray))).push (seqObj "list" vs.toArray 0)};rw[g];refine a_ (aaj (aak slot_list_sort ⟨_,a,rfl⟩ entry_list_sort (mX (O:=O) (key:=key) a f (fun k h' d=>n k h' fun b o e=>d b o ?_ ?_) fun ps p=>⟨_,rfl,?_⟩) (args_list_sort _)))
 ·exact K_ (aad (o_ e))
 ·have r:b<s.heap.objs.size:=o_ e;refine b_ _ ?_;rw[aaC _ _ _ _ (K_ r)];exact b_ _ e
 obtain⟨d,c,q⟩:=wQ (h:=s.heap) (vs:=vs) (out:=(ps.map fun i=>vs.getD i Value.none).toArray);exact k_ ⟨_,rfl,h ps _ c p d q⟩
end
open L2 PySem.W M
@[reducible] def acY:KeyOrd:=strKind.toKeyOrd
def z9 (x:Str):acY.α:=x.cps.toList
section
variable {X:Cx}{pins:List (Addr × Obj)}{Z:L2.St}
def Rk (I:Inv X pins Z H s) (P:tL X.K H3 H) (k:KV3 X.K H Q3 Q) {u:Type} (O:KeyOrd) (key:u->O.α) (f:u->T) (m:u) {d:List u} (N:lX X.K H (d.map f) n) (v:Vals n b) (U:s.heap.IsList a b.toArray\/s.heap.IsTuple a b.toArray) (S:d.length<64) (W:2<=b.length->∀h',Kpt s.heap h'->wpAny (model X.prog X.w) X.A.in1.in1 (keyKind' b.toArray) (fun κ s'=>s'={ s with heap:=h'}/\∀i j (C:Bool->Shared->Prop),i<b.length->j<b.length->C (O.blt (key (d.getD i m)) (key (d.getD j m))) { s with heap:=h'}->kas_ask X.prog X.w X.A.in1.in1 κ b i j C { s with heap:=h'}) (fun _ _=>False) { s with heap:=h'}) (h:∀us:List u,us.Perm d->us.Pairwise (fun x y=>O.kle (key x) (key y))->∀p,H3 p=none->Q3 (.ref p) (fY H3 p (.lst (us.map f)))):wpAny (model X.prog X.w) X.A (call (.builtin "sorted") [.ref a]) (EP X pins Z Q) X.xe s:=by
 have Y:=N.length;rw[g_] at Y;have l2:=v.length;have hz:sizeLine=16777216:=rfl;refine sortedK (O:=O) (key:=fun i=>key (d.getD i m)) U (by omega) W fun q h' c hs kp B=>?_;obtain⟨o,J⟩:=hs;have g:∀i∈q,i<d.length:=fun i e=>by have:=Zf.mp (o.mem_iff.mp e);omega
 have r:q.length=d.length:=by rw[o.length_eq,C_];omega
 have M:lX X.K H ((q.map fun i=>d.getD i m).map f) (q.map fun i=>n.getD i .non):=by
  clear J o r B;induction q with
  |nil=>exact .nil
  |cons i q L =>
  refine .cons ?_ (L fun j l=>g j (.tail _ l));have e:=g i (.head _);obtain⟨y,D,F⟩:=N.get (i:=i) (t:=f d[i]) (by rw[B_,e_ e];rfl);dsimp only;rw[h_,e_ e,h_,D];exact F
 have R:Vals (q.map fun i=>n.getD i .non) (q.map fun i=>b.getD i Value.none):=by
  clear J o r M B;induction q with
  |nil=>exact .nil
  |cons i q L =>
  refine .cons ?_ (L fun j l=>g j (.tail _ l));have e:i<n.length:=by have:=g i (.head _);omega
  obtain⟨z,D,F⟩:=v.get (i:=i) (e_ e);dsimp only;rw[h_,e_ e,h_,D];exact F
 have G:H (s.heap.objs.size+1)=none:=I.hok.fresh (aaE _);refine⟨.ref (s.heap.objs.size+1),upd H (s.heap.objs.size+1) (.lst (q.map fun i=>n.getD i .non)),I.laid (t':=s.toks) kp (aaE _) ⟨by rw[g_];omega,_,c,R,B⟩,rfl,?_⟩;refine k _ _ _ _ (aN G) (P.newLst G M) .ofRef (h _ ?_ ?_ _ (P.fresh G))
 ·have E:=o.map fun i=>d.getD i m;rw[show b.length=d.length by omega] at E;have e2:(List.range d.length).map (fun i=>d.getD i m)=d:=by
   apply aa5;intro i;rw[B_];by_cases e:i<d.length
   ·rw[Zg e,e_ e];simp [h_,e]
   rw[N_ (by simpa using e),N_ (by omega)];rfl
  rw[e2] at E;exact E
 rw[aaF];intro i j e l hij;rw[g_] at e l;have:=J i j (by omega) (by omega);rw[h_,e_ e,h_,e_ l] at this;rw[aaI,aaI];exact this
def qJ:∀{d:List Str}{e:List V}{c:List Value},lX X.K H (d.map T.str) e->Vals e c->StrsAre c d
 |[],_,_,r,a=>by rw[r.inv0] at a;cases a;exact .nil
 |x::d,_,_,r,a=>by
  obtain⟨v,g,rfl,q,b⟩:=r.inv
  cases a with
  |cons f a =>
   cases q.str
   obtain⟨t,rfl⟩:=f
   exact .cons x t (qJ b a)
def StrsAre.get (h:StrsAre a c):∀i,i<a.length->∃t,a.getD i Value.none=Value.str (c.getD i default) t:=by
 induction h with
 |nil=>intro i b;exact absurd b (abp _)
 |cons x t _ d =>
 intro i b;cases i with
 |zero=>exact⟨t,rfl⟩
 |succ i=>exact d i (by simpa using b)
def StrsAre.len (h:StrsAre a b):a.length=b.length:=by
 induction h with
 |nil=>rfl
 |cons x t _ c=>rw[j_,j_,c]
def Eo (I:Inv X pins Z H s) (z:tL X.K H3 H) (k:KV3 X.K H Q3 Q) (g:lX X.K H (d.map T.str) l) (c:Vals l b) (B:s.heap.IsList a b.toArray\/s.heap.IsTuple a b.toArray) (e:d.length<64) (h:∀us:List Str,us.Perm d->us.Pairwise (fun x y=>acY.kle (z9 x) (z9 y))->∀p,H3 p=none->Q3 (.ref p) (fY H3 p (.lst (us.map T.str)))):wpAny (model X.prog X.w) X.A (call (.builtin "sorted") [.ref a]) (EP X pins Z Q) X.xe s:=by
 have f:=qJ g c;refine Rk I z k acY z9 T.str default g c B e (fun o h' F=>?_) h;refine kas_kind (T:=.type "str") (s:={ s with heap:=h'}) o (fun v r=>?_) rfl rfl ⟨rfl,fun i j C q E n=>?_⟩
 ·obtain⟨x,t,rfl⟩:=f.all v r;exact Looks.of_pure rfl
 obtain⟨t,D⟩:=StrsAre.get f i q;obtain⟨u,m⟩:=StrsAre.get f j E;unfold kas_ask;rw[D,m];exact kas_lt_str n
end
def leS (x y:Str):Prop:=acY.kle (z9 x) (z9 y)
def srL (x:T) (H:lO) (Q:My):Prop:=∃(b:List Str) (a:Addr),x=.ref a/\H a=some (.lst (b.map T.str))/\b.length<64/\∀us:List Str,us.Perm b->us.Pairwise leS->∀p,H p=none->Q (.ref p) (fY H p (.lst (us.map T.str)))
def Ep:List T->lO->My->Prop:=fun ts H Q=>match ts with
 |[x]=>srL x H Q
 |_=>False
def Rm (x:T) (H:lO) (Q:My):Ep [x] H Q=srL x H Q:=rfl
def JS:dz X (.builtin "sorted") Ep:=by
 intro f s Z H xs us Q I j h;obtain⟨ts,H3,p,r,g,h,k⟩:=h;cases ts with
 |nil=>exact h.elim
 |cons t ts =>
 cases ts with
 |cons _ _=>exact h.elim
 |nil =>
 obtain⟨v,rfl,d⟩:=r.one';obtain⟨u,rfl,e⟩:=vals1 j;obtain⟨q,a,rfl,o,c,h⟩:=h;rw[d.ref] at e;cases e;obtain⟨w,m,l⟩:=g.sqL (.inl o);obtain⟨i,b,n,_⟩:=I.list m;exact Eo I g k l b (.inl n.isList) c h
def Aa (r:KV kvs vs):∀(us:List Value),us.length=vs.length->(∀(j:Nat) (v:Value),us[j]?=some v->∃k x,vs[j]?=some (k,x)/\(bI P w).is k v=true)->Vals (kvs.map fun q=>kV q.1) us:=by
 induction r with
 |nil=>intro us h _;rw[aap h];exact .nil
 |cons l n m =>
 intro us f a;cases us with
 |nil=>cases f
 |cons u us =>
 refine .cons ?_ (m us (Nat.succ.inj f) fun j v e=>a (j+1) v e);obtain⟨k,x,e,g⟩:=a 0 u rfl;cases e;obtain⟨d,_⟩:=l;dsimp only at d ⊢;rw[d];rcases bL g with ⟨i,t,c,b⟩ | ⟨y,t,c,b⟩
 ·rw[c,b];exact⟨t,rfl⟩
 rw[c,b];exact⟨t,rfl⟩
def Ab {K:Frag} (r:acK K H kvs vs):lX K H (kvs.map fun q=>T.str q.1) (vs.map fun q=>kV q.1):=by
 induction r with
 |nil=>exact .nil
 |cons h _ a =>
 refine .cons ?_ a;dsimp only;rw[h.1];exact .ofStr
def JT:Kpt h (sortedHeap (h.push (seqObj "list" vs.toArray 0)) h.objs.size vs out)/\∃c,(sortedHeap (h.push (seqObj "list" vs.toArray 0)) h.objs.size vs out).get? h.objs.size=some (seqObj "list" out c):=by
 have a:(h.push (seqObj "list" vs.toArray 0)).get? h.objs.size=some (seqObj "list" vs.toArray 0):=t_ _ rfl;refine⟨fun b o e=>?_,?_⟩
 ·have d:b<h.objs.size:=o_ e;unfold sortedHeap;rw[aaC _ _ _ _ (K_ d)];refine b_ _ (b_ _ ?_);rw[aaC _ _ _ _ (K_ d)];exact b_ _ e
 unfold sortedHeap;exact⟨_,abq (b_ _ (b_ _ (abq a fun _=>#[]))) fun _=>out⟩
section
variable {P:Program}{w:World}{A:Around}{O:KeyOrd}
def JV (n:∀A' E',A'.handled=A.handled->wpAny (model P w) A' (collect x) (fun vs s1=>vs.length<64 /\
   (2<=vs.length->∀h',Kpt s1.heap h'->wpAny (model P w) A.in1.in1 (keyKind' vs.toArray) (fun κ s'=>s'={ s1 with heap:=h'}/\∀i j (C:Bool->Shared->Prop),i<vs.length->j<vs.length->C (O.blt (key i) (key j)) { s1 with heap:=h'}->kas_ask P w A.in1.in1 κ vs i j C { s1 with heap:=h'}) (fun _ _=>False) { s1 with heap:=h'}) /\
   ∀ps h' c,Srt O key vs.length ps->Kpt s1.heap h'->h'.get? s1.heap.objs.size=some (seqObj "list" (ps.map fun i=>vs.getD i Value.none).toArray c)->Q (.ref s1.heap.objs.size) { s1 with heap:=h'}) E' s):wpAny (model P w) A (call (.builtin "sorted") [x]) Q E s:=by
 refine Calls.call_function_entry kind_sorted plain_sorted entry_sorted (args_sorted1 _) ?_;unfold Builtin.«sorted»;refine a_ (m:=checkCount "sorted" 1 1 _) (k_ ?_);refine a_ (Zz (n _ _ rfl) (fun vs s1 l=>?_) fun _ _ e=>e);obtain⟨f,k,h⟩:=l;refine a_ (abS ?_ (by rw[abh];omega));have a:(s1.heap.push (seqObj "list" vs.toArray 0)).get? s1.heap.objs.size=some (seqObj "list" vs.toArray 0):=t_ _ rfl;refine a_ (aaj (aak slot_list_sort ⟨_,a,rfl⟩ entry_list_sort (mX (O:=O) (key:=key) a f (fun g h' d=>k g h' fun b o e=>d b o ?_ ?_) fun ps q=>⟨_,rfl,?_⟩) (args_list_sort _)))
 ·exact K_ (o_ e)
 ·exact b_ _ e
 obtain⟨d,c,p⟩:=JT (h:=s1.heap) (vs:=vs) (out:=(ps.map fun i=>vs.getD i Value.none).toArray);exact k_ ⟨_,rfl,h ps _ c q d p⟩
def ug {T:String} (K:KdlSrc P w T r d n v z) (D:A.handled=none) (l:z s.heap) (F:n<=sizeLine) (h:∀h' tk a,Kpt s.heap h'->s.heap.objs.size<h'.objs.size->ItemsOf v a n->Q a.toList { s with heap:=h',toks:=tk}):wpAny (model P w) A (collect (.ref r)) Q E s:=by
 have k:=K.there _ l;unfold collect;refine a_ (wpAny_runValue (codeAny_builtin entry_proto_collect' ?_));refine a_ (m:=newList []) (abS (k_ ⟨abI _ (by decide +kernel),codeAny_builtin entry_list_iadd' ?_⟩))
 let st:Shared:={ s with heap:=s.heap.push (seqObj "list" #[] 0)}
 let G:Result->Shared->Prop:=fun q t=>∃h' tk a c,q=.ok (.ret (.ref s.heap.objs.size))/\t={ s with heap:=h',toks:=tk}/\Kpt s.heap h'/\h'.get? s.heap.objs.size=some (seqObj "list" a c)/\ItemsOf v a n
 have key:=kdl_extend (A:=A) (s:=st) (R:=G) K D (K.keep _ _ l fun b _ o e=>b_ _ e) s.heap.objs.size (Zd k.1) (Zd k.2) (.ref s.heap.objs.size) 0 (t_ _ rfl) (fun h' tk a c C i g=>⟨h',tk,a,c,rfl,rfl,fun b o e=>C b o (K_ (o_ e)) (b_ _ e),i,g⟩) F;have j:∀q t,G q t->∃h' tk a c,q=.ok (.ret (.ref s.heap.objs.size))/\h'.get? s.heap.objs.size=some (seqObj "list" a c)/\t={ s with heap:=h',toks:=tk}/\Q a.toList t:=by rintro q t ⟨h',tk,a,c,p,rfl,B,i,g⟩;exact⟨h',tk,a,c,p,i,rfl,h h' tk a B (o_ i) g⟩
 refine Zz (A:=A.in1) key (fun f t x=>?_) fun e t x=>?_
 ·cases f with
  |done f=>obtain⟨h',tk,a,c,p,i,rfl,u⟩:=j _ _ x;cases p;exact a_ (m:=load s.heap.objs.size) (wpAny_load i (k_ u))
  |again H =>
  refine⟨x.1,abw x.2 fun q t y=>?_⟩;obtain⟨h',tk,a,c,rfl,i,rfl,u⟩:=j _ _ y;exact a_ (m:=load s.heap.objs.size) (wpAny_load i (k_ u))
 obtain⟨_,_,_,_,p,_⟩:=j _ _ x;cases p
variable {X:Cx}{pins:List (Addr × Obj)}{Z:L2.St}
def Er (I:Inv X pins Z H s) (sh:tL X.K H3 H) (k:KV3 X.K H Q3 Q) (hh:X.A.handled=none) (ha:H3 a=some (.dct kvs)) (h64:kvs.length<64) (h:∀us:List Str,us.Perm (kvs.map (·.1))->us.Pairwise leS->∀p,H3 p=none->Q3 (.ref p) (fY H3 p (.lst (us.map T.str)))):wpAny (model X.prog X.w) X.A (call (.builtin "sorted") [.ref a]) (EP X pins Z Q) X.xe s:=by
 obtain⟨vs,L,rd⟩:=sh a _ ha;obtain⟨z,hd,Y,M,dd⟩:=rQ I.hok L;obtain⟨o,es,ep,h1,h2,h3,h4,h5,h6⟩:=dd;have hl:=M.length;have hl2:=aa7 rd;refine JV (O:=acY) (key:=fun i=>z9 ((kvs.map (·.1)).getD i default)) fun A' E' hA=>?_;refine ug (kdl_dict (knd:=bI X.prog X.w) (kvs:=Y) (ep:=ep) hd) (hA.trans hh) ⟨o,es,h1,h2,h3,h4,h5,h6⟩ (by omega) fun h' tk F kp E m=>?_;have l:=Aa (P:=X.prog) (w:=X.w) M F.toList (by rw[aaT];exact m.1) fun j v e=>m.2 j v (by rw[<- abt];exact e);have rs:=Ab rd;have f:lX X.K H ((kvs.map (·.1)).map T.str) (vs.map fun q=>kV q.1):=by rw[Zh];exact rs
 have R:=qJ f l;have l3:=StrsAre.len R;rw[g_] at l3;generalize hys:(vs.map fun q=>kV q.1)=S at l f;generalize F.toList=B at *;have l1:=f.length;rw[g_,g_] at l1;have l2:=l.length;have hz:sizeLine=16777216:=rfl;refine⟨by omega,fun g2 g' kq=>?_,fun q g' c hs kq U=>?_⟩
 ·refine kas_kind (T:=.type "str") (s:={ s with heap:=g',toks:=tk}) g2 (fun v hv=>?_) rfl rfl ⟨rfl,fun i j C d n hC=>?_⟩
  ·obtain⟨x,t,rfl⟩:=R.all v hv;exact Looks.of_pure rfl
  obtain⟨t,J⟩:=StrsAre.get R i d;obtain⟨u,L⟩:=StrsAre.get R j n;unfold kas_ask;rw[J,L];exact kas_lt_str hC
 obtain⟨D,hu⟩:=hs;have g:∀i∈q,i<kvs.length:=fun i d=>by have:=Zf.mp (D.mem_iff.mp d);omega
 have G:q.length=kvs.length:=by rw[D.length_eq,C_];omega
 have ry:lX X.K H ((q.map fun i=>(kvs.map (·.1)).getD i default).map T.str) (q.map fun i=>S.getD i .non):=by
  clear hu D G U;induction q with
  |nil=>exact .nil
  |cons i q ih =>
  refine .cons ?_ (ih fun j n=>g j (.tail _ n));have d:=g i (.head _);have r:i<(kvs.map (·.1)).length:=by rw[g_];exact d
  obtain⟨y,J,W⟩:=f.get (i:=i) (t:=T.str ((kvs.map (·.1))[i])) (by rw[B_,e_ r];rfl);dsimp only;rw[h_,e_ r,h_,J];exact W
 have rz:Vals (q.map fun i=>S.getD i .non) (q.map fun i=>B.getD i Value.none):=by
  clear hu D G ry U;induction q with
  |nil=>exact .nil
  |cons i q ih =>
  refine .cons ?_ (ih fun j n=>g j (.tail _ n));have d:i<S.length:=by have:=g i (.head _);omega
  obtain⟨z,J,W⟩:=l.get (i:=i) (e_ d);dsimp only;rw[h_,e_ d,h_,J];exact W
 have N:s.heap.objs.size<=h'.objs.size:=aar E;have hf:H h'.objs.size=none:=I.hok.fresh N;refine⟨.ref h'.objs.size,upd H h'.objs.size (.lst (q.map fun i=>S.getD i .non)),I.laid (t':=tk) (fun b o e=>kq b o (kp b o e)) N ⟨by rw[g_];omega,_,c,rz,U⟩,rfl,?_⟩;refine k _ _ _ _ (aN hf) (sh.newLst hf ry) .ofRef (h _ ?_ ?_ _ (sh.fresh hf))
 ·have V:=D.map fun i=>(kvs.map (·.1)).getD i default;rw[show B.length=(kvs.map (·.1)).length by rw[g_];omega] at V;have L:(List.range (kvs.map (·.1)).length).map (fun i=>(kvs.map (·.1)).getD i default)=kvs.map (·.1):=by
   apply aa5;intro i;rw[B_];by_cases d:i<(kvs.map (·.1)).length
   ·rw[Zg d,e_ d,aa3,h_,e_ d];rfl
   rw[N_ (by simpa using d),N_ (by omega)];rfl
  rw[L] at V;exact V
 rw[aaF];intro i j d n hij;rw[g_] at d n;have:=hu i j (by omega) (by omega);rw[h_,e_ d,h_,e_ n] at this;rw[aaI,aaI];exact this
def sdD (o:Option O3) (H:lO) (Q:My):Prop:=match o with
 |some (.dct kvs)=>kvs.length<64/\∀us:List Str,us.Perm (kvs.map (·.1))->us.Pairwise leS->∀p,H p=none->Q (.ref p) (fY H p (.lst (us.map T.str)))
 |_=>False
def Et:List T->lO->My->Prop:=fun ts H Q=>match ts with
 |[.ref a]=>sdD (H a) H Q
 |_=>False
def Rn (a:Addr) (H:lO) (Q:My):Et [.ref a] H Q=sdD (H a) H Q:=rfl
def We (kvs:List (Str × T)) (H:lO) (Q:My):sdD (some (.dct kvs)) H Q=(kvs.length<64/\∀us:List Str,us.Perm (kvs.map (·.1))->us.Pairwise leS->∀p,H p=none->Q (.ref p) (fY H p (.lst (us.map T.str)))):=rfl
def JW (j:t6 n X.A):dz X (.builtin "sorted") Et:=by
 intro d s Z H xs us Q I f h;obtain⟨ts,H3,g,r,i,h,k⟩:=h
 match ts,h,r with
 |[.ref a],h,r =>
 obtain⟨v,rfl,b⟩:=r.one';obtain⟨u,rfl,c⟩:=vals1 f;rw[b.ref] at c;cases c;have h':sdD (H3 a) H3 g:=h;unfold sdD at h';split at h'
 ·rename_i kvs e;exact Er I i k j.hd e h'.1 h'.2
 exact h'.elim
end
@[reducible] def ac9:KeyOrd where
 α:=Int × Int × Int
 blt x y:=decide (x.1<y.1\/(x.1=y.1/\(x.2.1<y.2.1\/(x.2.1=y.2.1/\x.2.2<y.2.2))))
 irrefl a:=by rw[aat];omega
 trans a b c h1 h2:=by rw[abN] at *;omega
 negTrans a b c h:=by rw[abN] at h;rw[abN,abN];omega
 total a b h1 h2:=by
  rw[aat] at h1 h2;obtain⟨i,d,m⟩:=a;obtain⟨g,k,j⟩:=b;dsimp only at h1 h2;have l:i=g:=by omega
  have e:d=k:=by omega
  have f:m=j:=by omega
  rw[l,e,f]
def JX (x y:Int × Int × Int):Prop:=ac9.kle x y
def trT (p:Int × Int × Int):T:=.tup [.int p.1,.int p.2.1,.int p.2.2]
section
variable {X:Cx}{pins:List (Addr × Obj)}{Z:L2.St}
def Ro (h:Heap) (p:Int × Int × Int) (v:Value):Prop:=∃a o n t u z,v=.ref a/\h.get? a=some o/\o.cls=.type "tuple"/\o.data=.seq #[.int p.1 t,.int p.2.1 u,.int p.2.2 z] n
def wR (I:Inv X pins Z H s) (m:Kpt s.heap h'):∀{ps:List (Int × Int × Int)}{y:List V}{d:List Value},lX X.K H (ps.map trT) y->Vals y d ->
  d.length=ps.length/\(∃fs,KatTups h' d fs/\fs.length=d.length/\∀v∈fs,∃x t,v=Value.int x t)/\∀(i:Nat) (p:Int × Int × Int),ps[i]?=some p->∃v,d[i]?=some v/\Ro h' p v
 |[],_,_,r,f=>by
  rw[r.inv0] at f
  cases f
  exact⟨rfl,⟨[],.nil,rfl,(fun _ z=>nomatch z)⟩,(fun _ _ z=>nomatch z)⟩
 |p::ps,_,_,r,f=>by
  obtain⟨v,r',rfl,q,b⟩:=r.inv
  cases f with
  |cons A f =>
   rename_i u us
   obtain⟨T,⟨fs,C,D,F⟩,E⟩:=wR I m b f
   obtain⟨a,xs,rfl,N,M⟩:=Rep.tup q
   cases A
   obtain⟨l,c,⟨o,B,k,n,w⟩,_⟩:=I.tuple N
   obtain⟨v1,Y,rfl,P,G⟩:=M.inv
   obtain⟨W,r2,rfl,R,L⟩:=G.inv
   obtain⟨v3,r3,rfl,Q,U⟩:=L.inv
   rw[U.inv0] at c
   cases P.int
   cases R.int
   cases Q.int
   cases c with
   |cons O c =>
   cases c with
   |cons J c =>
   cases c with
   |cons S c =>
   cases c
   obtain⟨t,rfl⟩:=O
   obtain⟨t',rfl⟩:=J
   obtain⟨j,rfl⟩:=S
   have g:=m a o B
   refine⟨by simp [T],⟨.int p.1 t::fs,.cons g k w rfl C,by simp [D],fun z h=>?_⟩,fun i z h=>?_⟩
   ·
    rcases x_.mp h with e | e
    ·
     exact⟨_,_,e⟩
    ·
     exact F z e
   ·
    cases i with
    |zero=>cases h;exact⟨_,rfl,a,o,n,t,t',j,rfl,g,k,w⟩
    |succ i=>exact E i z h
def Wf (e:s'.heap=h') (k:Ro h' x u) (m:Ro h' y v) (h:C (ac9.blt x y) s'):
  wpAny (model P w) A (keyLt' (tuples' true) u v) C E s':=by
 obtain⟨a,o,n,z,r,t,rfl,j,s,l⟩:=k;obtain⟨b,F,q,G,B,D,rfl,c,p,d⟩:=m;subst e;refine kat_lt j l c d ?_;dsimp only[ac9] at h;refine kat_cons (abH _ _ _ _ P w _ _ ?_);by_cases i:x.1=y.1
 ·rw[show (x.1==y.1)=true from aan.mpr i];refine kat_yes (kat_cons (abH _ _ _ _ P w _ _ ?_));by_cases g:x.2.1=y.2.1
  ·rw[show (x.2.1==y.2.1)=true from aan.mpr g];refine kat_yes (kat_cons (abH _ _ _ _ P w _ _ ?_));by_cases f:x.2.2=y.2.2
   ·rw[show (x.2.2==y.2.2)=true from aan.mpr f];refine kat_yes (kat_nil ?_);rw[I_ (by omega)] at h;exact h
   rw[show (x.2.2==y.2.2)=false from Zy.mpr f];refine kat_no (kat_one _ _ (wpAny_lt_int ?_));rw[show decide (x.1<y.1\/(x.1=y.1/\(x.2.1<y.2.1\/(x.2.1=y.2.1/\x.2.2<y.2.2))))=decide (x.2.2<y.2.2) from aau.mpr (by omega)] at h;exact h
  rw[show (x.2.1==y.2.1)=false from Zy.mpr g];refine kat_no (kat_one _ _ (wpAny_lt_int ?_));rw[show decide (x.1<y.1\/(x.1=y.1/\(x.2.1<y.2.1\/(x.2.1=y.2.1/\x.2.2<y.2.2))))=decide (x.2.1<y.2.1) from aau.mpr (by omega)] at h;exact h
 rw[show (x.1==y.1)=false from Zy.mpr i];refine kat_no (oneLt_int ?_);rw[show decide (x.1<y.1\/(x.1=y.1/\(x.2.1<y.2.1\/(x.2.1=y.2.1/\x.2.2<y.2.2))))=decide (x.1<y.1) from aau.mpr (by omega)] at h;exact h
end
def srT (o:Option O3) (H:lO) (Q:My):Prop:=match o with
 |some (.lst ts)=>∃ps:List (Int × Int × Int),ts=ps.map trT/\ps.length<64/\∀us:List (Int × Int × Int),us.Perm ps->us.Pairwise JX->∀p,H p=none->Q (.ref p) (fY H p (.lst (us.map trT)))
 |_=>False
def Eu:List T->lO->My->Prop:=fun ts H Q=>match ts with
 |[.ref a]=>srT (H a) H Q
 |_=>False
def Ew (a:Addr) (H:lO) (Q:My):Eu [.ref a] H Q=srT (H a) H Q:=rfl
def Wg (ts:List T) (H:lO) (Q:My):srT (some (.lst ts)) H Q=(∃ps:List (Int × Int × Int),ts=ps.map trT/\ps.length<64/\∀us:List (Int × Int × Int),us.Perm ps->us.Pairwise JX->∀p,H p=none->Q (.ref p) (fY H p (.lst (us.map trT)))):=rfl
def JZ:dz X (.builtin "sorted") Eu:=by
 intro Y s Z H xs us Q I rv h;obtain⟨ts,H3,Q3,r,R,h,k⟩:=h;cases ts with
 |nil=>exact h.elim
 |cons t ts =>
 cases ts with
 |cons _ _=>cases t <;> exact h.elim
 |nil =>
 cases t with
 |ref a =>
  rw[Ew] at h;obtain⟨v,rfl,B⟩:=r.one';obtain⟨u,rfl,V⟩:=vals1 rv;rw[B.ref] at V;cases V;cases e:H3 a with
  |none=>rw[e] at h;exact h.elim
  |some o =>
  rw[e] at h;cases o with
  |lst ls =>
   obtain⟨ps,rfl,h64,h⟩:=h;obtain⟨w,sq,A⟩:=R.sqL (.inl e);obtain⟨E,g,hl,_⟩:=I.list sq;have N:=(wR I (fun _ _ q=>q) A g).1
   let key:Nat->ac9.α:=fun i=>ps.getD i default
   refine sortedK (O:=ac9) (key:=key) (.inl hl.isList) (by omega) (fun h2 h' P=>?_) fun q h' c hs P D=>?_
   ·obtain⟨_,⟨fs,kt,hfl,F⟩,p⟩:=wR I P A g;refine kat_kind (T:=.type "int") (s:={ s with heap:=h'}) kt (by omega) (fun v hv=>?_) rfl ⟨rfl,fun i j C b f hC=>?_⟩
    ·obtain⟨x,t,rfl⟩:=F v hv;exact Looks.of_pure rfl
    have gi:ps[i]?=some (ps.getD i default):=by rw[h_,e_ (by omega)];rfl
    have gj:ps[j]?=some (ps.getD j default):=by rw[h_,e_ (by omega)];rfl
    obtain⟨vi,n,p1⟩:=p i _ gi;obtain⟨vj,G,p2⟩:=p j _ gj;unfold kas_ask;rw[h_,h_,n,G];exact Wf rfl p1 p2 hC
   obtain⟨l,S⟩:=hs;have d:∀i∈q,i<ps.length:=fun i b=>by rw[<- N];exact Zf.mp (l.mem_iff.mp b)
   have l1:=A.length;rw[g_] at l1;have m:q.length=ps.length:=by rw[l.length_eq,C_,N]
   have hz:sizeLine=16777216:=rfl;have W:lX X.K H ((q.map fun i=>ps.getD i default).map trT) (q.map fun i=>w.getD i .non):=by
    clear S l m D;induction q with
    |nil=>exact .nil
    |cons i q U =>
    refine .cons ?_ (U fun j f=>d j (.tail _ f));have b:=d i (.head _);obtain⟨y,n,L⟩:=A.get (i:=i) (t:=trT ps[i]) (by rw[B_,e_ b];rfl);dsimp only;rw[h_,e_ b,h_,n];exact L
   have rz:Vals (q.map fun i=>w.getD i .non) (q.map fun i=>E.getD i Value.none):=by
    clear S l m W D;induction q with
    |nil=>exact .nil
    |cons i q U =>
    refine .cons ?_ (U fun j f=>d j (.tail _ f));have b:=d i (.head _);obtain⟨z,n,L⟩:=g.get (i:=i) (e_ (show i<w.length by omega));dsimp only;rw[h_,e_ (show i<w.length by omega),h_,n];exact L
   have M:H (s.heap.objs.size+1)=none:=I.hok.fresh (aaE _);refine⟨.ref (s.heap.objs.size+1),upd H (s.heap.objs.size+1) (.lst (q.map fun i=>w.getD i .non)),I.laid (t':=s.toks) P (aaE _) ⟨by rw[g_];omega,_,c,rz,D⟩,rfl,?_⟩;refine k _ _ _ _ (aN M) (R.newLst M W) .ofRef (h _ ?_ ?_ _ (R.fresh M))
   ·have J:=l.map fun i=>ps.getD i default;rw[N] at J;have G:(List.range ps.length).map (fun i=>ps.getD i default)=ps:=by
     apply aa5;intro i;rw[B_];by_cases b:i<ps.length
     ·rw[Zg b,e_ b];simp [h_,b]
     rw[N_ (by simpa using b),N_ (by omega)];rfl
    rw[G] at J;exact J
   rw[aaF];intro i j b f hij;rw[g_] at b f;have:=S i j (by omega) (by omega);rw[h_,e_ b,h_,e_ f] at this;rw[aaI,aaI];exact this
  |_=>exact h.elim
 |_=>cases h
def J0 (f:A.handled=none) (it t:Addr) (d:t≠it) (a:Array Value) (k:Nat) (b:a[k]?=none):
  Draws prog w A it [it,t] k (fun _ _=>True) (fun i h=>i=k/\h.IsListIter it t i/\h.IsList t a) where
 live:=fun _ _ st=>let ⟨o,ho,_⟩:=st.2.1;⟨o,ho⟩
 frame:=fun _ _ _ st b=>⟨st.1,st.2.1.at fun o e=>b it (by simp) o e,st.2.2.at fun o e=>b t (by simp) o e⟩
 item:=fun i s Q E g st j=>absurd st.1 (K_ g)
 done:=fun s Q E st c=>wpAny_nextOf_list_end f st.2.1 st.2.2 b c
structure SqK where
 Sq:Frag->Hp->Addr->List V->Prop
 It:Heap->Addr->Addr->Nat->Prop
 Is:Heap->Addr->Array Value->Prop
 itAt:∀{h h':Heap} {it a:Addr} {i:Nat},It h it a i->(∀o,h.get? it=some o->h'.get? it=some o)->It h' it a i
 itOb:∀{h:Heap} {it a:Addr} {i:Nat},It h it a i->∃o,h.get? it=some o/\∀v,o.data≠.cell v
 lt:∀{h:Heap} {a:Addr} {xs:Array Value},Is h a xs->a<h.objs.size
 seq:∀{X:Cx} {pins:List (Addr × Obj)} {Z:L2.St} {H:Hp} {s:Shared} {a:Addr} {xs:List V},L2.Inv X pins Z H s->Sq X.K H a xs->∃its:List Value,Vals xs its/\Is s.heap a its.toArray
 inj:∀{X:Cx} {pins:List (Addr × Obj)} {Z:L2.St} {H:Hp} {s:Shared} {a:Addr} {xs ys:List V},L2.Inv X pins Z H s->Sq X.K H a xs->Sq X.K H a ys->xs=ys
 dr:∀{prog:Program} {w:World} {A:Around} (hh:A.handled=none) (it t:Addr) (hne:t≠it) (items:Array Value),Draws prog w A it [it,t] items.size (fun i v=>items[i]?=some v) (fun i h=>It h it t i/\Is h t items)
 drE:∀{prog:Program} {w:World} {A:Around} (hh:A.handled=none) (it t:Addr) (hne:t≠it) (items:Array Value) (k:Nat) (hk:items[k]?=none),Draws prog w A it [it,t] k (fun _ _=>True) (fun i h=>i=k/\It h it t i/\Is h t items)
def kL:SqK:=⟨SqL,fun h=>h.IsListIter,fun h=>h.IsList,fun x k=>x.at k,fun ⟨o,e,_,d⟩=>⟨o,e,fun v z=>by rw[d] at z;cases z⟩,fun ⟨_,e,_⟩=>o_ e,fun I q=>let ⟨its,r,p,_⟩:=I.list q;⟨its,r,p.isList⟩,fun I a b=>I.list_inj a b,Draws.list,J0⟩
def kT:SqK:=⟨SqT,fun h=>h.IsTupleIter,fun h=>h.IsTuple,fun x k=>x.at k,fun ⟨o,e,_,d⟩=>⟨o,e,fun v z=>by rw[d] at z;cases z⟩,fun ⟨_,e,_⟩=>o_ e,fun I q=>let ⟨its,r,p,_⟩:=I.tuple q;⟨its,r,p⟩,fun I a b=>I.tuple_inj a b,Dc,De⟩
def Rp (e d:SqK) (K:Frag) (a b:Addr):It :=
 ⟨fun i H=>∃xs c x y,e.Sq K H a xs/\d.Sq K H b c/\xs[i]?=some x/\c[i]?=some y,
  fun i H v H'=>∃p x y,v=.ref p/\H p=none/\H'=upd H p (.tup [x,y])/\(∀xs,e.Sq K H a xs->xs[i]?=some x)/\∀c,d.Sq K H b c->c[i]?=some y,
  fun i H=>∃xs c,e.Sq K H a xs/\d.Sq K H b c/\(xs.length<=i\/c.length<=i)⟩
def YQ (c d:SqK) (a b z f g e j:Addr) (i:Nat) (h:Heap):Prop:=IsZip h z f g .none/\IsPair h f (.ref e) (.ref j)/\(∃u v,IsPair h g u v)/\c.It h e a i/\d.It h j b i
def Ac (f g:SqK) {K:Frag} (a b z r n j l:Addr) (M:a<j/\b<j) (V:j<l) (l3:l<r) (l4:r<n) (l5:n<z):
  Turn P w K (.Tuple Y x1 pos) (Rp f g K a b) [z,r,n,j,l] z (YQ f g a b z r n j l) where
 mem:=l_
 obj:=fun i h st c d=>by
  obtain⟨C,F,⟨u,v,J⟩,L,G⟩:=st
  simp only[x_,Ze,aaB] at d
  rcases d with rfl | rfl | rfl | rfl | rfl
  ·
   exact⟨_,C,fun v z=>by cases z⟩
  ·
   exact⟨_,F,fun v z=>by cases z⟩
  ·
   exact⟨_,J,fun v z=>by cases z⟩
  ·
   exact f.itOb L
  ·
   exact g.itOb G
 keep:=fun i h h' st k=>by
  obtain⟨C,F,⟨u,v,J⟩,L,G⟩:=st
  exact⟨k z (by simp) _ C,k r (by simp) _ F,⟨u,v,k n (by simp) _ J⟩,f.itAt L fun o e=>k j (by simp) o e,g.itAt G fun o e=>k l (by simp) o e⟩
 item:=by
  intro X hP hw hK d i m s Z H E I U st W
  subst hP hw hK
  obtain⟨xs,ys,x,y,qx,qy,ex,ey⟩:=W
  obtain⟨p,rv,p1⟩:=f.seq I qx
  obtain⟨t,N,p2⟩:=g.seq I qy
  obtain⟨u,hu,ru⟩:=rv.get ex
  obtain⟨v,hv,rv'⟩:=N.get ey
  have C:=st.1
  have F:=st.2.1
  obtain⟨a0,b0,J⟩:=st.2.2.1
  have L:=st.2.2.2.1
  have G:=st.2.2.2.2
  have hu':p.toArray[i]?=some u:=by simpa using hu
  have hv':t.toArray[i]?=some v:=by simpa using hv
  have D:ZAp z r n j l [j,a] [l,b]:=zap M V l3 l4 l5
  have d1:=f.dr (prog:=X.prog) (w:=X.w) (A:=X.A.in1) (I.ok.hd d) j a (K_ M.1) p.toArray
  have d2:=g.dr (prog:=X.prog) (w:=X.w) (A:=X.A.in1) (I.ok.hd d) l b (K_ (Zo M.2 V)) t.toArray
  refine Ju d1 d2 D C F J ⟨L,p1⟩ ⟨G,p2⟩ (aai.mp hu').1 (aai.mp hv').1 fun O Q h' tk px py hz' hO' s1 s2 hT hsz kp=>?_
  have e1:O=u:=F_ (px.symm.trans hu')
  have e2:Q=v:=F_ (py.symm.trans hv')
  subst e1 e2
  refine⟨_,rfl,wpAny_letOwnedTupleGo_zip hz' fun S hz2' sb=>?_⟩
  have kp2:∀c o,c∉[z,n,j,l]->s.heap.get? c=some o->S.get? c=some o:=fun c o nc e=>(sb.2 c fun q=>nc (q▸l_)).trans (kp c o nc e)
  have B:∀c∈[z,n,j,l],c∈[z,r,n,j,l]:=fun c d=>by simp only[x_,Ze,aaB] at d ⊢;rcases d with q | q | q | q <;> simp [q]
  have R:∀{c o},s.heap.get? c=some o->s.heap.objs.size≠c:=fun e=>Zd (o_ e)
  have lt1:∀{c:Addr},c∈[z,r,n,j,l]->c≠s.heap.objs.size:=fun {c} d=>by
   simp only[x_,Ze,aaB] at d
   rcases d with q | q | q | q | q <;> subst q
   ·
    exact Ne.symm (R C)
   ·
    exact Ne.symm (R F)
   ·
    exact Ne.symm (R J)
   ·
    obtain⟨o,e,_⟩:=f.itOb L;exact Ne.symm (R e)
   ·
    obtain⟨o,e,_⟩:=g.itOb G;exact Ne.symm (R e)
  have hTz:s.heap.objs.size≠z:=R C
  have I1:Inv X m Z (upd H s.heap.objs.size (.tup [x,y])) { s with heap:=s.heap.push { cls:=.type "tuple",data:=.seq #[O,Q]},toks:=tk} :=
   I.laid (t':=tk) (fun b o e=>b_ _ e) (m_ _) (show zc X.prog X.w _ _ _ (.tup [x,y]) from ⟨by show 2<=sizeLine;decide,[O,Q],.cons ru (.cons rv' .nil),acR.new _ _⟩)
  have I2:Inv X m Z (upd H s.heap.objs.size (.tup [x,y])) { s with heap:=S,toks:=tk}:=iK (s:={ s with heap:=s.heap.push { cls:=.type "tuple",data:=.seq #[O,Q]},toks:=tk}) (ch:=[z,n,j,l]) (t':=tk) I1 (fun c o nc e=>by
   by_cases q:c=s.heap.objs.size
   ·
    subst q
    have e':(s.heap.push { cls:=.type "tuple",data:=.seq #[O,Q]}).get? s.heap.objs.size=some o:=e
    rw[t_ _ rfl] at e'
    cases e'
    exact (sb.2 _ hTz).trans hT
   ·
    have e':(s.heap.push { cls:=.type "tuple",data:=.seq #[O,Q]}).get? c=some o:=e
    rw[Heap.get?_push_ne _ _ _ q] at e'
    exact kp2 c o nc e') fun c d=>⟨by rw[aK (lt1 (B c d))];exact (U c (B c d)).1,(U c (B c d)).2⟩
  refine⟨.ref s.heap.objs.size,_,I2,rfl,⟨s.heap.objs.size,x,y,rfl,I.hok.fresh (m_ _),rfl,fun zs hq=>by rw[f.inj I hq qx];exact ex,fun zs hq=>by rw[g.inj I hq qy];exact ey⟩,?_,fun c d=>by rw[aK (lt1 d)];exact (U c d).1⟩
  have n1:r≠z:=D.ne.1
  refine⟨hz2',?_,⟨O,Q,(sb.2 n D.ne.2.1).trans hO'⟩,f.itAt s1.1 fun o e=>(sb.2 j D.i1z).trans e,g.itAt s2.1 fun o e=>(sb.2 l D.i2z).trans e⟩
  refine kp2 r _ ?_ F
  simp only[x_,Ze,aaB,not_or]
  exact⟨D.ne.1,D.ne.2.2.1,Ne.symm D.i1ti,Ne.symm D.i2ti⟩
 done:=by
  intro X hP hw hK d i m s Z H E I U st W
  subst hP hw hK
  obtain⟨xs,ys,qx,qy,W⟩:=W
  obtain⟨p,rv,p1⟩:=f.seq I qx
  obtain⟨t,N,p2⟩:=g.seq I qy
  have C:=st.1
  have F:=st.2.1
  obtain⟨a0,b0,J⟩:=st.2.2.1
  have L:=st.2.2.2.1
  have G:=st.2.2.2.2
  have n1:=rv.length
  have n2:=N.length
  have D:ZAp z r n j l [j,a] [l,b]:=zap M V l3 l4 l5
  have T:∀(h':Heap) (tk:Nat),(∀c o,c∉[z,n,j,l]->s.heap.get? c=some o->h'.get? c=some o)->(none:Option Value)=none/\Inv X m Z H { s with heap:=h',toks:=tk}:=fun h' tk kp=>⟨rfl,iK I kp fun c d=>U c (by
   simp only[x_,Ze,aaB] at d ⊢;rcases d with q | q | q | q <;> simp [q])⟩
  have d1:=f.dr (prog:=X.prog) (w:=X.w) (A:=X.A.in1) (I.ok.hd d) j a (K_ M.1) p.toArray
  have d2:=g.dr (prog:=X.prog) (w:=X.w) (A:=X.A.in1) (I.ok.hd d) l b (K_ (Zo M.2 V)) t.toArray
  by_cases hi:xs.length<=i
  ·
   have e1:=f.drE (prog:=X.prog) (w:=X.w) (A:=X.A.in1) (I.ok.hd d) j a (K_ M.1) p.toArray i (by simp;omega)
   exact Dd (k:=i) e1 d2 D C F J ⟨rfl,L,p1⟩ ⟨G,p2⟩ (.inl rfl) T
  ·
   have hy:ys.length<=i:=W.resolve_left hi
   have e2:=g.drE (prog:=X.prog) (w:=X.w) (A:=X.A.in1) (I.ok.hd d) l b (K_ (Zo M.2 V)) t.toArray i (by simp;omega)
   exact Dd (k:=i) d1 e2 D C F J ⟨L,p1⟩ ⟨rfl,G,p2⟩ (.inr ⟨by simp;omega,rfl⟩) T
 self:=fun _ _ _ _ _ st h=>wpAny_pyIter_zip st.1 h
abbrev Ex (t:Addr):Obj:={ cls:=.type "list_iterator",data:=.fields #[.ref t,.int 0 0]}
def wU (a b:Addr) (xs q:Array Value) :
  Meets (Builtin.«zip.__new__» ⟨[.type "zip",.ref a,.ref b],[]⟩) (fun _ R s=>s.heap.IsTuple a xs/\s.heap.IsList b q/\∀k c e f,k=s.heap.push (MN a)->c=k.push (Ex b)->e=c.push { cls:=.type "tuple",data:=.seq #[.ref s.heap.objs.size,.ref k.objs.size]}->f=e.push { cls:=.type "tuple",data:=.seq #[.none,.none]} ->
   R (.ok (.ret (.ref f.objs.size))) { s with heap:=f.push { cls:=.type "zip",data:=.fields #[.none,.bool false,.bool false,.ref c.objs.size,.ref e.objs.size]}}) :=
 .of_wp fun prog w A R s h=>by
  obtain⟨n,g,d,tk,o⟩:=s;obtain⟨m,l,h⟩:=h;have p:=sub_zip;have j:Heap.IsTuple (Shared.heap ⟨n,g,d,tk,o⟩) a xs:=m;have i:Heap.IsList (Shared.heap ⟨n.push { cls:=.type "tuple_iterator",data:=.fields #[.ref a,.int 0 0]},g,d,tk,o⟩) b q:=Heap.IsList.push l _
  wp_walk using abj j,wpAny_pyIter_list i
  exact⟨_,rfl,h _ _ _ _ rfl rfl rfl rfl⟩
section
variable {s:Shared}
def Ad (t:s.heap.IsTuple f xs) (k:s.heap.IsList e y) (h:∀h' i1 i2 ti to z,IsZip h' z ti to .none->IsPair h' ti (.ref i1) (.ref i2)->IsPair h' to .none .none->h'.IsTupleIter i1 f 0->h'.IsListIter i2 e 0 ->
   s.heap.objs.size<=i1->i1<i2->i2<ti->ti<to->to<z->(∀c o,s.heap.get? c=some o->h'.get? c=some o)->Q (.ref z) { s with heap:=h'}):
  wpAny (model prog w) A (call (.type "zip") [.ref f,.ref e]) Q E s:=by
 refine callType_new F.called_zip (by decide) (F.typeCall_zip_2 _ _) (F.newCall_zip_2 _ _) (fun r=>F.args_object_init_3 r _ _) F.entry_zip_new
  (wU f e xs y) ⟨t,k,fun d a b g l m u j=>?_⟩
 have p:∀(h:Heap) (o:Obj),h.objs.size<(h.push o).objs.size:=fun h o=>by rw[ZX];exact ZZ _
 have x:=t_ g (o:={ cls:=.type "zip",data:=.fields #[.none,.bool false,.bool false,.ref a.objs.size,.ref b.objs.size]}) rfl;have C:g.get? b.objs.size=some { cls:=.type "tuple",data:=.seq #[.none,.none]}:=by rw[j];exact t_ _ rfl
 have G:b.get? a.objs.size=some { cls:=.type "tuple",data:=.seq #[.ref s.heap.objs.size,.ref d.objs.size]}:=by rw[u];exact t_ _ rfl
 have D:a.get? d.objs.size=some (Ex e):=by rw[m];exact t_ _ rfl
 have H:d.get? s.heap.objs.size=some (MN f):=by rw[l];exact t_ _ rfl
 have B:∀c o,s.heap.get? c=some o->d.get? c=some o:=fun c o q=>by rw[l];exact b_ _ q
 have v:∀c o,d.get? c=some o->a.get? c=some o:=fun c o q=>by rw[m];exact b_ _ q
 have n:∀c o,a.get? c=some o->b.get? c=some o:=fun c o q=>by rw[u];exact b_ _ q
 have i:∀c o,b.get? c=some o->g.get? c=some o:=fun c o q=>by rw[j];exact b_ _ q
 refine⟨⟨_,x,rfl⟩,h _ s.heap.objs.size d.objs.size a.objs.size b.objs.size g.objs.size x (b_ _ (i _ _ G)) (b_ _ C) ⟨_,b_ _ (i _ _ (n _ _ (v _ _ H))),rfl,rfl⟩ ⟨_,b_ _ (i _ _ (n _ _ D)),rfl,rfl⟩
  (m_ _) ?_ ?_ ?_ ?_ fun c o q=>b_ _ (i _ _ (n _ _ (v _ _ (B _ _ q))))⟩
 ·rw[l];exact p _ _
 ·rw[m];exact p _ _
 ·rw[u];exact p _ _
 rw[j];exact p _ _
end
def Ey (a b:SqK) (prog:Program) (w:World):Prop:=∀(A:Around) (E:Value->Shared->Prop) (s:Shared) (t1 t2:Addr) (xs ys:Array Value) (Q:Value->Shared->Prop),a.Is s.heap t1 xs->b.Is s.heap t2 ys ->
 (∀h' d g e f z,IsZip h' z e f .none->IsPair h' e (.ref d) (.ref g)->IsPair h' f .none .none->a.It h' d t1 0->b.It h' g t2 0->s.heap.objs.size<=d->d<g->g<e->e<f->f<z->(∀c o,s.heap.get? c=some o->h'.get? c=some o)->Q (.ref z) { s with heap:=h'}) ->
 wpAny (model prog w) A (call (.type "zip") [.ref t1,.ref t2]) Q E s
def zcL:Ey kL kL prog w:=fun _ _ _ _ _ _ _ _ p1 e h=>call_zip_2 p1 e fun h' d g f c b _ a=>h h' _ _ _ _ _ d g f c b (m_ _) (ZZ _) (ZZ _) (ZZ _) (ZZ _) a
section
variable {X:Cx}{elts:List Expr}{x1:Nat}{tpos pos p:Pos}
def Wh (d c:SqK) (K:Frag) (t:TA):TI:=fun Z H R=>t Z H fun vs e=>∃a b,vs=[.ref a,.ref b]/\(∃xs,d.Sq K e a xs)/\(∃f,c.Sq K e b f)/\R (Rp d c K a b) e
def yG (N:Ey d f X.prog X.w) (J:Gl X "zip") (Q:X.mg "zip"=none) (P:bootBuiltins "zip"=some (.type "zip")) (ha:PA X [ea,eb] t) (T:starEach [ea,eb] X.env=[(false,eval ea X.env),(false,eval eb X.env)]:=by rfl) (i:starEach [eb] X.env=[(false,eval eb X.env)]:=by rfl):
  PI X (.Tuple elts x1 tpos) (.Call (.Name "zip" p) [ea,eb] [] pos) (Wh d f X.K t):=by
 intro g s Z H R I h;refine Call_ (fX I J Q P (Zv (Ob (ha pos g s Z H _ I h) fun us S ⟨vs,v,j,U,q1⟩=>?_) (by rw[T,i]) (by rw[i];rfl)));obtain⟨a,b,e,⟨xs,C⟩,⟨ys,O⟩,q⟩:=q1;subst e;cases U with
 |cons r n =>
 cases n with
 |cons Y n =>
 cases n;cases r;cases Y;obtain⟨E,rv,p1⟩:=d.seq j C;obtain⟨V,G,x⟩:=f.seq j O;refine N _ _ _ _ _ _ _ _ p1 x fun h' m y o u z A L W h1 B l M l2 l3 F kp=>wpAny_pyIter_zip A ?_;have D:∀c,m<=c->my X g v c:=fun c k=>j.fpOk (R_ l k) (j.hok.fresh (R_ l k));refine⟨z,[z,o,u,m,y],_,_,v,rfl,j.kept (t':=S.toks) kp,Ac d f a b z o u m y ⟨M_ (d.lt p1) l,M_ (f.lt x) l⟩ M l2 l3 F,⟨A,L,⟨_,_,W⟩,h1,B⟩,fun c k=>D c ?_,q⟩;simp only[x_,Ze,aaB] at k;simp only[Addr] at *;omega
def pG {K:Frag} (F:∀H' c,tR K H H'->tL K c H'->S c->(∃xs,f.Sq K H' a xs/\lX K H' ts xs)/\∃d,h.Sq K H' b d/\lX K H' us d):jx K (Rp f h K a b) (gP ts us) S H:=fun H' c D u st=>by
 obtain⟨⟨xs,k,s⟩,d,o,q⟩:=F H' c D u st;have C:=s.length;have E:=q.length;refine⟨fun i I=>⟨xs,d,k,o,by rw[tG] at I;omega⟩,fun i t e=>?_⟩;rw[tD] at e;cases j:ts[i]? with
 |none=>rw[j] at e;cases e
 |some x =>
 cases n:us[i]? with
 |none=>rw[j,n] at e;cases e
 |some y =>
 rw[j,n] at e;cases e;obtain⟨v,r,A⟩:=s.get j;obtain⟨J,g,l⟩:=q.get n;refine⟨⟨xs,d,v,J,k,o,r,g⟩,fun z B w=>?_⟩;obtain⟨p,M,N,rfl,m,rfl,L,G⟩:=w;have:=(L xs k).symm.trans r;cases this;have:=(G d o).symm.trans g;cases this;exact⟨aN m,u.new m,tL.newTup (H3:=c) m (.cons A (.cons l .nil))⟩
def zlO (o u:Option O3) (a b:Addr) (H:lO) (R:List T->(lO->Prop)->lO->Prop):Prop:=match o,u with
 |some (.lst xs),some (.lst ys)=>R (gP xs ys) (fun H'=>bD a xs H'/\bD b ys H') H
 |_,_=>False
def Ez (d:TA3):TI3:=fun Z H R=>d Z H fun vs c=>match vs with
 |[.ref a,.ref b]=>zlO (c a) (c b) a b c R
 |_=>False
def J1 (n:Gl X "zip") (y:X.mg "zip"=none) (F:PA3 X [ea,eb] i) (A:starEach [ea,eb] X.env=[(false,eval ea X.env),(false,eval eb X.env)]:=by rfl) (f:starEach [eb] X.env=[(false,eval eb X.env)]:=by rfl):
  PI3 X (.Tuple elts x1 tpos) (.Call (.Name "zip" p) [ea,eb] [] pos) (Ez i):=by
 refine PI.imp (yG zcL n y Df F A f) ?_;rintro Z H R ⟨u,H3,R3,l,E,h,k⟩;refine⟨u,H3,_,l,E,h,fun vs H' ts c m d r q=>?_⟩
 match ts,q,r with
 |[.ref a,.ref b],q,r =>
  have e:(match c a,c b with
   |some (.lst xs),some (.lst g)=>R3 (gP xs g) (fun H'=>bD a xs H'/\bD b g H') c
   |_,_=>False):=q
  obtain⟨v,w,rfl,B,D⟩:=r.two'
  split at e
  ·
   rename_i xs g o t
   obtain⟨us,j,I⟩:=d.sqL (.inl o)
   obtain⟨C,x,G⟩:=d.sqL (.inl t)
   exact⟨a,b,by rw[B.ref,D.ref],⟨_,j⟩,⟨_,x⟩,k _ _ _ H' c m d (pG fun _ _ _ s z=>⟨s.sqL z.1,s.sqL z.2⟩) e⟩
  ·
   exact e.elim
def J2 (d:TA3) {Z:St3}{H:lO}{R:List T->(lO->Prop)->lO->Prop}:Ez d Z H R=d Z H fun vs c=>match vs with
 |[.ref a,.ref b]=>zlO (c a) (c b) a b c R
 |_=>False:=rfl
def Wi (xs c:List T) (a b:Addr) (H:lO) (R:List T->(lO->Prop)->lO->Prop):zlO (some (.lst xs)) (some (.lst c)) a b H R=R (gP xs c) (fun H'=>bD a xs H'/\bD b c H') H:=rfl
end
def zcM:Ey kT kL prog w:=fun _ _ _ _ _ _ _ _ p1 a h=>Ad p1 a h
section
variable {elts:List Expr}{x1:Nat}{tpos pos p:Pos}
def zmO (xs:List T) (u:Option O3) (b:Addr) (H:lO) (R:List T->(lO->Prop)->lO->Prop):Prop:=match u with
 |some (.lst ys)=>R (gP xs ys) (bD b ys) H
 |_=>False
def EY (c:TA3):TI3:=fun Z H R=>c Z H fun vs a=>match vs with
 |[.tup xs,.ref b]=>zmO xs (a b) b a R
 |_=>False
def J3 (t:Gl X "zip") (A:X.mg "zip"=none) (G:PA3 X [ea,eb] j) (B:starEach [ea,eb] X.env=[(false,eval ea X.env),(false,eval eb X.env)]:=by rfl) (f:starEach [eb] X.env=[(false,eval eb X.env)]:=by rfl):
  PI3 X (.Tuple elts x1 tpos) (.Call (.Name "zip" p) [ea,eb] [] pos) (EY j):=by
 refine PI.imp (yG zcM t A Df G B f) ?_;rintro Z H R ⟨x,H3,R3,m,F,h,k⟩;refine⟨x,H3,_,m,F,h,fun vs H' ts c o d r q=>?_⟩
 match ts,q,r with
 |[.tup xs,.ref b],q,r =>
  have e:(match c b with
   |some (.lst g)=>R3 (gP xs g) (bD b g) c
   |_=>False):=q
  obtain⟨v,w,rfl,C,E⟩:=r.two'
  obtain⟨a,us,rfl,i,n⟩:=C.tup
  split at e
  ·
   rename_i g u
   obtain⟨D,y,I⟩:=d.sqL (.inl u)
   exact⟨a,b,by rw[E.ref],⟨_,i⟩,⟨_,y⟩,k _ _ _ H' c o d (pG fun _ _ l s z=>⟨⟨_,l _ _ i,n.mono l⟩,s.sqL z⟩) e⟩
  ·
   exact e.elim
def J4 (c:TA3) {Z:St3}{H:lO}{R:List T->(lO->Prop)->lO->Prop}:EY c Z H R=c Z H fun vs a=>match vs with
 |[.tup xs,.ref b]=>zmO xs (a b) b a R
 |_=>False:=rfl
def Wj (xs a:List T) (b:Addr) (H:lO) (R:List T->(lO->Prop)->lO->Prop):zmO xs (some (.lst a)) b H R=R (gP xs a) (bD b a) H:=rfl
end
end L3
namespace L2
open PySem
section
variable {os:OsState}
variable {dd:Option Addr}
abbrev Fb (h:Heap) (C:Addr) (us:List Value):Heap:=(h.push { cls:=.type "tuple",data:=.seq us.toArray}).push { cls:=.ref C,data:=.fields #[.ref h.objs.size,.none,.none,.none,.bool false,.none]}
def XIn (P:Program) (w:World) (A:Around) (E:Value->Shared->Prop) (d:Str->Option Value) (h:Heap) (C:Addr) (us:List Value) (s:Shared) (Q:Shared->Prop):Prop :=
 (∃a c,d "__init__"=some (.ref a)/\h.get? a=some c/\c.cls=.type "function"/\wpAny (model P w) A (call (.ref a) (.ref (h.objs.size+1)::us)) (fun r s'=>r=.none/\Q s') E { s with heap:=Fb h C us}) \/
 d "__init__"=none/\∀h' vs,(∀b o,h.get? b=some o->h'.get? b=some o)->h'.get? (h.objs.size+1)=some ⟨.ref C,none,.fields vs,#[]⟩->vs[1]?=some .none->Q { s with heap:=h'}
def wV (j:ExcBaseFacts Bn newId inN bmN) (i:bmB.contains (.type Bn)=true) (F:ExcBaseFacts B nid initId bmB) (T:OwnTail h bmB bm) (c:h.get? C=some (excClassObj nm q C N bs bm hdct sn sub ab col dd k0 k1 k2 k3 k5 newId)) (u:h.Ns N p) (z:us.length<=sizeLine) (f:XIn prog w A E p h C us ⟨h,g,d,t,os⟩ (Q (.done (.ret (.ref (h.objs.size+1)))))):
  wpAny (model prog w) A (Builtin.«type.__call__» ⟨.ref C::us,[]⟩) Q E ⟨h,g,d,t,os⟩:=by
 have a:∀b o,h.get? b=some o->(Fb h C us).get? b=some o:=fun b o e=>b_ _ (b_ _ e);have m:(Fb h C us).get? (h.objs.size+1)=some { cls:=.ref C,data:=.fields #[.ref h.objs.size,.none,.none,.none,.bool false,.none]}:=by have:=t_ (h.push { cls:=.type "tuple",data:=.seq us.toArray}) (o:={ cls:=.ref C,data:=.fields #[.ref h.objs.size,.none,.none,.none,.bool false,.none]}) rfl;rw[ZX] at this;exact this
 have l:(Value.ref C::bm).contains (.ref C)=true:=by simp
 repeat (first | (with_reducible refine aaN c ?_) | (with_reducible refine wpAny_madeBy_exc c ?_) | wp_step)
 refine codeAny_call_builtin_code (abI _ j.quiet) (wpAny_check_new_subU j i T c (codeAny_exc_new_subU j i F T c ?_ z));show wpAny _ _ _ _ _ _;unfold isInstance;repeat (first | (with_reducible refine aaN m ?_) | (with_reducible refine wpAny_isSubtype_exc (a _ _ c) ?_;rw[l]) | wp_step)
 show wpAny _ _ (typeLookup (.ref C) _) _ _ _;refine wpAny_typeLookup_tail (a _ _ c) (u.keeps a) (T.keeps a) F.mroIs F.init.lookup ?_;rcases f with ⟨H,G,k,D,v,f⟩ | ⟨k,f⟩
 ·rw[k];refine aaj (a_ ?_);unfold bindSpecial;refine a_ (abM (T:="function") ⟨_,a _ _ D,v⟩ ?_);rw[if_pos (by decide)];refine k_ (a_ (Zz f (fun r s' y=>?_) fun _ _ x=>x));obtain⟨rfl,s⟩:=y
  wp_walk
  exact s
 rw[k];refine aaj (a_ (wpAny_of_eq (F.init.bind _) ?_));refine a_ (wpAny_call (codeAny_call_builtin F.init.plain F.initEntry (wpAny_check_init_subU F (T.keeps a) (a _ _ c) m rfl ?_)))
 wp_walk
 refine f _ _ (fun b o n=>?_) (aaq _ (b_ _ m) rfl) rfl;exact (Zm _ _ (Zd (aad (o_ n)))).trans (b_ _ (a b o n))
def uh (f:ExcBaseFacts Bn newId inN bmN) (b:bmB.contains (.type Bn)=true) (F:ExcBaseFacts B nid initId bmB) (T:OwnTail h bmB bm) (a:h.get? C=some (excClassObj nm q C N bs bm hdct sn sub ab col dd k0 k1 k2 k3 k5 newId)) (i:h.Ns N c) (j:us.length<=sizeLine) (e:XIn prog w (A.under (.builtin "type.__call__" ⟨.ref C::us,[]⟩)) E c h C us ⟨h,g,d,t,os⟩ (Q (.ref (h.objs.size+1)))):
  wpAny (model prog w) A (call (.ref C) us) Q E ⟨h,g,d,t,os⟩:=by
 have l:=tc_lookup;have m:=tc_bind (.ref C);have k:(⟨h,g,d,t,os⟩:Shared).TypeIs (.ref C) "type":=⟨_,a,rfl⟩;refine wpAny_call (codeAny_of_tree ?_);show wpAny _ _ (callAny (.ref C) _) _ _ _;repeat (any_goals (first | assumption | (with_reducible refine aaN a ?_) | wp_step))
 refine⟨rfl,codeAny_call_builtin_at (abI _ (by decide +kernel)) entry_typeCall (wpAny_check_type_call_sub a (wV f b F T a i j e))⟩
end
def um (h:Heap) (a:Addr) (f:Obj->Obj):(h.update a f).objs.size=h.objs.size:=Heap.size_after_update ..
abbrev fra (l : List Env) : List Addr:=l.filterMap (·.frame)
def Ntd (h:Heap) (S:Addr->Prop) (e:Addr) (a:Value) (b:Option Addr) (d:Value):Prop :=
 ∃vs c T oT ts,h.get? e=some ⟨a,b,.fields vs,c⟩/\vs[1]?=some (.ref T)/\¬S T/\T≠e/\h.get? T=some oT/\oT.data=.fields ts/\ts[3]?=some d
def Rsd (h:Heap) (e:Addr) (a:Value) (b:Option Addr):Prop:=∃vs c,h.get? e=some ⟨a,b,.fields vs,c⟩/\vs[1]?=some .none
structure Kpx (fs:List Addr) (e:Addr) (S:Addr->Prop) (h h':Heap):Prop where
 sz:h.objs.size<=h'.objs.size
 ex:∃xs:List Addr,(∀b∈xs,¬S b)/\∀b o,h.get? b=some o->b∉fs->b≠e->b∉xs->h'.get? b=some o
 slot:∀b o,h.get? b=some o->b∈fs->∃sl,h'.get? b=some { o with slots:=sl}
 up:∀b o,h.get? b=some o->(∀vs,o.data≠.fields vs)->∃sl,h'.get? b=some { o with slots:=sl}
def Kpx.keep (x:Kpx fs e S h h') (b:Addr) (o:Obj) (f:h.get? b=some o) (d:S b) (c:b∉fs) (g:b≠e):h'.get? b=some o :=
 let ⟨_,a,k⟩:=x.ex;k b o f c g fun m=>a b m d
def Kpx.trans (x:Kpx fs e S h i) (y:Kpx fs e S i d):Kpx fs e S h d:=by
 obtain⟨xs,a,k⟩:=x.ex;obtain⟨p,q,r⟩:=y.ex;exact⟨R_ x.sz y.sz,⟨xs++p,fun b m=>(u_.mp m).elim (a b) (q b),fun b o c n f l=>r b o (k b o c n f fun m=>l (U_ _ m)) n f fun m=>l (V_ _ m)⟩,
  fun b o c g=>let ⟨_,e1⟩:=x.slot b o c g;let ⟨sl,e2⟩:=y.slot b _ e1 g;⟨sl,e2⟩,
  fun b o c j=>let ⟨_,e1⟩:=x.up b o c j;let ⟨sl,e2⟩:=y.up b _ e1 j;⟨sl,e2⟩⟩
def Kpx.fr (x:Kpx fs e S h h') (a:h.FunFrames base l):h'.FunFrames base l:=a.of_keeps fun b o d c=>let ⟨_,q⟩:=x.up b o d c;⟨_,q,rfl⟩
section
variable {M:Model}{A:Around}{S:Addr->Prop}{cls:Value}{dct:Option Addr}
def yH (v:A.frames=some (env::outer)) (B:s.heap.FunFrames base (env::outer)) (H:env.frame=some L) (r:s.heap.get? e=some ⟨cls,dct,.fields vs,p⟩) (F:1<vs.size) (n:∀b,S b->b<s.heap.objs.size) (h:∀h' fl,fl=rawInt L->Ntd h' S e cls dct fl->Kpx (fra (env::outer)) e S s.heap h'->Q () { s with heap:=h'}):
  wpAny M A (do let a <- frameOf env;let pl <- entryPlaceOf L c;let b <- EntryCells.newEntry d a .none (rawInt L) .none pl;setField (.ref e) 1 b) Q E s:=by
 have C:e∉fra (env::outer):=fun m=>by obtain⟨_,o,y,I⟩:=B.mem m;rw[r] at y;cases y;exact I vs rfl
 refine a_ (wpAny_frameOf_fun v B H fun l q=>?_);refine a_ (wpAny_entryPlaceOf fun pl j=>?_);unfold EntryCells.newEntry newFields;refine a_ (ZC ?_ (j.sizeOk5 _ _ _ _ _));generalize x:([d,.ref L,.none,rawInt L,.none]++(if pl.isEmpty then List.replicate 6 Value.none else pl)).toArray=ts;have t:l.get? e=some ⟨cls,dct,.fields vs,p⟩:=(q.2.1 e C).trans r;have D:l.objs.size≠e:=Zd (o_ t);refine wpAny_setField (b_ _ t) rfl F (h _ _ rfl ?_ ⟨by rw[um,ZX,q.1];exact aaE _,⟨[],(fun _ m=>nomatch m),fun b o i J k _=>?_⟩,fun b o i G=>?_,fun b o i w=>?_⟩)
 ·refine⟨vs.setIfInBounds 1 (.ref l.objs.size),p,l.objs.size,_,ts,aaq _ (b_ _ t) rfl,by simp [F],?_,D,(Zm _ _ (Ne.symm D)).trans (t_ l rfl),rfl,?_⟩
  ·intro g;have:=n _ g;rw[q.1] at this;exact absurd this (Zr _)
  rw[<- x];first | (simp;done) | (rcases j with rfl | ⟨_,_,_,_,_,_,_,rfl⟩ <;> simp)
 ·exact (Zm _ _ (Ne.symm k)).trans (b_ _ ((q.2.1 b J).trans i))
 ·obtain⟨f,u⟩:=q.2.2 b o i;have k:b≠e:=fun z=>C (z▸G);exact⟨f,(Zm _ _ (Ne.symm k)).trans (b_ _ u)⟩
 obtain⟨f,u⟩:=q.2.2 b o i;have k:b≠e:=fun z=>by subst z;rw[r] at i;cases i;exact w vs rfl
 exact⟨f,(Zm _ _ (Ne.symm k)).trans (b_ _ u)⟩
def Wl (q:s.heap.get? e=some ⟨cls,dct,.fields vs,j⟩) (C:vs[1]?=some (.ref T)) (g:¬S T) (c:T≠e) (i:s.heap.get? T=some oT) (n:oT.data=.fields ts) (v:ts[3]?=some u) (k:∀b∈fs,∃o,s.heap.get? b=some o/\∀vs,o.data≠.fields vs) (h:∀h',h'.get? e=some ⟨cls,dct,.fields vs,j⟩->Ntd h' S e cls dct x->Kpx fs e S s.heap h'->Q () { s with heap:=h'}):wpAny M A (setField (.ref T) 3 x) Q E s:=by
 have d:∀b,b≠T->(s.heap.update T (Obj.mapFields (·.setIfInBounds 3 x))).get? b=s.heap.get? b:=fun b a=>Zm _ _ (Ne.symm a);have t:=(aai.mp v).1;have r:=Obj.data_mapFields n (·.setIfInBounds 3 x);have p:∀b o,s.heap.get? b=some o->(∀vs,o.data≠.fields vs)->b≠T:=fun b o a f z=>by subst z;rw[i] at a;cases a;exact f ts n
 refine wpAny_setField i n t (h _ ((d e (Ne.symm c)).trans q) ⟨vs,j,T,_,_,(d e (Ne.symm c)).trans q,C,g,c,aaq _ i (Obj.isFreed_of_fields r),r,by simp [t]⟩ ⟨by rw[um];exact m_ _,⟨[T],fun b m=>by rw[i_.mp m];exact g,fun b o a _ _ y=>(d b fun z=>y (i_.mpr z)).trans a⟩,fun b o a w=>⟨o.slots,(d b ?_).trans a⟩,fun b o a f=>⟨o.slots,(d b (p b o a f)).trans a⟩⟩);obtain⟨B,l,f⟩:=k b w;exact p b B l f
def yI (p:Ntd s.heap S e cls dct j) (c:∀b∈fs,∃o,s.heap.get? b=some o/\∀vs,o.data≠.fields vs) (h:∀h',Ntd h' S e cls dct .none->Kpx fs e S s.heap h'->Q () { s with heap:=h'}):wpAny M A (setFlight (.ref e) none) Q E s:=by
 obtain⟨vs,q,T,oT,ts,i,g,d,a,n,m,k⟩:=p;unfold setFlight;refine a_ (Zq i rfl g ?_);rw[if_pos (show (Value.ref T != Value.none)=true from by simp)];exact Wl i g d a n m k c fun h' _ f l=>h h' f l
def note (l:A.frames=some (env::outer)) (r:s.heap.FunFrames base (env::outer)) (z:env.frame=some L) (C:Rsd s.heap e cls dct\/Ntd s.heap S e cls dct .none\/Ntd s.heap S e cls dct (rawInt L)) (i:∀b,S b->b<s.heap.objs.size) (h:∀h',Ntd h' S e cls dct (rawInt L)->Kpx (fra (env::outer)) e S s.heap h'->Q () { s with heap:=h'}):wpAny M A (noteFrame (.ref e) env) Q E s:=by
 have t:∀b∈fra (env::outer),∃o,s.heap.get? b=some o/\∀vs,o.data≠.fields vs:=fun b F=>(r.mem F).2;unfold noteFrame;simp only[z];rcases C with ⟨vs,u,c,a⟩ | ⟨vs,u,T,oT,ts,c,a,f,d,j,n,g⟩ | ⟨vs,u,T,oT,ts,c,a,f,d,j,n,g⟩
 ·refine a_ (Zq c rfl a ?_);rw[if_neg (by decide)];exact yH l r z c (aai.mp a).1 i fun h' B w y k=>h h' (w▸y) k
 ·refine a_ (Zq c rfl a ?_);rw[if_pos (show (Value.ref T != Value.none)=true from by simp)];refine a_ (Zq j n g ?_);rw[if_neg (show ¬((Value.none==rawInt L)=true) from by simp [rawInt])];refine a_ (Wl (x:=.none) c a f d j n g t fun G p _ k=>?_);refine yH l (k.fr r) z p (aai.mp a).1 (fun b D=>M_ (i b D) k.sz) fun h' B w y v=>h h' (w▸y) (k.trans v)
 refine a_ (Zq c rfl a ?_);rw[if_pos (show (Value.ref T != Value.none)=true from by simp)];refine a_ (Zq j n g ?_);rw[if_pos (show (rawInt L==rawInt L)=true from by first | (simp;done) | exact beq_self_eq_true _)];exact k_ (h _ ⟨vs,u,T,oT,ts,c,a,f,d,j,n,g⟩ ⟨m_ _,⟨[],(fun _ m=>nomatch m),fun _ _ q _ _ _=>q⟩,fun _ o q _=>⟨o.slots,q⟩,fun _ o q _=>⟨o.slots,q⟩⟩)
def leaves (c:A.frames=some (env::outer)) (i:s.heap.FunFrames base (env::outer)) (n:env.frame=some L) (m:Rsd s.heap e cls dct\/Ntd s.heap S e cls dct .none\/Ntd s.heap S e cls dct (rawInt L)) (d:∀b,S b->b<s.heap.objs.size) (h:∀h',Ntd h' S e cls dct .none->Kpx (fra (env::outer)) e S s.heap h'->Q () { s with heap:=h'}):wpAny M A (leaving env (.ref e)) Q E s:=by
 unfold leaving;refine a_ (note c i n m d fun o k g=>?_);refine yI k (fun b l=>?_) fun j a f=>h j a (g.trans f);exact ((g.fr i).mem l).2
end
abbrev Std (s:Shared) (H:Hp):Addr->Prop:=fun b=>b<s.heap.objs.size\/∃u,H b=some u
def CX1 (P:Program) (w:World):CXT:=fun outer H s E e s'=>∃(a C:Addr) (b:Option Addr) (H':Hp),e=.ref a/\s'.os=s.os/\AllBare s'.gens/\Un (frs outer) [] H H' s.heap s'.heap/\HOk P w H' s'.heap/\s.heap.objs.size<=a/\H' a=none /\
 Ntd s'.heap (Std s H') a (.ref C) b .none/\E (.ref C) b H'
def SX (X:Cx) (a:List (Addr × Obj)) (H:Hp):Addr->Prop:=fun b=>Std X.s₀ H b\/(∃p∈X.pn++a,p.1=b)\/(∃x,X.env.cells.lookup x=some b)\/b=X.env.locals
structure Fly (X:Cx) (pins:List (Addr × Obj)) (Z:St) (H:Hp) (s:Shared) (ea C:Addr) (dx:Option Addr):Prop where
 inv:Inv X pins Z H s
 new:X.s₀.heap.objs.size<=ea/\ea≠X.env.locals/\(∀x c,X.env.cells.lookup x=some c->c≠ea)/\∀p∈X.pn++pins,p.1≠ea
 free:H ea=none
 fly:Rsd s.heap ea (.ref C) dx\/Ntd s.heap (SX X pins H) ea (.ref C) dx .none
def Ntd.mono (x:Ntd h S e a c d) (k:∀b,f b->S b):Ntd h f e a c d:=by
 obtain⟨vs,l,T,oT,ts,j,g,i,r⟩:=x;exact⟨vs,l,T,oT,ts,j,g,fun z=>i (k _ z),r⟩
section
variable {X:Cx}{pins:List (Addr × Obj)}{Z:St}
def Inv.cellAt (I:Inv X pins Z H s) (h:X.env.cells.lookup x=some c):∃u,s.heap.get? c=some u:=by
 obtain⟨v,o,e,_⟩:=I.cell x c h;exact⟨o,e⟩
def Inv.sx (I:Inv X pins Z H s) (h:SX X pins H b):b<s.heap.objs.size:=by
 rcases h with (h | ⟨u,a⟩) | ⟨p,d,rfl⟩ | ⟨x,c⟩ | rfl
 ·exact M_ h I.sz
 ·exact (I.hok b u a).lt
 ·exact o_ (I.pin p d).1
 ·obtain⟨u,a⟩:=I.cellAt c;exact o_ a
 exact I.lt
def Inv.newer (I:Inv X pins Z H s) {a:Addr}(h:s.heap.objs.size<=a):X.s₀.heap.objs.size<=a/\a≠X.env.locals/\(∀x c,X.env.cells.lookup x=some c->c≠a)/\∀p∈X.pn++pins,p.1≠a:=by
 have d:∀b,b<s.heap.objs.size->b≠a:=fun b e z=>by rw[z] at e;exact absurd e (Nat.not_lt_of_le h)
 exact⟨R_ I.sz h,Ne.symm (d _ I.lt),fun x c g=>d c (let ⟨_,hu⟩:=I.cellAt g;o_ hu),fun p f=>d _ (o_ (I.pin p f).1)⟩
def Rq (I:Inv X pins Z H s) (h:CX1 X.prog X.w X.stack H s E e s'):∃f C g H',e=.ref f/\Fly X pins Z H' s' f C g/\E (.ref C) g H':=by
 obtain⟨f,C,g,H',rfl,n,d,m,j,i,a,k,o⟩:=h;refine⟨f,C,g,H',rfl,⟨I.call' n m j d (fun b z=>absurd z (by simp)),I.newer i,a,.inr (k.mono fun b c=>?_)⟩,o⟩;rcases c with (c | c) | ⟨p,l,rfl⟩ | ⟨x,r⟩ | rfl
 ·exact .inl (M_ c I.sz)
 ·exact .inr c
 ·exact .inl (o_ (I.pin p l).1)
 ·obtain⟨u,q⟩:=I.cellAt r;exact .inl (o_ q)
 exact .inl I.lt
def Kpx.hok (k:Kpx fs ea S h h') (g:∀b u,H b=some u->S b) (l:∀b∈fs,H b=none) (j:H ea=none) (x:HOk P w H h):HOk P w H h':=fun b u e=>by
 refine (x b u e).stay (fun c v i q=>?_) (fun _ q=>q) fun _ _ q=>q;have d:∃u,H c=some u:=by
  rcases i with z | z
  ·exact⟨u,z▸e⟩
  exact⟨_,z⟩
 obtain⟨f,a⟩:=d;exact k.keep c v q (g c f a) (fun z=>by rw[l c z] at a;cases a) fun z=>by rw[z,j] at a;cases a
def J5 (F:Fly X pins Z H s ea C dx) (N:X.ex=[]) (D:X.stack=X.env::X.outer) (G:X.env.frame=some X.env.locals) (M:E (.ref C) dx H):
  wpAny (model X.prog X.w) X.A (leaving X.env (.ref ea)) (fun _ s'=>CX1 X.prog X.w X.outer X.H₀ X.s₀ E (.ref ea) s') L s:=by
 obtain ⟨I,i,d,v⟩:=F;have B:=I.stack;have l:=I.ok.frames;rw [D] at B l;have a : fra (X.env :: X.outer) = X.env.locals :: frs X.outer:=by show List.filterMap _ (X.env :: X.outer) = _;rw [aa_,G];rfl
 refine leaves (base:=X.base) (S:=SX X pins H) l B G (by rcases v with q | q;exact .inl q;exact .inr (.inl q)) (fun b j=>I.sx j) fun h' t k=>?_;have x:∀b∈fra (X.env::X.outer),H b=none:=fun b j=>I.stkFree b (by rw[D];exact j);have h:∀b o,X.s₀.heap.get? b=some o->b≠X.env.locals:=fun b o e z=>by have p:=o_ e;have K:=I.ok.above;rw[z] at p;exact absurd p (Nat.not_lt_of_le K)
 have f:∀b o,X.s₀.heap.get? b=some o->b≠ea:=fun b o e z=>by have p:=o_ e;rw[z] at p;exact absurd p (Nat.not_lt_of_le i.1)
 have c:∀b:Addr,b∉X.ex:=fun b=>by rw[N];simp
 refine⟨ea,C,dx,H,rfl,I.os,I.bare,⟨fun b o e n J _=>?_,fun b o e n y _=>?_,fun b o e n _=>I.base.free b o e n (c b),fun b o e _=>?_,I.base.tups,I.base.frzs,I.base.tbls⟩,k.hok (fun b u e=>.inl (.inr ⟨u,e⟩)) x d I.hok,i.1,d,t.mono (fun b j=>.inl j),M⟩
 ·refine k.keep b o (I.base.keep b o e n J (c b)) (.inl (.inl (o_ e))) ?_ (f b o e);rw[a];exact fun z=>(x_.mp z).elim (h b o e) J
 ·obtain⟨P,q⟩:=I.base.slot b o e n y (c b);obtain⟨g,r⟩:=k.slot b _ q (by rw[a];exact q_ _ y);exact⟨g,r⟩
 obtain⟨O,q⟩:=I.base.there b o e (c b);by_cases m:b∈fra (X.env::X.outer)
 ·obtain⟨g,r⟩:=k.slot b _ q m;exact⟨_,r⟩
 exact⟨_,k.keep b O q (.inl (.inl (o_ e))) m (f b o e)⟩
def Meet (X:Cx) (E:St->XK):Prop:=∀(a:List (Addr × Obj)) (Z:St) (H:Hp) (s:Shared) (b C:Addr) (c:Option Addr),Fly X a Z H s b C c->E Z (.ref C) c H->X.xe (.ref b) s
end
def Fd {K:Frag}:
  Meet (mD (CX1 P w) P w K c base N a scope f b A outer s H E) (fun _=>E):=fun d Z H' s' g C h F e=>J5 (X:=mD (CX1 P w) P w K c base N a scope f b A outer s H E) F rfl rfl rfl e
section
variable {X:Cx}{k:Nat}
def J6 {Z:St} (F:acv X.prog X.w X.K X.mg X.base (CX1 X.prog X.w) k f fd ps sp) (g:t6 k X.A) (m:Binds X.K fd ps []) (l:Meet X E) (I:Inv X a Z H s) (r:Vals vs us) (h:sp vs H Q (E Z)):wpAny (model X.prog X.w) X.A (call (.ref f) us) (EP X a Z Q) X.xe s:=by
 have o:(us++[]).length=ps.length:=by rw[W_,<- r.length];exact F.len _ _ _ _ h
 have c:=m s us I.kIn o;rw[W_] at c;refine wpAny_call (abw (F.run X.A X.stack s H ⟨us,[]⟩ us vs Q (E Z) g I.env0 c r h) fun r s' b=>?_);cases r with
 |error e=>obtain⟨i,C,j,H',rfl,p,n⟩:=Rq I b;exact l a Z H' s' i C j p n
 |ok d =>
 cases d with
 |ret u=>exact I.after b
 |next=>exact False.elim b
 |brk=>exact False.elim b
 |cont=>exact False.elim b
end
open PySem.Builtin PySem.Builtin.ObjectAttr
section
variable {prog:Program}{w:World}{A:Around}{K:Frag}
structure acW (K:Frag) (C:Addr) (cd:ClassData):Prop where
 cls:clsIn K C=some cd
 sa:findIn K (.ref C) "__setattr__"=some (some (.builtin "object.__setattr__"))
 ref:∀self:Value,refuseLoop self "__setattr__" cd.mro=pure ()
 obj:mroIn K C (.type "object")=some true
 dct:cd.hasDict=true
def pH (F:acW K C c) (X:K.In s.heap) (I:InstAt s.heap x ox C od) (e:findIn K (.ref C) name=some none) (h:wpAny (model prog w) A.in1 (storeInOwnDict (.ref x) (.ref C) (.str name s.toks) name v false) (fun b s'=>b=.done (.ret .none)/\Q () s') E { s with toks:=s.toks+1}):
  wpAny (model prog w) A (setAttr (.ref x) name v) Q E s:=by
 have a:=PySem.F.store_object;refine set_plain X I F.sa ?_;have sub:PySem.W.Looks (model prog w) s.heap (isInstance (.ref x) (.type "object")) true:=I.type.andThen (looks_mroIn X F.obj);refine codeAny_call_builtin a.slot.plain a.entry (@check_slot (model prog w) _ _ { s with toks:=s.toks+1} "object.__setattr__" "object" "__setattr__" (.ref x) [.str name s.toks,v] [] _ a.kind a.split sub (a.args (.ref x) (.str name s.toks) v) ?_);have d:PySem.W.Looks (model prog w) s.heap (mroOf (.ref C)) c.mro:=(looks_clsIn X F.cls).andThen .now;rw[osa_eq,refuse_eq];refine a_ (a_ (aah (s:={ s with toks:=s.toks+1}) I.type (a_ (aah (s:={ s with toks:=s.toks+1}) d ?_))));rw[F.ref];refine k_ (a_ (aah (s:={ s with toks:=s.toks+1}) I.type (a_ (aah (s:={ s with toks:=s.toks+1}) (looks_findIn X e) ?_))));refine a_ (k_ ?_);refine Zz h (fun b s' z=>?_) fun _ _ z=>z;obtain⟨rfl,q⟩:=z;exact q
def Ae (F:acW K C l) (X:K.In s.heap) (j:s.heap.get? x=some ⟨.ref C,some c,.fields vs,m⟩) (i:s.heap.Ns1 c mA) (q:PySem.Within mA ns) (r:ns.length<sizeLine) (n:findIn K (.ref C) name=some none) (h:∀h',h'.Ns1 c (fun y=>if y=name then some v else mA y)->Heap.SameBut c s.heap h'->Q () { s with heap:=h',toks:=s.toks+2}):
  wpAny (model prog w) A (setAttr (.ref x) name v) Q E s:=by
 obtain⟨od,k,_⟩:=jY i;refine pH F X (od:=some od) ⟨j,rfl,rfl,k⟩ n ?_;refine a_ (k_ (a_ (a_ (wpAny_loadPart j (a_ (aah (s:={ s with toks:=s.toks+1}) (looks_clsIn X F.cls) ?_))))));rw[F.dct];refine k_ (a:=some c) ?_;refine a_ (k_ (a_ (wpAny_nsSet1 (s:={ s with toks:=s.toks+1}) i fun h' b d=>?_)));obtain⟨oD,o,p,f,g,e⟩:=b.count (PySem.Within.cons name v q);refine a_ (wpAny_lookBehind f (by rw[g];exact pastItsLine_dict (R_ e (by rw[j_];omega))) ?_);exact k_ ⟨rfl,h h' b d⟩
def Fe (F:acW K C z) (X:K.In s.heap) (f:s.heap.get? x=some ⟨.ref C,none,.fields vs,i⟩) (u:findIn K (.ref C) name=some none) (h:∀h',h'.get? x=some ⟨.ref C,some s.heap.objs.size,.fields vs,i⟩->h'.Ns1 s.heap.objs.size (fun y=>if y=name then some v else none)->(∀b o,b≠x->s.heap.get? b=some o->h'.get? b=some o)->Q () { s with heap:=h',toks:=s.toks+2}):
  wpAny (model prog w) A (setAttr (.ref x) name v) Q E s:=by
 refine pH F X (od:=none) ⟨f,rfl,rfl,trivial⟩ u ?_;refine a_ (k_ (a_ (a_ (wpAny_loadPart f (a_ (aah (s:={ s with toks:=s.toks+1}) (looks_clsIn X F.cls) ?_))))));rw[F.dct];have xs:x≠s.heap.objs.size:=K_ (o_ f);have d:(s.heap.push { cls:=.type "dict",data:=.dict #[]}).get? x=some ⟨.ref C,none,.fields vs,i⟩:=b_ _ f;show wpAny _ _ (alloc { cls:=.type "dict",data:=.dict #[]} >>= _) _ _ _;refine a_ (wpAny_alloc (a_ (wpAny_update d (k_ ?_))));have p:=aaq (fun o=>{ cls:=o.cls,dict:=some s.heap.objs.size,data:=o.data,slots:=o.slots}) d rfl;have m:=(Zm (s.heap.push { cls:=.type "dict",data:=.dict #[]}) (fun o=>{ cls:=o.cls,dict:=some s.heap.objs.size,data:=o.data,slots:=o.slots}) xs).trans (t_ s.heap rfl);have n:∀b o,b≠x->s.heap.get? b=some o->((s.heap.push { cls:=.type "dict",data:=.dict #[]}).update x fun o=>{ cls:=o.cls,dict:=some s.heap.objs.size,data:=o.data,slots:=o.slots}).get? b=some o:=fun b o g e=>(Zm _ _ (Ne.symm g)).trans (b_ _ e);generalize (s.heap.push { cls:=.type "dict",data:=.dict #[]}).update x (fun o=>{ cls:=o.cls,dict:=some s.heap.objs.size,data:=o.data,slots:=o.slots})=q at p m n;have r:q.Ns s.heap.objs.size (fun _=>none):=⟨_,#[],_,m,rfl,fun e t=>absurd t (by simp),fun _=>rfl⟩;refine a_ (k_ (a_ (wpAny_nsSet1 (Heap.Ns1.of_empty r) fun h' c a=>?_)));obtain⟨oD,B,D,j,l,k⟩:=c.count (PySem.Within.cons name v PySem.Within.nil);refine a_ (wpAny_lookBehind j (by rw[l];exact pastItsLine_dict (R_ k (by rw[j_,Zu,abh];omega))) ?_);exact k_ ⟨rfl,h h' ((a.2 x xs).trans p) c fun b o g e=>(a.2 b (K_ (o_ e))).trans (n b o g e)⟩
variable {X:Cx}{pins:List (Addr × Obj)}{Z:St}
def Inv.xlay {f a:HO} (I:Inv X pins Z H s) (d:Mut (H e)) (t:s.heap.get? dx=none) (i:H dx=none) (x:dx≠e) (k:∀b o,b≠e->s.heap.get? b=some o->h'.get? b=some o) (y:∃o,h'.get? e=some o) (p:zc X.prog X.w (upd (upd H dx f) e a) h' dx f) (A:zc X.prog X.w (upd (upd H dx f) e a) h' e a):Inv X pins Z (upd (upd H dx f) e a) { s with heap:=h',toks:=t'}:=by
 have B:∃q,H e=some q:=by cases q:H e with
  |none=>rw[q] at d;exact d.elim
  |some o=>exact⟨o,rfl⟩
 obtain⟨q,l⟩:=B;have g:∀b,H b=none->b≠e:=fun b z w=>by subst w;rw[l] at z;cases z
 have C:∀b o,s.heap.get? b=some o->b≠dx:=fun b o z w=>by subst w;rw[t] at z;cases z
 have nm:∀b o,H b=some o->Mut (some o)=False->b≠e/\b≠dx:=fun b o z m=>⟨fun w=>by subst w;rw[z] at d;rw[m] at d;exact d,fun w=>by subst w;rw[i] at z;cases z⟩;have st:∀b o,H b=some o->Mut (some o)=False->upd (upd H dx f) e a b=some o:=fun b o z m=>by rw[aK (nm b o z m).1,aK (nm b o z m).2];exact z
 refine I.un ⟨fun b o z n _ _=>k b o (g b n) z,fun b o z n _ _=>⟨o.slots,k b o (g b n) z⟩,fun b o z n _=>by rw[aK (g b n),aK (C b o z)];exact n,fun b o z _=>?_,fun b xs z=>st b _ z rfl,fun b o u z=>st b _ z rfl,fun b ps z=>⟨#[],by rw[st b _ z rfl];simp⟩⟩ fun b u z=>?_
 ·by_cases w:b=e
  ·subst w;exact y
  exact⟨o,k b o w z⟩
 by_cases w:b=e
 ·subst w;rw[aY] at z;cases z;exact A
 rw[aK w] at z;by_cases j:b=dx
 ·subst j;rw[aY] at z;cases z;exact p
 rw[aK j] at z;refine (I.hok b u z).stay (fun c v h r=>k c v ?_ r) (fun c r=>st c _ r rfl) fun c xs r=>st c _ r rfl;rcases h with rfl | h
 ·exact w
 exact (nm c _ h rfl).1
def Ff (r:∀g,acl (fs.lookup g) (mA g)) (a:PySem.Within mA (fs.map (·.1))) (c:RelV y u):
  (∀g,acl ((dY f y fs).lookup g) (if g=f then some u else mA g))/\PySem.Within (fun g=>if g=f then some u else mA g) ((dY f y fs).map (·.1)):=by
 refine⟨fun g=>?_,fun g b=>?_⟩
 ·rw[ie];by_cases q:g=f
  ·rw[if_pos q,if_pos q];exact c
  rw[if_neg q,if_neg q];exact r g
 by_cases q:g=f
 ·rw[q];exact (gm f y fs).1
 refine (gm f y fs).2 g (a g fun z=>b ?_);show (if g=f then some u else mA g)=none;rw[if_neg q];exact z
def Wm (F:acW X.K C cd) (I:Inv X pins Z H s) (c:H e=some (exO e C none rd)) (m:findIn X.K (.ref C) f=some none) (n:RelV y u) (h:∀dx s',H dx=none->dx≠e->Inv X pins Z (upd (upd H dx (dxO dx [(f,y)])) e (exO e C (some dx) rd)) s'->Q () s'):wpAny (model X.prog X.w) A (setAttr (.ref e) f u) Q E s:=by
 obtain⟨vs,l,d,j⟩:=exO.of I.hok c;have g:H s.heap.objs.size=none:=I.hok.fresh (m_ _);have b:s.heap.objs.size≠e:=Zd (o_ d);refine Fe F I.kIn d m fun h' a i k=>h s.heap.objs.size _ g b ?_;have o:dxP s.heap.objs.size [(f,y)] h':=by have:=Ff (f:=f) (fs:=[]) (mA:=fun _=>none) (y:=y) (u:=u) (fun _=>trivial) PySem.Within.nil n;exact⟨_,i,this.1,this.2⟩
 exact I.xlay (by rw[c];exact trivial) (Heap.get?_none_of_le (m_ _)) g b k ⟨_,a⟩ (dxO.ok o) (exO.ok ⟨vs,l,a,j⟩)
def Wn (F:acW X.K C cd) (I:Inv X pins Z H s) (k:H e=some (exO e C (some dx) rd)) (g:H dx=some (dxO dx fs)) (D:fs.length<1000) (l:findIn X.K (.ref C) f=some none) (p:RelV y u) (h:∀s',Inv X pins Z (upd H dx (dxO dx (dY f y fs))) s'->Q () s'):wpAny (model X.prog X.w) A (setAttr (.ref e) f u) Q E s:=by
 obtain⟨vs,B,m,v⟩:=exO.of I.hok k;obtain⟨mA,c,r,d⟩:=dxO.of I.hok g;have n:(fs.map (·.1)).length<sizeLine:=by rw[g_,abh];omega
 refine Ae F I.kIn m c d n l fun h' a j=>h _ ?_;have:=Ff (f:=f) r d p;have t:dxP dx (dY f y fs) h':=⟨_,a,this.1,this.2⟩;exact I.write (x:=dx) (e:=dx) (by rw[g];exact trivial) (.inl rfl) (fun b q i z=>(j.2 b i).trans z) (let ⟨o,_,_,z,_⟩:=a;⟨o,z⟩) (dxO.ok t)
end
def wW {K:Frag} (X:K.In h) (G:h.Ns N a) (e:nsIn K N n=some (some v)):a n=some v:=by
 obtain⟨o,g,ep,b,c,_,f⟩:=G;unfold nsIn at e;split at e
 ·rename_i q;have:=X _ _ q;rw[b] at this;cases this;cases c;split at e
  ·rename_i d;rw[<- f];unfold nsFind findBy;rw[<- Array.find?_toList,d];simpa using e
  split at e <;> cases e
 cases e
def wX {K:Frag} (X:K.In h) (G:h.Ns N a) (e:nsIn K N n=some v):a n=v:=by
 cases v with
 |none=>exact PySem.W.ns_none_of X G e
 |some v=>exact wW X G e
def yJ (K:Frag) (C:Addr) (io:Option Value) (a:List Value) (newId:String):Bool:=match K.lookup C with
 |some ⟨.type "type",_,.cls cd,sl⟩=>(match cd.mro,sl.toList with
  |.ref C'::bm,[_,_,_,_,some (.builtin n),_]=>C'==C&&(n==newId&&(!cd.hasDel&&(tailIn K a bm&&(nsOkIn K cd.ns&&nsIn K cd.ns "__init__"==some io))))
  |_,_=>false)
 |_=>false
def Wo (h:Heap) (C:Addr) (io:Option Value) (a:List Value) (newId:String):Prop :=
 ∃(c:List Value) (N:Addr) (nm q:Str) (f:List Value) (j:Bool) (m:List Str) (sub:List Value) (n:Bool) (b:Option Bool) (g:Option Addr) (o k e l i:Option Value) (d:Str->Option Value),
  h.get? C=some (excClassObj nm q C N f c j m sub n b g o k e l i newId)/\h.Ns N d/\d "__init__"=io/\OwnTail h a c
def lU {K:Frag} (X:K.In h) (q:yJ K C io b newId=true):Wo h C io b newId:=by
 unfold yJ at q;split at q
 ·rename_i t E j s;split at q
  ·rename_i F v o g f i n p k m;simp only[Zi,aan,abv] at q;obtain⟨rfl,rfl,a,z,c,r⟩:=q;obtain⟨nm,B,w,ns,u,D,y,sub,A,d,x⟩:=E;dsimp only at k a c r;subst k a;have e:j=#[o,g,f,i,some (.builtin n),p]:=by obtain⟨l⟩:=j;simp only at m;rw[m]
   subst e;have G:h.Ns ns (h.nsMap ns):=.of_isNs (PySem.W.isNs_of_in X c);exact⟨v,ns,nm,u,B,D,y,sub,A,d,t,o,g,f,i,p,_,X _ _ s,G,wX X G r,PySem.W.tail_of_in X z⟩
  cases q
 cases q
structure XMk (K:Frag) (C f:Addr) (bmB:List Value) (newId:String):Prop where
 makes:yJ K C (some (.ref f)) bmB newId=true
 fn:isFn K (.ref f)=true
 kp:keepIn K (.ref C)=true
section
variable {X:Cx}{CX:CXT}
def Inv.xmade {Z:St} (I:Inv X c Z H s) (us:List Value):Inv X c Z (upd H (s.heap.objs.size+1) (exO (s.heap.objs.size+1) C none true)) { s with heap:=Fb s.heap C us}:=by
 have d:∀b o,s.heap.get? b=some o->(Fb s.heap C us).get? b=some o:=fun b o e=>b_ _ (b_ _ e);refine I.laid (t':=s.toks) (a:=s.heap.objs.size+1) d (aaE _) (exO.ok ⟨#[.ref s.heap.objs.size,.none,.none,.none,.bool false,.none],#[],?_,fun _=>rfl⟩);have:=t_ (s.heap.push { cls:=.type "tuple",data:=.seq us.toArray}) (o:={ cls:=.ref C,data:=.fields #[.ref s.heap.objs.size,.none,.none,.none,.bool false,.none]}) rfl;rw[ZX] at this;exact this
def Af {Z:St} (Fn:ExcBaseFacts Bn newId inN bmN) (c:bmB.contains (.type Bn)=true) (L:ExcBaseFacts B nid initId bmB) (M:XMk X.K C f bmB newId) (F:acv X.prog X.w X.K X.mg X.base CX0 k f fd ps sp) (S:t6 (k+1) X.A) (P:Binds X.K fd ps []) (I:Inv X b Z H s) (r:Vals vs us) (hz:us.length<=sizeLine) (h:∀x,H x=none->s.heap.objs.size<=x->sp (.ref x::vs) (upd H x (exO x C none true)) (fun v H2=>v=.non/\Q (.ref x) H2) E0):
  wpAny (model X.prog X.w) X.A (call (.ref C) us) (EP X b Z Q) X.xe s:=by
 have o:=h (s.heap.objs.size+1) (I.hok.fresh (aaE _)) (aaE _);have m:=Inv.xmade (C:=C) I us;have p:Vals (V.ref (s.heap.objs.size+1)::vs) (Value.ref (s.heap.objs.size+1)::us):=.cons rfl r;have D:(Value.ref (s.heap.objs.size+1)::us++[]).length=ps.length:=by have e:=p.length;rw[F.len _ _ _ _ o] at e;rw[W_];exact e.symm
 obtain⟨bm,N,nm,q,bs,hd,sn,sub,ab,z,dd,k0,k1,k2,k3,k5,mN,Y,O,hi,T⟩:=lU I.kIn M.makes;have i:∃j,X.K.lookup f=some j/\j.cls=.type "function":=by have:=aan.mp M.fn;exact abl.mp this
 obtain⟨j,R,n⟩:=i;have U:=I.kIn _ _ R;have l:=F.run _ X.stack _ _ ⟨Value.ref (s.heap.objs.size+1)::us,[]⟩ (Value.ref (s.heap.objs.size+1)::us) _ _ E0 (S.make C us []) (m.env0.make C us []) (by have:=P _ (Value.ref (s.heap.objs.size+1)::us) m.kIn D;rw[W_] at this;exact this) p o;obtain⟨G,g,d,t,os⟩:=s;refine uh Fn c L T Y O hz (.inl ⟨_,_,hi,U,n,wpAny_call (abw l fun r s' a=>?_)⟩);cases r with
 |error e=>exact a.elim
 |ok y =>
 cases y with
 |ret u=>obtain⟨v,H',I3,E,J,W⟩:=m.after a;subst J;exact⟨E,⟨V.ref (G.objs.size+1),H',I3,rfl,W⟩⟩
 |next=>exact False.elim a
 |brk=>exact False.elim a
 |cont=>exact False.elim a
end
def pI (n:bmB.contains (.type "BaseException")=true) (m:A.handled=none) (h:wpAny M A x (fun v a=>∃e vs f d,v=.ref e/\Wo a.heap C io bmB newId/\a.heap.get? e=some ⟨.ref C,d,.fields vs,f⟩/\vs[1]?=some .none/\E (.ref e) a) E s):
  wpAny M A (raiseStmt env (some x) none) Q E s:=by
 unfold raiseStmt;refine a_ (Zz h (fun v a b=>?_) fun _ _ z=>z);obtain⟨e,vs,f,d,rfl,⟨l,N,nm,q,K,O,G,sub,H,k,t,I,u,r,B,L,D,j,F,P,T⟩,i,p,o⟩:=b;have c:(Value.ref C::l).contains (.type "BaseException")=true:=by rw[List.contains_cons,T.hasType n,Bool.or_true]
 obtain⟨w,g,J,tk,y⟩:=a;repeat (first | (with_reducible refine aaN i ?_) | (with_reducible refine aaN j ?_) | (with_reducible refine wpAny_isSubtype_exc j ?_;rw[c]) | (with_reducible refine Zq i rfl p ?_) | wp_step)
 exact wpAny_raiseNew_none m o
def rem (H:Hp) (e:Addr):Hp:=fun b=>if b=e then none else H b
def uo:rem H e e=none:=by unfold rem;rw[if_pos rfl]
def il (h:b≠e):rem H e b=H b:=by unfold rem;rw[if_neg h]
def jH (h:H b=none):rem H e b=none:=by
 unfold rem;split
 ·rfl
 exact h
section
variable {X:Cx}{pins:List (Addr × Obj)}{Z:St}
def Inv.rem (I:Inv X pins Z H s) (F:H e=some (.ext φ)):Inv X pins Z (rem H e) s:=by
 have h:∀b o,H b=some o->(∀C,o≠.ext C)->b≠e:=fun b o z n w=>by subst w;rw[F] at z;cases z;exact n φ rfl
 obtain⟨G,D,i,⟨E,K,J,y,B,v,A⟩,t,f,g,d,a,k,l⟩:=I;refine⟨G,D,i,⟨E,K,fun b o z n m=>jH (J b o z n m),y,fun b xs z=>?_,fun b o u z=>?_,fun b ps z=>?_⟩,t,f,jH g,fun x c z=>jH (d x c z),fun p j=>⟨(a p j).1,jH (a p j).2.1,(a p j).2.2⟩,fun b u z=>?_,l⟩
 ·have:=B b xs z;rw[il (h b _ this (fun _=>nofun))];exact this
 ·have:=v b o u z;rw[il (h b _ this (fun _=>nofun))];exact this
 ·obtain⟨m,q⟩:=A b ps z;exact⟨m,by rw[il (h b _ q (fun _=>nofun))];exact q⟩
 by_cases w:b=e
 ·subst w;rw[uo] at z;cases z
 rw[il w] at z;exact (k b u z).stay (fun _ _ _ r=>r) (fun c r=>by rw[il (h c _ r (fun _=>nofun))];exact r) fun c xs r=>by rw[il (h c _ r (fun _=>nofun))];exact r
end
section
variable {X:Cx}{k:Nat}{np cpos pos:Pos}
def Rr (C:Addr) (sp:Sp) (E:St->XK) (t:TA):TS:=fun _ Z H=>t Z H fun vs b=>vs.length<=sizeLine/\∀e,b e=none->∀Q:VK,(∀a c,a e=some (exO e C (some c) true)->E Z (.ref C) (some c) (rem a e)->Q .non a)->sp (.ref e::vs) (upd b e (exO e C none true)) Q E0
def Fg (P:X.calm=true) (Fn:ExcBaseFacts Bn newId inN bmN) (n:bmB.contains (.type Bn)=true) (L:ExcBaseFacts B nid initId bmB) (M:XMk X.K C f bmB newId) (F:acv X.prog X.w X.K X.mg X.base CX0 k f fd ps sp) (hr:t6 (k+1) X.A) (hb:Binds X.K fd ps [])
  (T:Gl X x) (V:X.mg x=some (.ref C)) (O:Meet X E) (ha:PA X (e::es) t) (p:(x==("__debug__":Str))=false:=by decide) (U:starEach (e::es) X.env=(false,eval e X.env)::starEach es X.env:=by rfl) (m:(backTo cpos (starEach es X.env)).any (·.1)=false:=by rfl) :
  PS X (.Raise (some (.Call (.Name x np) (e::es) [] cpos)) none pos) (Rr C sp E t):=by
 intro b s Z H D I h;rw[arm_exec_Raise];refine a_ (abr (pI (C:=C) (io:=some (.ref f)) (newId:=newId) L.hasBase (I.ok.hd P) ?_));refine a_ ?_;refine ZF (iH I T V ?_ p);refine callWith_K (h₀:=X.base) I.ok.mod.kin M.kp (Ob (ha cpos b s Z H _ I h) fun us W ⟨vs,H1,o,r,hz,q⟩=>⟨o.kIn,?_⟩) U m;refine Ob (Af (Q:=fun v g=>∃a c,v=.ref a/\W.heap.objs.size<=a/\g a=some (exO a C (some c) true)/\E Z (.ref C) (some c) (rem g a)) Fn n L M F hr hb o r (by show us.length<=_;rw[<- r.length];exact hz) fun a y l=>?_) fun u s2 ⟨v,g,z,R,a,c,S,Y,d,hE⟩=>?_
 ·exact q a y _ fun g c j N=>⟨rfl,a,c,rfl,l,j,N⟩
 subst S;obtain rfl:u=Value.ref a:=R;obtain⟨i,J,G,j⟩:=exO.of z.hok d;refine a_ (abr (k_ ⟨a,i,J,some c,rfl,lU z.kIn M.makes,G,j rfl,O b Z (rem g a) s2 a C (some c) ⟨z.rem d,o.newer Y,uo,.inl ⟨i,J,G,j rfl⟩⟩ hE⟩))
variable {pins:List (Addr × Obj)}{Z:St}
def Ag (a:X.stack=X.env::X.outer) (b:X.env.frame=some X.env.locals):fra X.stack=X.env.locals::X.fs:=by
 rw [a];show List.filterMap _ (X.env :: X.outer) = _;rw [aa_,b];rfl
def Inv.kpx (I:Inv X pins Z H s) (G:X.stack=X.env::X.outer) (K:X.env.frame=some X.env.locals) (k:Kpx (fra X.stack) ea (SX X pins H) s.heap h') (d:H ea=none)
  (g:X.s₀.heap.objs.size<=ea/\ea≠X.env.locals/\(∀x c,X.env.cells.lookup x=some c->c≠ea)/\∀p∈X.pn++pins,p.1≠ea):Inv X pins Z H { s with heap:=h'}:=by
 have a:=Ag G K;obtain⟨xs,J,y⟩:=k.ex;have j:∀b,b≠X.env.locals->b∉X.fs->b∉fra X.stack:=fun b l v z=>by rw[a] at z;exact (x_.mp z).elim l v
 have w:∀b,b∈X.fs->b∈fra X.stack:=fun b z=>by rw[a];exact q_ _ z
 have t:X.env.locals∈fra X.stack:=by rw[a];exact l_
 refine I.step (ch:=ea::xs) (g':=s.gens) (d':=s.drawn) (t':=s.toks) (fun b h=>?_) (fun b o l v f e _=>y b o e (j b l v) (fun z=>f (z▸l_)) fun z=>f (q_ _ z))
  (fun b o _ i _ e _=>k.slot b o e (w b i)) (fun _ _ _ _ n=>n) (fun b o f e=>?_) (fun _ _ e=>e) (fun _ _ _ e=>e) (fun b ps e=>⟨#[],by rw[e];simp⟩) (fun m F=>?_)
  (k.hok (fun b u e=>.inl (.inr ⟨u,e⟩)) (fun b h=>I.stkFree b h) d I.hok) I.bare
 ·rcases x_.mp h with rfl | h
  ·exact⟨.inr g.1,g.2⟩
  have:=J b h;refine⟨.inr (Nat.le_of_not_lt fun z=>this (.inl (.inl z))),fun z=>this (.inr (.inr (.inr z))),fun x c B z=>this (.inr (.inr (.inl ⟨x,z▸B⟩))),fun p C z=>this (.inr (.inl ⟨p,C,z⟩))⟩
 ·by_cases i:b∈fra X.stack
  ·obtain⟨D,q⟩:=k.slot b o e i;exact⟨_,q⟩
  exact⟨o,y b o e i (fun z=>f (z▸l_)) fun z=>f (q_ _ z)⟩
 obtain⟨o,E,ep,A,r⟩:=F;obtain⟨D,q⟩:=k.slot _ o A t;exact⟨_,E,ep,q,r⟩
def Inv.track (I:Inv X pins Z H s) (g:H ea=none) (a:X.s₀.heap.objs.size<=ea/\ea≠X.env.locals/\(∀x c,X.env.cells.lookup x=some c->c≠ea)/\∀p∈X.pn++pins,p.1≠ea) (G:zc X.prog X.w (upd H ea (.ext φ)) s.heap ea (.ext φ)):
  Inv X pins Z (upd H ea (.ext φ)) s:=by
 have h:∀b o,H b=some o->b≠ea:=fun b o z w=>by subst w;rw[g] at z;cases z
 obtain⟨k,E,i,⟨F,K,J,A,D,y,B⟩,v,f,C,e,d,l,t⟩:=I;refine⟨k,E,i,⟨F,K,fun b o z n m=>?_,A,fun b xs z=>?_,fun b o u z=>?_,fun b ps z=>?_⟩,v,f,by rw[aK (Ne.symm a.2.1)];exact C,fun x c z=>by rw[aK (a.2.2.1 x c z)];exact e x c z,fun p j=>⟨(d p j).1,by rw[aK (a.2.2.2 p j)];exact (d p j).2.1,(d p j).2.2⟩,fun b u z=>?_,t⟩
 ·rw[aK fun w=>by subst w;exact absurd (o_ z) (Nat.not_lt_of_le a.1)];exact J b o z n m
 ·have:=D b xs z;rw[aK (h b _ this)];exact this
 ·have:=y b o u z;rw[aK (h b _ this)];exact this
 ·obtain⟨m,q⟩:=B b ps z;exact⟨m,by rw[aK (h b _ q)];exact q⟩
 by_cases w:b=ea
 ·subst w;rw[aY] at z;cases z;exact G
 rw[aK w] at z;exact (l b u z).stay (fun _ _ _ r=>r) (fun c r=>by rw[aK (h c _ r)];exact r) fun c xs r=>by rw[aK (h c _ r)];exact r
end
def Cx.inH (X:Cx) (e:Addr):Cx:={ X with A:=X.A.mark (some (.ref e)),calm:=false,xe:=fun _ _=>False}
section
variable {X:Cx}{pins:List (Addr × Obj)}{Z:St}{s:Shared}
def Inv.inH (I:Inv X pins Z H s):Inv (X.inH ea) pins Z H s:=by
 obtain⟨a,i,d,base,e,c,j,b,h,f,g⟩:=I;exact⟨⟨a.mod,a.kind,a.glob,a.blt,a.above,a.inj,a.has,a.cab,(fun z=>nomatch z),a.frames,a.stk,a.exf,a.bs,a.bsz,a.noex,a.exfs,a.funs,a.frf⟩,i,d,base,e,c,j,b,h,f,g⟩
def Inv.outH (I:Inv (X.inH ea) pins Z H s) (j:X.Ok):Inv X pins Z H s:=by
 obtain⟨_,h,c,base,d,b,i,a,g,e,f⟩:=I;exact⟨j,h,c,base,d,b,i,a,g,e,f⟩
variable {prog:Program}{w:World}{A:Around}{K:Frag}
def askIn (K:Frag) (R:Addr):Bool:=match K.lookup R with
 |some ⟨.type t,_,.cls _,_⟩=>t=="type"
 |_=>false
def Rt (h:askIn K R=true):∃c b a,K.lookup R=some ⟨.type "type",c,.cls b,a⟩:=by
 unfold askIn at h;split at h
 ·rename_i t c b a q;rw[aan.mp h] at q;exact⟨c,b,a,q⟩
 cases h
structure afi (K:Frag) (R:Addr):Prop where
 at_:askIn K R=true
 base:mroIn K R (.type "BaseException")=some true
def pJ (a:afi K R) (X:K.In s.heap) (n:s.heap.get? ea=some i) (l:i.cls=.ref C) (j:mroIn K C (.ref R)=some b) (h:Q b s):
  wpAny (model prog w) A (excMatches (.ref ea) (.ref R)) Q E s:=by
 obtain⟨c,p⟩:=a;obtain⟨r,u,v,q⟩:=Rt c
 have o:=X _ _ q;have k:PySem.W.Looks (model prog w) s.heap (isSubtype (.ref R) (.type "BaseException")) true:=looks_mroIn X p;have m:PySem.W.Looks (model prog w) s.heap (isSubtype (.ref C) (.ref R)) b:=looks_mroIn X j;have t:isSubtype (.type "type") (.type "tuple")=pure false:=by rw[isSubtype_type];kernel_rfl
 obtain⟨e,g,d,tk,f⟩:=s;unfold excMatches;repeat (first | (with_reducible refine aaN o ?_) | (with_reducible refine aaN n ?_;rw[l]) | (with_reducible refine aah (s:=⟨e,g,d,tk,f⟩) k ?_) | (with_reducible refine aah (s:=⟨e,g,d,tk,f⟩) m ?_) | wp_step)
 cases b <;> (wp_walk;exact h)
variable {dx:Addr}{M:Model}
def name_goes {K:Pos} (I:Inv X pins Z H s) (R:X.N.Nodup) (G:X.N[i]?=some n) (g:X.env.scope.names.lookup n=some .local) (h:∀s',Inv X pins (Z.set i none) H s'->Q () s'):wpAny M A (do bindName X.env n .none;unbindBehindTheSuite X.env n K) Q E s:=by
 refine a_ (wpAny_bindName (iG (v:=.non) (u:=.none) I R G (.inl g) rfl (fun s1 a _=>?_) (.inr g)));unfold unbindBehindTheSuite;refine abR ?_;obtain⟨m,T,w⟩:=id a.loc;have x:(X.env.scope.kind==.class||(X.env.scope.kind==.module&&X.env.locals != X.env.globals))=false:=by rw[a.ok.kind];rfl
 have l:i<Z.length:=by rw[I.len];exact (ZV.mp G).1
 obtain⟨u,ru,lk⟩:=w i n .non G (by rw[ZW l]) (.inl g);have hv:m n=some u:=by
  rcases lk with ⟨_,z⟩ | ⟨z,_⟩
  ·exact z
  have V:X.env.kindOf n=some .local:=g;rcases z with z | z <;> rw[V] at z <;> cases z
 have r:=a.cne;obtain⟨oL,_,_,W,_⟩:=id T;refine wpAny_unbindName_local g T hv x fun h' u' J f=>h _ ⟨a.ok,a.os,a.bare,⟨fun b o e n L t=>?_,fun b o e n L t=>?_,a.base.free,fun b o e t=>?_,a.base.tups,a.base.frzs,a.base.tbls⟩,⟨_,J,fun j y v' S F e3=>?_⟩,fun y c e=>?_,a.free,a.freeC,fun p U=>?_,fun b ob e=>?_,by have:=a.len;simp only[abE] at this ⊢;exact this⟩
 ·exact (f.2 b (K_ (M_ (o_ e) a.ok.above))).trans (a.base.keep b o e n L t)
 ·obtain⟨Y,q⟩:=a.base.slot b o e n L t;exact⟨Y,(f.2 b (K_ (M_ (o_ e) a.ok.above))).trans q⟩
 ·obtain⟨o',q⟩:=a.base.there b o e t;exact⟨o',(f.2 b (K_ (M_ (o_ e) a.ok.above))).trans q⟩
 ·by_cases D:j=i
  ·subst D;rw[ZW l] at F;cases F
  rw[aag (Ne.symm D)] at F;obtain⟨B,r',q⟩:=w j y v' S (by rw[aag (Ne.symm D)];exact F) e3;refine⟨B,r',?_⟩;rcases q with ⟨k,e⟩ | ⟨k,c,e,z⟩
  ·refine .inl ⟨k,?_⟩;have:y≠n:=fun e=>D (mq R S (e▸G));simp [this,e]
  exact .inr ⟨k,c,e,z.sameBut f (r y c e)⟩
 ·obtain⟨B,z⟩:=a.cell y c e;exact⟨B,z.sameBut f (r y c e)⟩
 ·obtain⟨e,n,P,nf,d⟩:=a.pin p U;exact⟨(f.2 p.1 P).trans e,n,P,nf,d⟩
 refine (a.hok b ob e).stay (fun c B C q=>(f.2 c ?_).trans q) (fun _ q=>q) fun _ _ q=>q;rintro rfl;have O:=a.free;rcases C with z | C
 ·rw[<- z,O] at e;cases e
 rw[O] at C;cases C
end
def mrg (a H:Hp):Hp:=fun b=>match H b with
 |some (.tup xs)=>some (.tup xs)
 |some (.frz o u)=>some (.frz o u)
 |_=>a b
def jJ (h:H b=none):mrg a H b=a b:=by unfold mrg;rw[h]
def qK (h:H b=some (.tup xs)):mrg a H b=some (.tup xs):=by unfold mrg;rw[h]
def qL (h:H b=some (.frz o u)):mrg a H b=some (.frz o u):=by unfold mrg;rw[h]
def qM (a H:Hp) (b:Addr):(∃xs,H b=some (.tup xs)/\mrg a H b=some (.tup xs))\/(∃o u,H b=some (.frz o u)/\mrg a H b=some (.frz o u))\/mrg a H b=a b:=by
 cases q:H b with
 |none=>exact .inr (.inr (jJ q))
 |some o =>
 cases o with
 |tup xs=>exact .inl ⟨xs,rfl,qK q⟩
 |frz o u=>exact .inr (.inl ⟨o,u,rfl,qL q⟩)
 |_=>exact .inr (.inr (by unfold mrg;rw[q]))
def Cx.atTry (X:Cx) (xe:Value->Shared->Prop) (pn:List (Addr × Obj)) (a:Hp):Cx:={ X with xe:=xe,pn:=pn,H₀:=a}
section
variable {X:Cx}{pins pins':List (Addr × Obj)}{Z:St}
def Inv.atTry (I:Inv X pins Z H s):Inv (X.atTry xe (X.pn++pins) (mrg X.H₀ H)) [] Z H s:=by
 have L:=I.bs;have k:∀b∈X.fs,H b=none:=fun b d=>by obtain⟨_,o,v,_⟩:=I.ok.funs.mem d;exact I.base.free b o v (I.ok.frf b d) fun z=>I.ok.exfs b z d
 obtain⟨a,D,g,⟨E,J,F,x,B,w,y⟩,r,f,A,c,t,l,m⟩:=I;have j:∀b,mrg X.H₀ H b=none->X.H₀ b=none:=fun b z=>by
  rcases qM X.H₀ H b with ⟨xs,_,q⟩ | ⟨o,u,_,q⟩ | q
  ·rw[q] at z;cases z
  ·rw[q] at z;cases z
  rw[<- q];exact z
 refine⟨⟨a.mod,a.kind,a.glob,a.blt,a.above,a.inj,a.has,a.cab,a.hd,a.frames,a.stk,a.exf,fun b o e=>⟨(a.bs b o e).1,(jJ (L b o e).2).trans (a.bs b o e).2⟩,a.bsz,a.noex,a.exfs,a.funs,fun b d=>(jJ (k b d)).trans (a.frf b d)⟩,D,g,
  ⟨fun b o e n=>E b o e (j b n),fun b o e n=>J b o e (j b n),fun b o e n=>F b o e (j b n),x,fun b xs z=>?_,fun b o u z=>?_,fun b ps z=>?_⟩,r,f,A,c,fun p C=>t p (by simpa [Cx.atTry] using C),l,m⟩
 ·rcases qM X.H₀ H b with ⟨i,h,q⟩ | ⟨o,u,h,q⟩ | q
  ·rw[show mrg X.H₀ H b=some (.tup xs) from z] at q;cases q;exact h
  ·rw[show mrg X.H₀ H b=some (.tup xs) from z] at q;cases q
  exact B b xs (q▸z)
 ·rcases qM X.H₀ H b with ⟨i,h,q⟩ | ⟨K,G,h,q⟩ | q
  ·rw[show mrg X.H₀ H b=some (.frz o u) from z] at q;cases q
  ·rw[show mrg X.H₀ H b=some (.frz o u) from z] at q;cases q;exact h
  exact w b o u (q▸z)
 rcases qM X.H₀ H b with ⟨i,h,q⟩ | ⟨K,G,h,q⟩ | q
 ·rw[show mrg X.H₀ H b=some (.tbl ps) from z] at q;cases q
 ·rw[show mrg X.H₀ H b=some (.tbl ps) from z] at q;cases q
 exact y b ps (q▸z)
def Inv.offTry (I:Inv X pins Z H s) {l:St}(J:Inv (X.atTry xe (X.pn++pins) (mrg X.H₀ H)) pins' l H1 s1):Inv X pins l H1 s1:=by
 have j:∀b o,X.s₀.heap.get? b=some o->X.H₀ b=none->b∉X.ex->mrg X.H₀ H b=none:=fun b o e n x=>(jJ (I.base.free b o e n x)).trans n;obtain⟨_,B,d,⟨C,E,D,t,y,r,v⟩,i,c,w,a,k,g,h⟩:=J;refine⟨I.ok,B,d,⟨fun b o e n f x=>C b o e (j b o e n x) f x,fun b o e n f x=>E b o e (j b o e n x) f x,fun b o e n x=>D b o e (j b o e n x) x,t,fun b xs z=>y b xs (qK (I.base.tups b xs z)),fun b o u z=>r b o u (qL (I.base.frzs b o u z)),fun b ps z=>v b ps ?_⟩,i,c,w,a,fun p A=>k p (U_ _ A),g,h⟩;obtain⟨m,q⟩:=I.base.tbls b ps z;show mrg X.H₀ H b=_;unfold mrg;rw[q];exact z
def Ru {K:Frag} (h:SqT K H a xs):SqT K (mrg b H) a xs:=by
 rcases h with (h | ⟨o,h⟩) | h
 ·exact .inl (.inl (qK h))
 ·exact .inl (.inr ⟨o,qL h⟩)
 exact .inr h
def Inv.sqt {K:Frag} (I:Inv X pins Z H s) (h:SqT K X.H₀ a xs):SqT K H a xs:=by
 rcases h with (h | ⟨o,h⟩) | h
 ·exact .inl (.inl (I.base.tups a xs h))
 ·exact .inl (.inr ⟨o,I.base.frzs a o _ h⟩)
 exact .inr h
def SP.offTry (I:Inv X pins Z H s) (h:SP (X.atTry xe (X.pn++pins) (mrg X.H₀ H)) pins' D f s'):SP X pins D f s':=by
 cases f with
 |next=>obtain⟨a,H',J,q⟩:=h;exact⟨a,H',I.offTry J,q⟩
 |brk=>obtain⟨a,H',J,q⟩:=h;exact⟨a,H',I.offTry J,q⟩
 |cont=>obtain⟨a,H',J,q⟩:=h;exact⟨a,H',I.offTry J,q⟩
 |ret u=>obtain⟨v,a,H',J,r,q⟩:=h;exact⟨v,a,H',I.offTry J,r,q⟩
end
def Ends.gone (D:Ends) (i:Nat):Ends:=⟨fun Z H=>D.nx (Z.set i none) H,D.rt,fun Z H=>D.bk (Z.set i none) H,fun Z H=>D.ct (Z.set i none) H⟩
section
variable {X:Cx}{R:Addr}{np hpos pos:Pos}{b₀:Stmt}
variable {C:Addr}{E:St->XK}{newId nid B Bn initId inN:String}{cpos:Pos}
structure afw (K:Frag) (C:Addr) (bmB:List Value) (newId:String):Prop where
 makes:yJ K C none bmB newId=true
 kp:keepIn K (.ref C)=true
def J7 (C:Addr) (E:St->XK):TS:=fun _ Z H=>E Z (.ref C) none H
def Ah (n:X.calm=true) (w:ExcBaseFacts Bn newId inN bmN) (b:bmB.contains (.type Bn)=true) (f:ExcBaseFacts B nid initId bmB) (M:afw X.K C bmB newId)
  (p:Gl X x) (r:X.mg x=some (.ref C)) (l:Meet X E) (c:(x==("__debug__":Str))=false:=by decide) :
  PS X (.Raise (some (.Call (.Name x np) [] [] cpos)) none pos) (J7 C E):=by
 intro a s Z H D I h;rw[arm_exec_Raise];refine a_ (abr (pI (C:=C) (io:=none) (newId:=newId) f.hasBase (I.ok.hd n) ?_));refine a_ ?_;refine ZF (iH I p r ?_ c);refine PySem.W.callWith_K0 I.kIn M.kp ?_;obtain⟨L,N,nm,q,S,V,P,sub,Q,m,A,R,F,z,J,U,O,v,u,y,T⟩:=lU I.kIn M.makes;obtain⟨G,g,d,t,o⟩:=s;refine uh w b f T v u (by decide) (.inr ⟨y,fun h' vs k e j=>?_⟩);have i:Inv X a Z H ⟨h',g,d,t,o⟩:=I.kept (t':=t) k;exact a_ (abr (k_ ⟨_,vs,#[],none,rfl,lU i.kIn M.makes,e,j,l a Z H _ _ C none ⟨i,I.newer (aaE _),I.hok.fresh (aaE _),.inl ⟨vs,#[],e,j⟩⟩ h⟩))
variable {k:Nat}{f:Addr}{ps:List Str}{p:Pos}
def Rv (sp:Sp) (E:St->XK) (t:TA):TE:=fun Z H Q=>t Z H fun vs a=>sp vs a Q (E Z)
def Fi (F:acv X.prog X.w X.K X.mg X.base (CX1 X.prog X.w) k f fd ps sp) (o:t6 k X.A) (l:Gl X x) (i:X.mg x=some (.ref f)) (g:keepIn X.K (.ref f)=true) (m:Binds X.K fd ps []) (j:Meet X E)
  (u:PA X (e::es) t) (b:(x==("__debug__":Str))=false:=by decide) (n:starEach (e::es) X.env=(false,eval e X.env)::starEach es X.env:=by rfl) (c:(backTo pos (starEach es X.env)).any (·.1)=false:=by rfl) :
  PE X (.Call (.Name x p) (e::es) [] pos) (Rv sp E t):=by
 intro a s Z H Q I h;refine ZF (iH I l i ?_ b);refine callWith_K (h₀:=X.base) I.ok.mod.kin g (Ob (u pos a s Z H _ I h) fun us v ⟨vs,y,d,r,q⟩=>⟨d.kIn,?_⟩) n c;exact J6 F o m j d r q
end
end L2
namespace L3
open L2
abbrev YK3:=Addr->List (Str × T)->lO->Prop
def YS (E:YK3):YK3:=fun C fs H=>∃H',eH H' H/\E C fs H'
def DX (K:Frag) (H:Hp) (H3:lO):Option Addr->List (Str × T)->Prop
 |none,fs=>fs=[]
 |some dx,fs=>fs≠[]/\H3 dx=none/\∃vs,H dx=some (dxO dx vs)/\acN K H fs vs
def DX.sub {K:Frag} (h:DX K H H3 b fs) (c:eH a H3):DX K H a b fs:=by
 cases b with
 |none=>exact h
 |some d=>exact⟨h.1,(by cases z:a d with | none=>rfl | some o=>have:=c d o z;rw[h.2.1] at this;cases this),h.2.2⟩
def Wq (K:Frag) (c:St3->YK3):L2.St->XK:=fun Z a d H=>∃C fs b H3,a=.ref C/\ab2 K H b Z/\tL K H3 H/\DX K H H3 d fs/\c b C fs H3
def KX3 (K:Frag) (H:Hp) (c:YK3) (E:XK):Prop:=∀C b fs H' a,tR K H H'->tL K a H'->DX K H' a b fs->c C fs a->E (.ref C) b H'
abbrev qN:=List T->lO->My->YK3->Prop
def Rx (K:Frag) (sp:qN):Sp:=fun vs H Q E=>∃ts H3 b a,lX K H ts vs/\tL K H3 H/\sp ts H3 b a/\KV3 K H b Q/\KX3 K H a E
def Fj (P:Program) (w:World) (K:Frag) (a:Str->Option Value) (base:Heap) (k:Nat) (f:Addr) (b:FuncData) (ps:List Str) (sp:qN):Prop:=acv P w K a base (CX1 P w) k f b ps (Rx K sp)
def lw (X:Cx) (a:St3->YK3):Prop:=Meet X (Wq X.K a)
section
variable {p pos:Pos}
def qO (sp:qN) (E:St3->YK3) (t:TA3):Pr:=fun Z H Q=>t Z H fun vs a=>sp vs a Q (E Z)
def Fo (F:Fj X.prog X.w X.K X.mg X.base k f fd ps sp) (D:t6 k X.A) (v:Gl X x) (z:X.mg x=some (.ref f)) (u:keepIn X.K (.ref f)=true) (B:Binds X.K fd ps []) (o:lw X E)
  (L:PA3 X (e::es) t) (c:(x==("__debug__":Str))=false:=by decide) (y:starEach (e::es) X.env=(false,eval e X.env)::starEach es X.env:=by rfl) (b:(backTo pos (starEach es X.env)).any (·.1)=false:=by rfl) :
  Ho X (.Call (.Name x p) (e::es) [] pos) (qO sp E t):=by
 refine PE.imp (Fi F D v z u B o L c y b) ?_;rintro Z H Q ⟨d,H3,s,m,J,h,k⟩;refine⟨d,H3,_,m,J,h,fun vs H' ts j n l r q=>?_⟩;exact⟨ts,j,s,E d,r,l,q,k.at n,fun C M fs N a i g I G=>⟨C,fs,d,a,rfl,m.mono (n.trans i),g,I,G⟩⟩
end
def Inv.tupLe {Z:L2.St} (I:Inv X b Z H s):tR X.K X.H₀ H:=by
 intro a xs h;rcases h with (h | ⟨o,h⟩) | h
 ·exact .inl (.inl (I.base.tups a xs h))
 ·exact .inl (.inr ⟨o,I.base.frzs a o _ h⟩)
 exact .inr h
def fnX {K:Frag}{st:Stmt} (F:Fun K x a st f fd) (S:gV N ps (aB st)) (m:∀ts H Q E,sp ts H Q E->ts.length=ps.length) (d:∀(b:Value) (A:Around) (outer:List Env) (s:Shared) (H:Hp) (E:XK) (ts:List T) (H3:lO) (Q:My) (g:YK3),t6 k (A.deeper (envOfC a (aB st) s.heap.objs.size f b))->sp ts H3 Q g ->
   lw (mD (CX1 P w) P w K j base N a (aB st) f b A outer s H E) (fun _=>YS g) ->
   ∃t,lF (mD (CX1 P w) P w K j base N a (aB st) f b A outer s H E) (cC st) t/\t { nx:=fun _ H'=>n7 Q .non H',rt:=n7 Q} (aQ N ts) H3):Fj P w K j base (k+1) f fd ps sp:=by
 obtain⟨oc,od,kV,O,pm,an,b,ct,I,rfl,R,o⟩:=F.ex;refine Lx R o S (fun vs H Q E ⟨ts,H3,B,g,r,D,q,k,u⟩=>by rw[<- r.length];exact m _ _ _ _ q) fun A outer s H vs Q E V ⟨ts,H3,B,g,r,D,q,k,u⟩=>?_;obtain⟨t,U,G⟩:=d b A outer s H E ts H3 B g V q (by
  rintro i Z H' s' W C p y ⟨C',fs,Z3,h,L,ss,c,X,n,e,q⟩
  cases L
  exact Fd i Z H' s' W C p y (u C p fs H' n (Inv.tupLe y.inv) (c.sub e) (X.sub e) q))
 exact⟨_,U,aQ N ts,H3,_,o6 r,D,G,fun Z' H' M h l Y c ⟨n,e,q⟩=>k _ _ _ _ l (c.sub e) .ofNon q,fun v H' t h l c J ⟨n,e,q⟩=>k _ _ _ _ l (c.sub e) J q,fun _ _ _ _ _ _ _ z=>z,fun _ _ _ _ _ _ _ z=>z⟩
end L3
namespace L2
def sX1 (K:Frag) (i h:TE) (f:Str):TS:=fun D Z H=>h Z H fun y g=>i Z g fun x b=>∃e C d c,x=.ref e/\b e=some (exO e C none c)/\acW K C d/\findIn K (.ref C) f=some none /\
 ∀a,b a=none->a≠e->D.nx Z (upd (upd b a (dxO a [(f,y)])) e (exO e C (some a) c))
def sX2 (K:Frag) (i h:TE) (f:Str):TS:=fun D Z H=>h Z H fun y g=>i Z g fun x b=>∃e C d c a fs,x=.ref e/\b e=some (exO e C (some a) c)/\b a=some (dxO a fs)/\fs.length<1000/\acW K C d/\findIn K (.ref C) f=some none /\
 D.nx Z (upd b a (dxO a (dY f y fs)))
def Wr (g:PE X o ta) (l:PE X value tv) (p:swapsWith value (some (.Attribute o f pos')) pos.line X.env=pure false):PS X (.Assign [.Attribute o f pos'] value pos) (sX1 X.K ta tv f):=by
 intro a s Z H D I h;refine aa9 (Ob (l a s Z H _ I h) fun u m ⟨y,i,d,z,q⟩=>Ob (g a m Z i _ d q) fun k M ⟨x,J,r,j,e,C,L,G,B,v,F,n,t⟩=>?_) p;subst B;obtain rfl:k=Value.ref e:=j;exact Wm F r v n z fun c E w b A=>⟨Z,_,A,t c w b⟩
def Ws (g:PE X o ta) (l:PE X value tv) (p:swapsWith value (some (.Attribute o f pos')) pos.line X.env=pure false):PS X (.Assign [.Attribute o f pos'] value pos) (sX2 X.K ta tv f):=by
 intro a s Z H D I h;refine aa9 (Ob (l a s Z H _ I h) fun u m ⟨y,i,d,w,q⟩=>Ob (g a m Z i _ d q) fun k M ⟨x,J,r,j,e,C,L,G,E,fs,A,v,c,b,F,n,t⟩=>?_) p;subst A;obtain rfl:k=Value.ref e:=j;exact Wn F r v c b n w fun B z=>⟨Z,_,z,t⟩
def wY (K:Frag) (ns:List Str):Sp:=fun vs H Q _=>∃e b C c,vs=.ref e::b/\b.length=ns.length/\H e=some (exO e C none true)/\acW K C c/\(∀n∈ns,findIn K (.ref C) n=some none) /\
 ∀a,H a=none->a≠e->Q .non (upd (upd H a (dxO a (ns.zip b))) e (exO e C (some a) true))
def Fp (h:a≠b):upd (upd H a o) b u=upd (upd H b u) a o:=by
 funext c;unfold upd;by_cases d:c=a
 ·by_cases e:c=b
  ·exact absurd (d.symm.trans e) h
  simp [d,h]
 simp [d]
end L2
namespace L3
open L2
def ut {K:Frag}:∀{ns:List Str}{ts:List T}{vs:List V},lX K H ts vs->acN K H (ns.zip ts) (ns.zip vs)
 |[],_,_,_=>.nil
 |_::_,[],_,r=>by rw[r.inv0];exact .nil
 |n::ns,t::ts,_,r=>by
  obtain⟨v,c,rfl,a,b⟩:=r.inv
  exact .cons ⟨rfl,a⟩ (ut b)
section
variable {X:Cx}{k:Nat}{np cpos pos:Pos}
def qP (C:Addr) (ns:List Str) (E:St3->YK3) (t:TA3):TS3:=fun _ Z H=>t Z H fun vs a=>vs.length=ns.length/\E Z C (ns.zip vs) a
def Fq (U:X.calm=true) (Fn:ExcBaseFacts Bn newId inN bmN) (y:bmB.contains (.type Bn)=true) (FB:ExcBaseFacts B nid initId bmB) (M:XMk X.K C f bmB newId) (S:acW X.K C cd) (G:∀n∈ns,findIn X.K (.ref C) n=some none) (hn8:ns.length<=100) (s:ns≠[])
  (F:acv X.prog X.w X.K X.mg X.base CX0 k f fd ps (wY X.K ns)) (hr:t6 (k+1) X.A) (hb:Binds X.K fd ps []) (W:Gl X x) (hm:X.mg x=some (.ref C)) (T:lw X E) (ha:PA3 X (e::es) t)
  (I:(x==("__debug__":Str))=false:=by decide) (Y:starEach (e::es) X.env=(false,eval e X.env)::starEach es X.env:=by rfl) (v:(backTo cpos (starEach es X.env)).any (·.1)=false:=by rfl) :
  PS3 X (.Raise (some (.Call (.Name x np) (e::es) [] cpos)) none pos) (qP C ns E t):=by
 refine PS.imp (Fg U Fn y FB M F hr hb W hm T ha I Y v) ?_;rintro D Z H ⟨R,H3,D3,O,sh,h,_⟩;refine⟨R,H3,_,O,sh,h,fun vs H' ts N V p r ⟨hl,q⟩=>?_⟩;have P:=r.length;refine⟨by have:sizeLine=16777216:=rfl;omega,fun a L Q hQ=>⟨a,vs,C,cd,rfl,by omega,aY,S,G,fun c m i=>hQ _ c aY ?_⟩⟩;have d:H' c=none:=by rw[aK i] at m;exact m
 have j:∀b,b≠a->b≠c->rem (upd (upd (upd H' a (exO a C none true)) c (dxO c (ns.zip vs))) a (exO a C (some c) true)) a b=H' b:=fun b J n2=>by rw[il J,aK J,aK n2,aK J]
 have l:∀b u,H' b=some u->b≠a/\b≠c:=fun b u z=>⟨fun w=>(by subst w;rw[L] at z;cases z),fun w=>(by subst w;rw[d] at z;cases z)⟩;have g:tR X.K H' (rem (upd (upd (upd H' a (exO a C none true)) c (dxO c (ns.zip vs))) a (exO a C (some c) true)) a):=fun b xs z=>by
  rcases z with (z | ⟨o,z⟩) | z
  ·exact .inl (.inl ((j b (l b _ z).1 (l b _ z).2).trans z))
  ·exact .inl (.inr ⟨o,(j b (l b _ z).1 (l b _ z).2).trans z⟩)
  exact .inr z
 refine⟨C,ns.zip ts,R,N,rfl,O.mono (V.trans g),fun b o z=>(p b o z).stay g fun u w=>(j b (l b _ w).1 (l b _ w).2).trans w,⟨fun z=>s (aap ?_),p.fresh d,ns.zip vs,?_,(ut r).mono g⟩,q⟩
 ·have:=T_ List.length z;rw[List.length_zip,Zu] at this;omega
 rw[il i,aK i,aY]
def mY (C:Addr) (E:St3->YK3):TS3:=fun _ Z H=>E Z C [] H
def Ai (k:X.calm=true) (c:ExcBaseFacts Bn newId inN bmN) (b:bmB.contains (.type Bn)=true) (f:ExcBaseFacts B nid initId bmB) (M:afw X.K C bmB newId) (l:Gl X x) (g:X.mg x=some (.ref C)) (i:lw X E) (a:(x==("__debug__":Str))=false:=by decide) :
  PS3 X (.Raise (some (.Call (.Name x np) [] [] cpos)) none pos) (mY C E):=by
 refine PS.imp (Ah k c b f M l g i a) ?_;rintro D Z H ⟨d,H3,m,e,j,h,_⟩;exact⟨C,[],d,H3,rfl,e,j,rfl,h⟩
end
end L3
namespace L2
def Ft:List Value->Bool
 |.ref _::r=>Ft r
 |l=>l==bmV
def pK (a:Value):∀(l:List Value),Ft l=true->refuseLoop a "__setattr__" l=pure ()
 |[],h=>by cases (aan.mp (show (([]:List Value)==bmV)=true from h))
 |v::r,h=>by
  by_cases q:∃c,v=.ref c
  ·
   obtain⟨c,rfl⟩:=q
   rw[refuseLoop_ref]
   exact pK a r h
  ·
   have e:v::r=bmV:=by
    cases v with
    |ref c=>exact absurd ⟨c,rfl⟩ q
    |_=>exact aan.mp h
   rw[e]
   exact PySem.F.store_ValueError.passes a
def YT (K:Frag) (C:Addr):Bool:=(clsIn K C).any fun a=>a.hasDict&&Ft a.mro
def J8 {K:Frag} (h:YT K C=true) (c:findIn K (.ref C) "__setattr__"=some (some (.builtin "object.__setattr__"))) (d:mroIn K C (.type "object")=some true):∃b,acW K C b:=by
 obtain⟨b,e,q⟩:=any_some h;rw[Zi] at q;exact⟨b,e,c,fun a=>pK a _ q.2,d,q.1⟩
end L2
namespace L3
open L2
structure aed (P:Program) (w:World) (K:Frag) (mg:Str->Option Value) (base:Heap) (k:Nat) (x:Str) (st:Stmt) (ps:List Str) (sp:qN):Prop where
 ex:∃(f:Addr) (fd:FuncData),G3 K mg x st ps f fd/\Fj P w K mg base k f fd ps sp
def Fv {st:Stmt}{p c:Pos} (D:aed X.prog X.w X.K X.mg X.base k x st ps sp) (i:lw X E) (n:t6 k X.A) (j:Gl X x) (o:PA3 X (e::a) t) (d:(x==("__debug__":Str))=false:=by decide) (l:starEach (e::a) X.env=(false,eval e X.env)::starEach a X.env:=by rfl) (h:(backTo c (starEach a X.env)).any (·.1)=false:=by rfl):
  Ho X (.Call (.Name x p) (e::a) [] c) (qO sp E t):=by
 obtain⟨f,q,g,F⟩:=D.ex;exact Fo F n j g.m g.fn.kp g.b i o d l h
structure afr (P:Program) (w:World) (K:Frag) (mg:Str->Option Value) (base:Heap) (x:Str) (C:Addr) (ns:List Str):Prop where
 m:mg x=some (.ref C)
 ex:∃f fd ps cd,XMk K C f bmV "ValueError.__new__"/\acW K C cd/\acv P w K mg base CX0 1 f fd ps (wY K ns)/\Binds K fd ps []
 nf:∀n∈ns,findIn K (.ref C) n=some none
 nl:ns.length<=100
 n0:ns≠[]
structure afv (K:Frag) (mg:Str->Option Value) (x:Str) (C:Addr):Prop where
 m:mg x=some (.ref C)
 k:afw K C bmV "ValueError.__new__"
def Aj (D:afv X.K X.mg x C) (e:lw X E) (f:X.calm=true) (g:Gl X x) (b:(x==("__debug__":Str))=false:=by decide):
  PS3 X (.Raise (some (.Call (.Name x d) [] [] a)) none c) (mY C E):=Ai f aaX (by decide) aaX D.k g D.m e b
def Ak {h a g:Pos} (D:afr X.prog X.w X.K X.mg X.base x C ns) (j:lw X E) (o:t6 2 X.A) (k:X.calm=true) (n:Gl X x) (p:PA3 X (e::b) t) (c:(x==("__debug__":Str))=false:=by decide) (i:starEach (e::b) X.env=(false,eval e X.env)::starEach b X.env:=by rfl) (d:(backTo a (starEach b X.env)).any (·.1)=false:=by rfl):
  PS3 X (.Raise (some (.Call (.Name x h) (e::b) [] a)) none g) (qP C ns E t):=by
 obtain⟨f,q,ps,r,M,S,F,l⟩:=D.ex;exact Fq k aaX (by decide) aaX M S D.nf D.nl D.n0 F o l n D.m j p c i d
structure afq (K:Frag) (mg:Str->Option Value) (x:Str) (R:Addr):Prop where
 m:mg x=some (.ref R)
 a:afi K R
end L3
namespace L2
structure aeQ (K:Frag) (C:Addr):Prop where
 ga:findIn K (.ref C) "__getattribute__"=some (some (.builtin "BaseException.__getattribute__"))
 gt:findIn K (.ref C) "__getattr__"=some none
 be:mroIn K C (.type "BaseException")=some true
 hd:hasDictIn K C=true
section
variable {K:Frag}
def YW (F:aeQ K C) (X:K.In s.heap) (I:InstAt s.heap x ox C (some od)) (r:findIn K (.ref C) name=some none) (o:lookIn name od=some (some v)) (n:handedIn v=true) (h:Q v { s with toks:=s.toks+1}):wpAny (model prog w) A (getAttr (.ref x) name expr) Q E s:=by
 replace h:∀t',t'=s.toks+1->Q v { s with toks:=t'}:=fun t' e=>e▸h;have y:=findObj_own (attr:=none) F.hd r rfl o;obtain⟨b,g,d,t,i⟩:=s;have a:=I.type (M:=model prog w);have p:=looks_findIn (M:=model prog w) X F.ga;have q:=looks_findIn (M:=model prog w) X F.gt;have k:=PySem.W.looks_find (M:=model prog w) X I y;have u:PySem.W.Looks (model prog w) b (isInstance (.ref x) (.type "BaseException")) true:=I.type.andThen (looks_mroIn X F.be);have z:=PySem.F.attr_ValueError.ga.bind (.ref x);have m:(expr&&onTheHeap (Value.builtin "BaseException.__getattribute__"))=false:=by cases expr <;> rfl
 have c:(Value.builtin "BaseException.__getattribute__"==Value.builtin "object.__getattribute__")=false:=by decide +kernel
 have j:(onTheHeap (Value.ref C)&&Value.builtin "BaseException.__getattribute__"==Value.builtin "object.__getattribute__")=false:=by rw[c];rfl
 unfold getAttr getAttrBy;refine a_ (wpAny_mkText (aaj (a_ (a.at (a_ (p.at ?_))))));show wpAny (model prog w) A (getAttrByItsOwn (.ref x) (.str name t) (.ref C) (.builtin "BaseException.__getattribute__") true expr) Q E ⟨b,g,d,t+1,i⟩;unfold getAttrByItsOwn;repeat (any_goals (first | assumption | (with_reducible refine PySem.W.Looks.at a ?_) | (with_reducible refine PySem.W.Looks.at q ?_) | wp_step))
 show codeAny (model prog w) A (.call (.builtin "BaseException.__getattribute__") ⟨[.ref x,.str name t],[]⟩) _ _;have l:builtinKind "BaseException.__getattribute__"=some .slot:=by decide +kernel
 have f:splitId "BaseException.__getattribute__"=some ("BaseException","__getattribute__"):=by decide +kernel
 refine codeAny_call_builtin PySem.F.attr_ValueError.ga.plain PySem.F.entry_bexc_ga (@check_slot (model prog w) _ _ ⟨b,g,d,t+1,i⟩ "BaseException.__getattribute__" "BaseException" "__getattribute__" (.ref x) [.str name t] [] _ l f u (PySem.F.args_bexc_ga (.ref x) (.str name t)) ?_);refine a_ (k_ (a_ (k_ (a_ (a.at (a_ (k.at ?_)))))));refine k_ ?_;show wpAny _ _ (handedOut v) _ _ _;rw[PySem.W.handedOut_of n];exact k_ (h _ rfl)
def tXF (K:Frag) (d:TE) (f:Str):TE:=fun Z H Q=>d Z H fun x b=>∃a C c e fs v,x=.ref a/\b a=some (exO a C (some c) e)/\b c=some (dxO c fs)/\aeQ K C/\findIn K (.ref C) f=some none/\fs.lookup f=some v/\Q v b
def Wu (t:PE X e ta) (y:attributeBase e f X.env (eval e X.env)=eval e X.env):PE X (.Attribute e f pos) (tXF X.K ta f):=by
 intro b s Z H Q I h;refine xQ y (Ob (t b s Z H _ I h) fun u J ⟨x,m,c,p,a,C,j,F,fs,v,E,A,k,G,w,l,q⟩=>?_);subst E;obtain rfl:u=Value.ref a:=p;obtain⟨vs,n,i,_⟩:=exO.of c.hok A;obtain⟨mA,d,r,_⟩:=dxO.of c.hok k;obtain⟨od,B,z⟩:=jY d;obtain⟨u,D,g⟩:=acl.some_of (v:=v) (o:=mA f) (by rw[<- l];exact r f);refine YW G c.kIn (ox:=⟨.ref C,some j,.fields vs,n⟩) ⟨i,rfl,rfl,B⟩ w (by rw[z,D]) (oK g) ⟨v,m,c.tok _,g,q⟩
end
end L2
namespace L3
open L2
def acP.gone (D:acP) (i:Nat):acP:=⟨fun Z H=>D.nx (Z.set i none) H,D.rt,fun Z H=>D.bk (Z.set i none) H,fun Z H=>D.ct (Z.set i none) H⟩
def hpX (H:lO) (a C:Addr) (fs:List (Str × T)) (d:Option Addr):lO:=match d with
 |none=>fY H a (.exc C none)
 |some b=>fY (fY H b (.xdt fs)) a (.exc C (some b))
def newX (H:lO) (a:Addr) (fs:List (Str × T)) (d:Option Addr):Prop:=H a=none/\match d with
 |none=>fs=[]
 |some b=>fs≠[]/\H b=none/\a≠b
def ab2.gone {K:Frag} (s:ab2 K H a Z) (i:Nat):ab2 K H (a.set i none) (Z.set i none):=by
 refine⟨by simp [s.len],fun j t e=>?_⟩;by_cases c:i=j
 ·subst c;by_cases b:i<a.length
  ·rw[ZW b] at e;cases e
  rw[N_ (by simpa using b)] at e;cases e
 rw[aag c] at e ⊢;exact s.at' j t e
def Ry (K:Frag) (te:Pr) (f:Str):Pr:=fun Z H Q=>te Z H fun x b=>∃a C c fs t,x=.ref a/\b a=some (.exc C (some c))/\b c=some (.xdt fs)/\aeQ K C/\findIn K (.ref C) f=some none/\fs.lookup f=some t/\Q t b
def pL {K:Frag}:∀{fs:List (Str × T)}{vs:List (Str × V)},acN K H fs vs->fs.lookup f=some t->∃v,vs.lookup f=some v/\Rep K H t v
 |[],_,.nil,h=>nomatch h
 | (g,u)::fs,(g',u')::vs,.cons ⟨e,r⟩ rr,h=>by
  cases e
  rw[Z9] at h ⊢
  cases q:(f==g) with
  |true =>
   rw[q] at h
   cases h
   exact⟨u',rfl,r⟩
  |false =>
   rw[q] at h
   exact pL rr h
def Wv (n:Ho X e te) (x:attributeBase e f X.env (eval e X.env)=eval e X.env:=by rfl):Ho X (.Attribute e f pos) (Ry X.K te f):=by
 refine PE.imp (Wu n x) ?_;rintro Z H Q ⟨s,H3,D,j,z,h,k⟩;refine⟨s,H3,_,j,z,h,fun v H' t y m b r q=>?_⟩;obtain⟨a,C,c,fs,t',rfl,A,g,G,w,l,q⟩:=q;have o:H' a=some (exO a C (some c) false):=b a _ A;obtain⟨vs,p,d⟩:=b c _ g;obtain⟨B,u,i⟩:=pL d l;exact⟨a,C,c,false,vs,B,r.ref,o,p,G,w,u,k _ _ _ _ m b i q⟩
def Fw {K:Frag} (b:X.K=K) (d:Ho X e te) (c:attributeBase e f X.env (eval e X.env)=eval e X.env:=by rfl):Ho X (.Attribute e f a) (Ry K te f):=by
 subst b;exact Wv d c
end L3
namespace L2
inductive HdN (X:Cx):Option Str->Option Nat->Prop
 |no:HdN X none none
 |as {n:Str} {i:Nat} (hN:X.N.Nodup) (hi:X.N[i]?=some n) (hl:X.env.scope.names.lookup n=some .local):HdN X (some n) (some i)
inductive HdW (X:Cx):List ExceptHandler->List (Addr × Option Nat × TS)->Prop
 |nil:HdW X [] []
 |cons {x:Str} {np hpos:Pos} {b₀:Stmt} {suite:List Stmt} {R:Addr} {th:TS} {hs:List ExceptHandler} {rs:List (Addr × Option Nat × TS)} {nn:Option Str} {i:Option Nat} (a:afi X.K R) (hg:Gl X x) (hm:X.mg x=some (.ref R)) (hdb:(x==("__debug__":Str))=false)
   (hsuite:∀ea,PSs (X.inH ea) (b₀::suite) th) (hn:HdN X nn i) (r:HdW X hs rs):HdW X (.ExceptHandler (some (.Name x np)) nn (b₀::suite) hpos::hs) ((R,i,th)::rs)
def uv {a:Type}(K:Frag) (C:Addr) (k:a->Prop):List (Addr × a)->Prop
 |[]=>False
 | (R,th)::rs=>(mroIn K C (.ref R)=some true/\k th)\/(mroIn K C (.ref R)=some false/\uv K C k rs)
def hdW (D:Ends) (Z:St) (C:Addr) (b:Option Addr) (H:Hp):Option Nat × TS->Prop
 | (none,th)=>th D Z H
 | (some i,th)=>∀a,H a=none->th (D.gone i) (Z.set i (some (.ref a))) (upd H a (exO a C b false))
def Nt (K:Frag) (c:Hp) (d:List (Addr × Option Nat × TS)) (D:Ends):St->XK:=fun Z b e H=>∃C,b=.ref C/\((∀a xs,SqT K c a xs->SqT K H a xs)->uv K C (hdW D Z C e H) d)
def Ww (K:Frag) (a:List (Addr × Option Nat × TS)) (tb:(St->XK)->TS):TS:=fun D Z H=>tb (Nt K H a D) D Z H
def J9 (P:X.stack=X.env::X.outer) (hf:X.env.frame=some X.env.locals) (hh:HdW X B rs) (hne:B≠[])
  (N:∀(xe:Value->Shared->Prop) (pn:List (Addr × Obj)) (H0:Hp) (Es:St->XK),Meet (X.atTry xe pn H0) Es->PSs (X.atTry xe pn H0) body (tb Es)) :
  PS X (.Try body B [] [] pos) (Ww X.K rs tb):=by
 intro d s Z H D I h;obtain⟨h0,hr,rfl⟩:∃h0 hr,B=h0::hr:=by
  cases B with
  |nil=>exact absurd rfl hne
  |cons a b=>exact⟨a,b,rfl⟩
 refine wpAny_Try_except ?_;refine Zz (N _ (X.pn++d) (mrg X.H₀ H) (Nt X.K H rs D) ?_ [] s Z H D I.atTry h) (fun f s1 q=>?_) (fun _ _ z=>z)
 ·intro pins' Z' H' s' k C dx F he;obtain⟨C',e1,j⟩:=he;cases e1;have t:Inv X d Z' H' s':=I.offTry F.inv;replace j:=j fun a xs z=>Inv.sqt F.inv (Ru z);have g:=F.free;have y:X.s₀.heap.objs.size<=k/\k≠X.env.locals/\(∀x c,X.env.cells.lookup x=some c->c≠k)/\∀p∈X.pn++d,p.1≠k:=⟨F.new.1,F.new.2.1,F.new.2.2.1,fun p hp=>F.new.2.2.2 p (U_ _ hp)⟩;have U:Rsd s'.heap k (.ref C) dx\/Ntd s'.heap (SX X d H') k (.ref C) dx .none\/Ntd s'.heap (SX X d H') k (.ref C) dx (rawInt X.env.locals):=by
   rcases F.fly with q | q
   ·exact .inl q
   refine .inr (.inl (q.mono fun b Q=>?_));rcases Q with Q | ⟨p,hp,e⟩ | Q
   ·exact .inl Q
   ·exact .inr (.inl ⟨p,U_ _ hp,e⟩)
   exact .inr (.inr Q)
  have hfr:=t.ok.frames;have hl0:=t.stack;have J:∀{W:Heap},W.FunFrames X.base X.stack->∀b∈fra X.stack,∃o,W.get? b=some o/\∀vs,o.data≠.fields vs:=fun z b mb=>(z.mem mb).2;show wpAny (model X.prog X.w) X.A (noteFrame (.ref k) X.env) _ _ s';refine note (L:=X.env.locals) (base:=X.base) (outer:=X.outer) (by rw[<- P];exact hfr) (by rw[<- P];exact hl0) hf U (fun b Q=>t.sx Q) fun h1 n1 k1=>?_;rw[<- P] at k1;have I1:=t.kpx P hf k1 g y;refine yI (fs:=fra X.stack) n1 (J I1.stack) fun h2 n2 k2=>?_;have R:=I1.kpx P hf k2 g y;clear U k1 k2 hne h;show wpAny _ _ (handleBy (.ref k) X.env (h0::hr)) _ _ _;generalize h0::hr=B at hh;induction hh with
  |nil=>exact j.elim
  |cons a hg hm hdb n hn r ih =>
  refine wpAny_handleBy_cons (codeAny_handlers_test (iH (X:=X.inH k) R.inH hg hm ?_ hdb)) (by intro q;cases q);obtain⟨vs,sl,T,oT,ts,ho,_⟩:=id n2;rcases j with ⟨E,Y⟩ | ⟨E,O⟩
  ·refine pJ a R.kIn ho rfl E ?_;show codeAny _ _ _ _ _;cases hn with
   |no =>
    refine codeAny_handlers_suite ?_;refine yI (fs:=fra X.stack) n2 (J R.stack) fun h3 n3 k3=>?_;have I3:=R.kpx P hf k3 g y;refine Zz (n k d _ _ _ D I3.inH Y) (fun f s5 q=>?_) fun _ _ z=>z.elim;cases f with
    |next=>obtain⟨G,l,m,q⟩:=q;exact⟨_,l,m.outH t.ok,q⟩
    |brk=>obtain⟨G,l,m,q⟩:=q;exact⟨_,l,m.outH t.ok,q⟩
    |cont=>obtain⟨G,l,m,q⟩:=q;exact⟨_,l,m.outH t.ok,q⟩
    |ret u=>obtain⟨v,G,l,m,r,q⟩:=q;exact⟨v,_,l,m.outH t.ok,r,q⟩
   |as V hi S =>
   rename_i i;refine codeAny_handlers_suite_as ?_;refine yI (fs:=fra X.stack) n2 (J R.stack) fun h3 n3 k3=>?_;have I3:=R.kpx P hf k3 g y;obtain⟨vs,sl,T,oT,ts,ho,_⟩:=id n3;have I4:=I3.track (φ:=exP k C dx false) g y (exO.ok ⟨vs,sl,ho,(fun z=>nomatch z)⟩);refine iG (v:=.ref k) (u:=.ref k) I4 V hi (.inl S) rfl (fun s4 I5 _=>?_) (.inr S);refine Zz (n k d s4 _ _ (D.gone i) I5.inH (Y k g)) (fun f s5 q=>?_) fun _ _ z=>z.elim;cases f with
   |next=>obtain⟨G,l,m,q⟩:=q;exact name_goes (m.outH t.ok) V hi S fun s6 M=>⟨_,l,M,q⟩
   |brk=>obtain⟨G,l,m,q⟩:=q;exact name_goes (m.outH t.ok) V hi S fun s6 M=>⟨_,l,M,q⟩
   |cont=>obtain⟨G,l,m,q⟩:=q;exact name_goes (m.outH t.ok) V hi S fun s6 M=>⟨_,l,M,q⟩
   |ret u=>obtain⟨v,G,l,m,r,q⟩:=q;exact name_goes (m.outH t.ok) V hi S fun s6 M=>⟨v,_,l,M,r,q⟩
  exact pJ a R.kIn ho rfl E (ih O)
 cases f with
 |next=>exact abD (SP.offTry I q)
 |brk=>exact (SP.offTry I q)
 |cont=>exact (SP.offTry I q)
 |ret u=>exact (SP.offTry I q)
end L2
namespace L3
open L2
def Wx (D:acP) (Z:St3) (C:Addr) (fs:List (Str × T)) (H:lO):Option Nat × TS3->Prop
 | (none,th)=>th D Z H
 | (some i,th)=>∀a d,newX H a fs d->th (D.gone i) (Z.set i (some (.ref a))) (hpX H a C fs d)
def Fx (K:Frag) (a:List (Addr × Option Nat × TS3)) (D:acP):St3->YK3:=fun Z C fs H=>uv K C (Wx D Z C fs H) a
def Fy (K:Frag) (a:List (Addr × Option Nat × TS3)) (tb:(St3->YK3)->TS3):TS3:=fun D Z H=>tb (Fx K a D) D Z H
inductive ade (X:Cx):List ExceptHandler->List (Addr × Option Nat × TS3)->Prop
 |nil:ade X [] []
 |cons {x:Str} {np hpos:Pos} {b₀:Stmt} {suite:List Stmt} {R:Addr} {th:TS3} {hs:List ExceptHandler} {rs:List (Addr × Option Nat × TS3)} {nn:Option Str} {i:Option Nat} (D:afq X.K X.mg x R) (hg:Gl X x) (hsuite:∀ea,lF (X.inH ea) (b₀::suite) th) (hn:HdN X nn i) (r:ade X hs rs) (hdb:(x==("__debug__":Str))=false:=by decide) :
   ade X (.ExceptHandler (some (.Name x np)) nn (b₀::suite) hpos::hs) ((R,i,th)::rs)
def ade.low (h:ade X e d):HdW X e (d.map fun r=>(r.1,r.2.1,zU X.K r.2.2)):=by
 induction h with
 |nil=>exact .nil
 |cons D g b f r c i=>exact .cons D.a g D.m c b f i
def pM {K:Frag}{f:c->e}{k:c->Prop}{g:e->Prop} (h:∀th,k th->g (f th)):∀{d:List (Addr × c)},uv K C k d->uv K C g (d.map fun r=>(r.1,f r.2))
 |[],z=>z.elim
 | (R,th)::d,z=>z.elim (fun ⟨a,b⟩=>.inl ⟨a,h th b⟩) fun ⟨a,b⟩=>.inr ⟨a,pM h b⟩
def Ka (L:ade X hds rs) (hne:hds≠[]) (hs:X.stack=X.env::X.outer) (hf:X.env.frame=some X.env.locals)
  (E:∀(R:Value->Shared->Prop) (S:List (Addr × Obj)) (V:Hp) (y:St3->YK3),lw (X.atTry R S V) y->lF (X.atTry R S V) body (tb y)) :
  PS3 X (.Try body hds [] [] pos) (Fy X.K rs tb):=by
 refine PS.imp (J9 (tb:=fun Es D Z H=>∃y:St3->YK3,(∀Z A P H,Wq X.K y Z A P H->Es Z A P H)/\zU X.K (tb y) D Z H) hs hf L.low hne (fun R S V Es hM=>?_)) ?_
 ·rintro q s Z H D I ⟨y,imp,h⟩;exact E R S V y (fun q Z H s g C x Fl he=>hM q Z H s g C x Fl (imp _ _ _ _ he)) q s Z H D I h
 rintro D Z H ⟨Z3,H3,M,ss,sh,h,k1,W,k3,k4⟩;refine⟨Fx X.K rs M,?_,Z3,H3,M,ss,sh,h,k1,W,k3,k4⟩;rintro Z' A d H' ⟨C,fs,F,k,rfl,Q,v,hd,hp⟩;refine⟨C,rfl,fun le0=>pM (f:=fun r=>(r.1,zU X.K r.2)) (fun T L=>?_) hp⟩;have n:tR X.K H H':=fun a xs z=>le0 a xs z;obtain⟨ni,T⟩:=T;cases ni with
 |none=>exact⟨F,k,M,Q,v,L,fun G N p m l a b c=>k1 _ _ _ _ (n.trans l) a b c,W.at n,fun G N p m l a b c=>k3 _ _ _ _ (n.trans l) a b c,fun G N p m l a b c=>k4 _ _ _ _ (n.trans l) a b c⟩
 |some i =>
 intro g j;have U:tR X.K H' (upd H' g (exO g C d false)):=aN j;have t:=n.trans U;have O:∀H4,tL X.K H4 (upd H' g (exO g C d false))->T (M.gone i) (F.set i (some (.ref g))) H4->zU X.K T (D.gone i) (Z'.set i (some (.ref g))) (upd H' g (exO g C d false)):=fun H4 s4 h4 =>
  ⟨F.set i (some (.ref g)),_,M.gone i,(Q.mono U).set .ofRef,s4,h4,fun G N p m l a b c=>k1 _ _ _ _ (t.trans l) (a.gone i) b c,W.at t,fun G N p m l a b c=>k3 _ _ _ _ (t.trans l) (a.gone i) b c,fun G N p m l a b c=>k4 _ _ _ _ (t.trans l) (a.gone i) b c⟩
 have J:∀b o,b≠g->k b=some o->aef X.K (upd H' g (exO g C d false)) b o:=fun b o w e=>(v b o e).stay U fun u z=>(aK w).trans z;cases d with
 |none =>
  refine O _ (fun b o e=>?_) (L g none ⟨v.fresh j,hd⟩);by_cases w:b=g
  ·subst w;rw[show hpX k b C fs none b=some (.exc C none) from aq] at e;cases e;exact aY
  rw[show hpX k g C fs none b=k b from aD w] at e;exact J b o w e
 |some x =>
 obtain⟨h0,h1,vs,Y,rf⟩:=hd;have ne:g≠x:=fun z=>by subst z;rw[j] at Y;cases Y
 refine O _ (fun b o e=>?_) (L g (some x) ⟨v.fresh j,h0,h1,ne⟩);have B:fY (fY k x (.xdt fs)) g (.exc C (some x)) b=some o:=e;by_cases w:b=g
 ·subst w;rw[aq] at B;cases B;exact aY
 rw[aD w] at B;by_cases w2:b=x
 ·subst w2;rw[aq] at B;cases B;exact⟨vs,(aK w).trans Y,rf.mono U⟩
 rw[aD w2] at B;exact J b o w B
end L3
namespace M
open L2 L3
def nm0 : String := "ne_eq not_false_eq_true aD xZ yd tC3 fJ Ml BV LQ Mf P0 su Mg Lz U3 LC Qe U8 BX BW Mi qm LR Ma Yy U6 sX yf YD Cy eX Qh Qi U9 Qj f9 q_I YF Qk Ql Qm Cz jl Vb Vc Vd Ve Mv sZ Mw Vf Mx Mz CG yr Vg Vh Qn Vi YG Qo Vj MF Qp Vk Vl q_D Vm Qq Vn Vo Qs Vp Qt Qu Ji Vq Jj Qv Vr Qw Qx Qy Qz Vs Vt Vu Vv Vw CJ Vx Vy Jk Vz VB VD VF QB VG Jl MJ yu QC Jm QD aq Qd Ci o5 QH vW vX vY zY vZ QJ wg wj wu zZ ww Jv tK tM tO wy tQ Dg qw qz qC tU qD tV tW tX wz tY lN decide_true decide_false Bool.not_true Bool.not_false at0 at1 at2 List.eraseIdx_cons_zero Int.toNat_natCast qj List.length_map List.length_cons List.length_nil Nat.zero_add Bool.false_eq_true if_false if_true List.getElem?_cons_zero List.getElem?_cons_succ List.set_cons_zero List.set_cons_succ VM VN List.map_cons List.map_nil Di QQ VP VR QS QT M4 M5 Dw M8 FZ Nv M7 Rz RB RC RD JG JH JK JL Q5 V4 DP DQ DG wG VJ VL CV Sx Nj Ej Ri Nk Nm Wc Ek Np Nq El yD qG V7 YM Nb Eb JN Ed Q8 V9 Eg wL Rg Nf Ng Eh Nh Ni Wd Rn We Rm DG wG DP DQ Tp qO Ry Fy qP mY Jo Jp CP Jq CQ VH Jr S5 Gw S6 S7 Ew Wg W4 W5 J2 Wi J4 Wj Q0 V1 Jz V2"
structure isNm (x:Str):Prop where
 lo:1<=x.length
 hi:x.length<=8
 az:∀c∈x.cps.toList,97<=c/\c<=122
structure Nms (ws:List Str):Prop where
 nm:∀x∈ws,isNm x
 nd:ws.Nodup
def Nms.nil:Nms []:=⟨fun _ h=>(nomatch h),aaY⟩
def Nms.snoc (n:Nms ws) (h:isNm x) (a:x∉ws):Nms (ws++[x]) :=
 ⟨fun y b=>(u_.mp b).elim (n.nm y) fun z=>by rw[i_.mp z];exact h,fM n.nd a⟩
structure Wk where
 tasks:List (Str × Int × List Str)
 orders:List (Str × Str)
 pairs:List (Str × Str × Str)
 row:List Str
def sT (xs:List Str):T:=.tup (xs.map T.str)
def tkT (t:Str × Int × List Str):T:=.tup [.str t.1,.int t.2.1,sT t.2.2]
def orT (o:Str × Str):T:=.tup [.str o.1,.str o.2]
def prT (p:Str × Str × Str):T:=.tup [.str p.1,.str p.2.1,.str p.2.2]
def Wk.enc (W:Wk):T:=.tup [.tup (W.tasks.map tkT),.tup (W.orders.map orT),.tup (W.pairs.map prT),sT W.row]
structure afa (t:Str × Int × List Str):Prop where
 nm:isNm t.1
 lo:1<=t.2.1
 hi:t.2.1<10^60
 ks:Nms t.2.2
 kl:t.2.2.length<=4
structure v6 (W:Wk):Prop where
 t1:1<=W.tasks.length
 t8:W.tasks.length<=8
 tk:∀t∈W.tasks,afa t
 nd:(W.tasks.map (·.1)).Nodup
 os:W.orders.length<=28
 od:W.orders.Nodup
 oo:∀o∈W.orders,o.1≠o.2/\o.1∈W.tasks.map (·.1)/\o.2∈W.tasks.map (·.1)
 ps:W.pairs.length<=12
 pd:W.pairs.Nodup
 pp:∀p∈W.pairs,(p.1="with"\/p.1="apart")/\p.2.1≠p.2.2/\p.2.1∈W.tasks.map (·.1)/\p.2.2∈W.tasks.map (·.1)
 r1:1<=W.row.length
 r8:W.row.length<=8
 rn:∀x∈W.row,isNm x
def fU {c:Type}{f:c->T}(g:∀{a b},f a=f b->a=b) {x:c}{xs:List c}:f x∈xs.map f↔x∈xs:=by
 rw[A_];exact⟨fun ⟨y,d,e⟩=>g e▸d,fun h=>⟨x,h,rfl⟩⟩
def jK (h:T.str a=T.str b):a=b:=by injection h
def Wz {c:Type}{f:c->T}(d:∀{a b},f a=f b->a=b) {x:c}{xs:List c}:di true (f x) (xs.map f)=true↔x∉xs:=by
 unfold di;simp [fU d]
def YX {c:Type}{f:c->T}(d:∀{a b},f a=f b->a=b) {x:c}{xs:List c}:di false (f x) (xs.map f)=true↔x∈xs:=by
 unfold di;simp [fU d]
def cR (xs:List Str):(xs.map T.str).all (pl 20)=true:=by rw[ZQ];intro t a;obtain⟨x,_,rfl⟩:=A_.mp a;rfl
def Rz (W:Wk) (H:lO) (Q:My):sW W.enc (.int 0) H Q=Q (.tup (W.tasks.map tkT)) H:=rfl
def RB (W:Wk) (H:lO) (Q:My):sW W.enc (.int 1) H Q=Q (.tup (W.orders.map orT)) H:=rfl
def RC (W:Wk) (H:lO) (Q:My):sW W.enc (.int 2) H Q=Q (.tup (W.pairs.map prT)) H:=rfl
def RD (W:Wk) (H:lO) (Q:My):sW W.enc (.int 3) H Q=Q (.tup (W.row.map T.str)) H:=rfl
def pick:List Str->Int->List Str
 |[],_=>[]
 |x::r,b=>if b%2=1 then x::pick r (b / 2) else pick r (b / 2)
def tot:List Str->Int->Int
 |[],_=>0
 |_::r,b=>(if b%2=1 then 1 else 0)+2*tot r (b / 2)
def numOf:List Str->List Str->Int
 |[],_=>0
 |x::r,ss=>(if x∈ss then 1 else 0)+2*numOf r ss
def jL:∀(ws:List Str) (b:Int),∀x∈pick ws b,x∈ws
 |[],_,x,h=>by cases h
 |y::r,b,x,h=>by
  unfold pick at h
  split at h
  ·
   rcases x_.mp h with rfl | h
   ·
    exact l_
   ·
    exact q_ _ (jL r _ x h)
  ·
   exact q_ _ (jL r _ x h)
def lz:∀(ws b a:List Str),(∀x∈ws,x∈b↔x∈a)->numOf ws b=numOf ws a
 |[],_,_,_=>rfl
 |y::r,b,a,h=>by
  have d:=h y l_
  have c:=lz r b a fun x e=>h x (q_ _ e)
  simp only[numOf,c,d]
def mZ:∀(ws:List Str) (b:Int),ws.Nodup->numOf ws (pick ws b)=tot ws b
 |[],_,_=>rfl
 |y::r,b,nd=>by
  rw[ZP] at nd
  have c:=mZ r (b / 2) nd.2
  have f:y∉pick r (b / 2):=fun h=>nd.1 (jL r _ y h)
  by_cases a:b%2=1
  ·
   have e:numOf r (y::pick r (b / 2))=numOf r (pick r (b / 2)):=lz r _ _ fun x d=>by
    have:x≠y:=fun e=>nd.1 (e▸d)
    simp [this]
   simp only[numOf,tot,pick,a,if_true,e,c,x_,true_or]
  ·
   simp only[numOf,tot,pick,a,Zb,f,c]
def Fz:∀(ws:List Str) (b:Int),0<=b->b<2^ws.length->tot ws b=b
 |[],b,h0,h1=>by simp at h1;simp only[tot];omega
 |y::r,b,h0,h1=>by
  have a:b / 2<2^r.length:=by
   rw[j_,abO] at h1
   omega
  have c:=Fz r (b / 2) (by omega) a
  simp only[tot,c]
  split <;> omega
def m5:∀(A:List Str) (y:Str) (a:List Str),numOf (A++[y]) a=numOf A a+2^A.length*(if y∈a then 1 else 0)
 |[],y,a=>by simp [numOf]
 |x::A,y,a=>by
  have b:=m5 A y a
  simp only[abd,numOf,j_,b,abO]
  generalize (2:Int)^A.length=w
  generalize (if y∈a then (1:Int) else 0)=z
  rw[Int.mul_add,<- Int.mul_assoc,Int.mul_comm 2 w]
  omega
def uw:∀(A B:List Str) (b:Int),pick (A++B) b=pick A b++pick B (b / 2^A.length)
 |[],B,b=>by simp [pick]
 |y::A,B,b=>by
  have a:=uw A B (b / 2)
  have e:b / 2 / 2^A.length=b / 2^(A.length+1):=by
   rw[abO,Int.mul_comm,Int.ediv_ediv_of_nonneg (by decide)]
  simp only[abd,pick,j_,a,e]
  split <;> simp
def qQ (m n:Nat):Builtin.bitAnd (m:Int) (n:Int)=((m &&& n:Nat):Int):=by
 unfold Builtin.bitAnd;rfl
def RG (m n:Nat):Builtin.bitOr (m:Int) (n:Int)=((m ||| n:Nat):Int):=by
 have h:∀z:Nat,decide ((0:Int)<=Builtin.bitNot (z:Int))=false:=fun z=>I_ (by unfold Builtin.bitNot;omega);have g:∀z:Int,Builtin.bitNot (Builtin.bitNot z)=z:=fun z=>by unfold Builtin.bitNot;omega
 unfold Builtin.bitOr Builtin.bitAnd;rw[h,h];simp only[g,aab]
def bW:List Str->List Str->Nat
 |[],_=>0
 |x::r,ss=>(if x∈ss then 1 else 0)+2*bW r ss
def cI:∀(ns a:List Str),numOf ns a=((bW ns a:Nat):Int)
 |[],_=>rfl
 |x::r,a=>by
  have:=cI r a
  simp only[numOf,bW,this]
  by_cases h:x∈a <;> simp [h]
def Kc (b c a d:Nat) (k:b<2) (j:c<2):(b+2*a) &&& (c+2*d)=(if b=1/\c=1 then 1 else 0)+2*(a &&& d):=by
 have g:((b+2*a) &&& (c+2*d)) / 2=(b+2*a) / 2 &&& (c+2*d) / 2:=Nat.and_div_two;have i:(b+2*a) / 2=a:=by omega
 have f:(c+2*d) / 2=d:=by omega
 rw[i,f] at g;have e:((b+2*a) &&& (c+2*d))%2=1↔(b+2*a)%2=1/\(c+2*d)%2=1:=Nat.and_mod_two_eq_one;by_cases h:b=1/\c=1
 ·rw[if_pos h];have:=e.mpr ⟨by omega,by omega⟩;omega
 rw[if_neg h];have:¬((b+2*a) &&& (c+2*d))%2=1:=fun z=>h (by have:=e.mp z;omega);omega
def RJ (b c a d:Nat) (k:b<2) (j:c<2):(b+2*a) ||| (c+2*d)=(if b=1\/c=1 then 1 else 0)+2*(a ||| d):=by
 have g:((b+2*a) ||| (c+2*d)) / 2=(b+2*a) / 2 ||| (c+2*d) / 2:=Nat.or_div_two;have i:(b+2*a) / 2=a:=by omega
 have f:(c+2*d) / 2=d:=by omega
 rw[i,f] at g;have e:((b+2*a) ||| (c+2*d))%2=1↔(b+2*a)%2=1\/(c+2*d)%2=1:=Nat.or_mod_two_eq_one;by_cases h:b=1\/c=1
 ·rw[if_pos h];have:=e.mpr (by omega);omega
 rw[if_neg h];have:¬((b+2*a) ||| (c+2*d))%2=1:=fun z=>h (by have:=e.mp z;omega);omega
def lV (p:Prop) [Decidable p]:(if p then 1 else 0)<2:=by split <;> decide
def m6:∀(ns A B:List Str),bW ns A &&& bW ns B=bW ns (A.filter fun x=>decide (x∈B))
 |[],_,_=>by simp [bW]
 |x::r,A,B=>by
  simp only[bW]
  rw[Kc _ _ _ _ (lV _) (lV _),m6 r A B]
  by_cases a:x∈A <;> by_cases b:x∈B <;> simp [a,b]
def yK:∀(ns A B:List Str),bW ns A ||| bW ns B=bW ns (A++B)
 |[],_,_=>by simp [bW]
 |x::r,A,B=>by
  simp only[bW]
  rw[RJ _ _ _ _ (lV _) (lV _),yK r A B]
  by_cases a:x∈A <;> by_cases b:x∈B <;> simp [a,b]
def jM:∀(ns A B:List Str),bW ns A=bW ns B↔∀x∈ns,x∈A↔x∈B
 |[],_,_=>by simp [bW]
 |y::r,A,B=>by
  have c:=jM r A B
  simp only[bW,x_,forall_eq_or_imp]
  rw[<- c]
  by_cases a:y∈A <;> by_cases b:y∈B <;> simp only[a,b,if_true,Zb,iff_true,iff_false,true_iff,false_iff,true_and,not_true,not_false_eq_true,false_and] <;> omega
def ir:∀ns:List Str,bW ns []=0
 |[]=>rfl
 |x::r=>by simp only[bW,Ze,Zb,ir r]
def Al (ns A:List Str):bW ns A=0↔∀x∈ns,x∉A:=by
 have:=jM ns A [];rw[ir] at this;rw[this];simp
def fV (ns A B:List Str):(Builtin.bitAnd (numOf ns A) (numOf ns B)=numOf ns B)↔∀x∈ns,x∈B->x∈A:=by
 rw[cI,cI,qQ,m6];constructor
 ·intro h x a b;have:=(jM ns _ _).mp (Int.ofNat.inj h) x a;exact (E_.mp (this.mpr b)).1
 intro h;refine T_ Int.ofNat ((jM ns _ _).mpr fun x a=>?_);rw[E_,n_];exact⟨fun z=>z.2,fun z=>⟨h x a z,z⟩⟩
def qR (ns A B:List Str):(Builtin.bitAnd (numOf ns A) (numOf ns B)=0)↔∀x∈ns,¬(x∈A/\x∈B):=by
 rw[cI,cI,qQ,m6];have e:((bW ns (A.filter fun x=>decide (x∈B)):Nat):Int)=0↔bW ns (A.filter fun x=>decide (x∈B))=0:=by omega
 rw[e,Al];constructor
 ·intro h x a z;exact h x a (E_.mpr ⟨z.1,L_ z.2⟩)
 intro h x a z;have:=E_.mp z;exact h x a ⟨this.1,ZR this.2⟩
def RK (ns A B:List Str):Builtin.bitOr (numOf ns A) (numOf ns B)=numOf ns (A++B):=by
 rw[cI,cI,cI,RG,yK]
def FJ (ns A:List Str):0<=numOf ns A:=by rw[cI];exact abn _
def ux:∀(ns A:List Str),numOf ns A<2^ns.length
 |[],_=>by simp [numOf]
 |x::r,A=>by
  have:=ux r A
  simp only[numOf,j_,abO]
  split <;> omega
def uA:∀(ns:List Str) (A:List Str),ns.Nodup->pick ns (numOf ns A)=ns.filter fun x=>decide (x∈A)
 |[],_,_=>rfl
 |x::r,A,nd=>by
  rw[ZP] at nd
  have c:=uA r A nd.2
  have n0:=FJ r A
  by_cases h:x∈A
  ·
   have b:(1+2*numOf r A)%2=1:=by omega
   have a:(1+2*numOf r A) / 2=numOf r A:=by omega
   simp only[numOf,h,if_true,pick,b,a,c,aam,aao]
  ·
   have b:¬(0+2*numOf r A)%2=1:=by omega
   have a:(0+2*numOf r A) / 2=numOf r A:=by omega
   simp only[numOf,h,Zb,pick,b,a,c,aam,ZL,y_]
def FN (c:ns.Nodup) (b:0<=n) (a:n<2^ns.length):numOf ns (pick ns n)=n:=by rw[mZ ns n c,Fz ns n b a]
universe u
variable {α:Type u}
inductive RT (R:α->α->Prop):α->α->Prop
 |refl {a:α}:RT R a a
 |step {a b c:α}:RT R a b->R b c->RT R a c
def RT.trans {a b c:α} (h:RT R a b) (g:RT R b c):RT R a c:=by
 induction g with
 |refl=>exact h
 |step _ r d=>exact .step d r
def RT.flip {a b:α} (h:RT R a b):RT (fun x y=>R y x) b a:=by
 induction h with
 |refl=>exact .refl
 |step _ r c=>exact (RT.step (R:=fun x y=>R y x) .refl r).trans c
def Kd {a b:α}:RT (fun x y=>R y x) a b↔RT R b a:=⟨fun h=>h.flip,fun h=>h.flip⟩
def WD {L:List (α × α)}{F:List α} (c:s∈F) (d:∀a b,(a,b)∈L->a∈F->b∈F) (h:RT (fun a b=>(a,b)∈L) s x):x∈F:=by
 induction h with
 |refl=>exact c
 |step _ r e=>exact d _ _ r e
def qT [DecidableEq α]:∀{l m:List α},l.Nodup->(∀x∈l,x∈m)->l.length<=m.length:=by
 intro l;induction l with
 |nil=>intro m _ _;exact Zx _
 |cons a l j =>
 intro m c g;rw[ZP] at c;have i:=g a l_;have h:=j (m:=m.erase a) c.2 fun x f=>by have d:=g x (q_ _ f);have b:x≠a:=fun e=>c.1 (e▸f);exact (List.mem_erase_of_ne b).mpr d
 have e:=List.length_erase_of_mem i;have p:0<m.length:=List.length_pos_of_mem i;simp only[j_];omega
def mkS (l:List Nat):Str:=⟨l.toArray⟩
def iQ (l:List Nat):(mkS l).cps.toList=l:=rfl
def dw (l:List Nat):(mkS l).length=l.length:=by show (l.toArray).size=_;simp
def RM (x:Str):∃l,x=mkS l:=⟨x.cps.toList,by cases x;rfl⟩
def Ke (h:mkS a=mkS b):a=b:=by have:=T_ (fun x=>x.cps.toList) h;exact this
def yL (a b:List Nat):mkS a++mkS b=mkS (a++b):=by
 show (⟨a.toArray++b.toArray⟩:Str)=⟨(a++b).toArray⟩;simp
def WF (l:List Nat) (k:Nat) (h:k<=l.length):Txt.slice (mkS l) none (some (k:Int))=mkS (l.take k):=by
 have e:=StrLaws.sliceText_to (x:=mkS l) (j:=(k:Int)) ⟨abn k,by rw[iQ];omega⟩;rw[iQ,List.drop_zero,Int.sub_zero,aab] at e;exact e
def m7:List Nat:=[97,98,99,100,101,102,103,104,105,106,107,108,109,110,111,112,113,114,115,116,117,118,119,120,121,122]
def FP:("abcdefghijklmnopqrstuvwxyz":Str)=mkS m7:=by decide +kernel
def Kf:∀i:_root_.Fin 26,m7[i.val]?=some (97+i.val):=by decide
def FQ (i:Int) (a:0<=i) (c:i<26):atI m7 i=some (97+i.toNat):=by
 obtain⟨j,rfl⟩:=Int.eq_ofNat_of_zero_le a;have b:j<26:=by omega
 have:=Kf ⟨j,b⟩;exact cB (by simpa using this)
def Kg:∀i:_root_.Fin 26,Builtin.Str.occurrences (mkS m7) (mkS [97+i.val]) 0 26 1=[i.val]:=by decide +kernel
def RP (c:Nat) (b:97<=c) (a:c<=122):Builtin.Str.occurrences (mkS m7) (mkS [c]) 0 (mkS m7).length 1=[c - 97]:=by
 have:=Kg ⟨c - 97,by omega⟩;rw[show 97+(c - 97)=c by omega] at this;exact this
def Nu (a:1<=l.length) (b:l.length<=8) (h:∀c∈l,97<=c/\c<=122):isNm (mkS l):=⟨by rw[dw];exact a,by rw[dw];exact b,by rw[iQ];exact h⟩
def tkW (t:Str × Int × List Str):List Str:=([("task":Str),t.1,(toString t.2.1:String)]:List Str)++t.2.2
end M
namespace L3
open L2
structure ad_ (p:Prop):Prop where
 out:p
def aA (h:∀R,ad_ (R=u)->(xZ t R) D Z H):(xZ t u) D Z H:=h u ⟨rfl⟩
def Am (W:Nat->St3->lO->Prop) (d:∃m,W m Z H) (a:∀m Z H,W m Z H->∀(WI:Nat->St3->lO->Prop) (TB:TS3) (NX:St3->lO->Prop),ad_ (WI=W)->ad_ (TB=tb)->ad_ (NX=D.nx) ->
  c Z H fun b H1=>if b=true then TB { D with nx:=fun Z' H'=>∃m',m'<m/\WI m' Z' H',ct:=fun Z' H'=>∃m',m'<m/\WI m' Z' H',bk:=D.nx} Z H1 else NX Z H1):ye c tb D Z H :=
 ⟨W,d,fun m Z H w=>a m Z H w W tb D.nx ⟨rfl⟩ ⟨rfl⟩ ⟨rfl⟩⟩
def gR {m:Type} (c f:m->T) (p:m->Bool) (g:List m) (rest:St3) (i:still H) (w:g.length<=sizeLine) (s:∀a∈g,∀Q:Bool->lO->Prop,Q (p a) H->tt (some (c a)::rest) H Q) (u:∀a∈g,p a=true->∀Q:My,Q (f a) H->te (some (c a)::rest) H Q) (l:k ((g.filter p).map f) H):Z7 (fJ 0) tt te still k (g.map c) [] (v::rest) H:=by
 refine jD (fun r o Z H'=>∃(d h:List m) (v:Option T),Z=v::rest/\r=d.map c/\o=(h.filter p).map f/\h++d=g/\H'=H) ⟨g,[],v,rfl,rfl,rfl,rfl,rfl⟩ ?_ ?_
 ·rintro o Z H' ⟨d,h,v,rfl,e,rfl,b,rfl⟩;have j:d=[]:=aba.mp e.symm;subst j;rw[W_] at b;subst b;exact⟨i,by rw[g_];exact R_ (Zc _ _) w,l⟩
 rintro x r o Z H' N ⟨d,h,v,rfl,e,rfl,b,rfl⟩ q;cases d with
 |nil=>cases e
 |cons t d =>
 injection e with e1 e2;subst e1 e2;refine⟨i,?_⟩;show tt (some (c t)::rest) H' _;refine s t (by rw[<- b];simp) _ ?_;cases n:p t with
 |true=>rw[if_pos rfl];refine u t (by rw[<- b];simp) n _ ⟨?_,q _ _ _ ⟨d,h++[t],_,rfl,rfl,by simp [n],by rw[<- b];simp,rfl⟩⟩;have:=T_ List.length b;simp only[d_,j_] at this;rw[g_];have:=Zc p h;omega
 |false =>
 rw[if_neg G_];exact q _ _ _ ⟨d,h++[t],_,rfl,rfl,by simp [n],by rw[<- b];simp,rfl⟩
end L3
namespace M
open L2 L3
inductive Rw where
 |tk (t:Str × Int × List Str) | od (o:Str × Str) | pr (p:Str × Str × Str)
def Rw.words:Rw->List Str
 |.tk t=>tkW t
 |.od o=>["order",o.1,o.2]
 |.pr p=>[p.1,p.2.1,p.2.2]
def prs:List Rw->List (Str × Str × Str)
 |[]=>[]
 |.pr p::r=>p::prs r
 |_::r=>prs r
inductive RowW:List Str->Prop
 |tk {t:Str × Int × List Str} (h:afa t):RowW (tkW t)
 |od {a b:Str} (h1:isNm a) (h2:isNm b):RowW ["order",a,b]
 |pr {z a b:Str} (h0:z="with"\/z="apart") (h1:isNm a) (h2:isNm b):RowW [z,a,b]
 |row {xs:List Str} (h1:1<=xs.length) (h8:xs.length<=8) (h:∀x∈xs,isNm x):RowW (([("row":Str)]:List Str)++xs)
def lkP (ws:List Str) (p:Str × Str × Str):List (Str × Str):=if p.1∈ws then [(p.2.1,p.2.2),(p.2.2,p.2.1)] else []
def lkW (ws:List Str) (W:Wk):List (Str × Str):=W.orders++W.pairs.flatMap (lkP ws)
def lkR (ws:List Str) (W:Wk) (a b:Str):Prop:=(a,b)∈lkW ws W
def Kh (ws:List Str) (p:Str × Str × Str):(lkP ws p).length<=2:=by unfold lkP;split <;> simp
def qU (ws:List Str):∀ps:List (Str × Str × Str),(ps.flatMap (lkP ws)).length<=2*ps.length
 |[]=>m_ _
 |p::r=>by
  have a:=Kh ws p
  have b:=qU ws r
  simp only[List.flatMap_cons,d_,j_]
  omega
def yM (h:v6 W):(lkW ws W).length<=52:=by
 have a:=qU ws W.pairs;have b:=h.os;have c:=h.ps;unfold lkW;rw[d_];omega
def dF (F:List Str):List (Str × T):=F.map fun z=>(z,T.bl true)
def lW (z:Str):∀F:List Str,(aP z (dF F)).isSome=decide (z∈F)
 |[]=>rfl
 |y::r=>by
  have a:=lW z r
  unfold dF at a ⊢
  simp only[J_,aP]
  by_cases h:y=z
  ·
   simp [h]
  ·
   rw[if_neg h,a]
   have h':¬z=y:=fun e=>h e.symm
   simp [h']
def RQ (z:Str) (F:List Str):((dF F).any fun a=>decide (a.1=z))=decide (z∈F):=by
 unfold dF;rw[List.any_map];induction F with
 |nil=>rfl
 |cons y r b =>
 simp only[abB,Function.comp_apply,b];by_cases h:y=z
 ·simp [h]
 have h':¬z=y:=fun e=>h e.symm;simp [h,h']
def RV (h:z∉F):put3 z (T.bl true) (dF F)=dF (F++[z]):=by
 unfold put3;rw[RQ,I_ h,if_neg G_];unfold dF;rw[z_];rfl
def RW (F:List Str):(dF F).length=F.length:=g_ _
def RZ (z:Str):[(z,T.bl true)]=dF [z]:=rfl
def FT (b:(∃a,x=.ref a/\H a=some (.lst ts))\/x=.tup ts) (h:∀still:lO->Prop,(still=cL\/∃a,still=bD a ts/\H a=some (.lst ts))->R ts still H):zX x H R:=by
 rcases b with ⟨a,rfl,e⟩ | rfl
 ·rw[QG,e,yu];exact h _ (.inr ⟨a,rfl,e⟩)
 rw[QF];exact h _ (.inl rfl)
def bx (W:Wk) (t:Str):List Str:=(W.tasks.map (·.1)).filter fun x=>@decide (RT (lkR ["with"] W) t x/\RT (lkR ["with"] W) x t) (Classical.propDecidable _)
def j7 (W:Wk):List (List Str):=((W.tasks.map (·.1)).filter fun t=>decide ((bx W t).head?=some t)).map (bx W)
def jq (W:Wk) (t:Str):List Str:=(W.tasks.map (·.1)).filter fun x=>@decide (RT (lkR ["with"] W) x t/\¬RT (lkR ["with"] W) t x) (Classical.propDecidable _)
def j8 (h:t∈W.tasks.map (·.1)):t∈bx W t:=by
 unfold bx;rw[E_];exact⟨h,@L_ _ (Classical.propDecidable _) ⟨.refl,.refl⟩⟩
def swp (o:Str × Str):Str × Str:=(o.2,o.1)
def Sd {L:List (Str × Str)}:RT (fun x y=>(x,y)∈L.map swp) a b↔RT (fun x y=>(x,y)∈L) b a:=by
 have e:(fun x y=>(x,y)∈L.map swp)=fun x y:Str=>(y,x)∈L:=by funext x y;refine propext ⟨fun h=>?_,fun h=>A_.mpr ⟨(y,x),h,rfl⟩⟩;obtain⟨o,c,d⟩:=A_.mp h;obtain⟨g,f⟩:=o;cases d;exact c
 rw[e];exact Kd
structure Hs (H:lO) (fs:List (Addr × O3)):Prop where
 at':∀q∈fs,H q.1=some q.2
 nd:(fs.map (·.1)).Nodup
def WK (H:lO) (x:T) (b:List Str):Prop:=x=sT b\/∃a,x=.ref a/\H a=some (.lst (b.map T.str))
def Kl (h:WK H x c) (q:Q (.bl (if b then !decide (y∈c) else decide (y∈c))) H):sV b (.str y) x H Q:=by
 have e:di b (T.str y) (c.map T.str)=(if b then !decide (y∈c) else decide (y∈c)):=by unfold di;have:(T.str y∈c.map T.str)↔y∈c:=fU jK;simp only[this]
 rcases h with rfl | ⟨a,rfl,d⟩
 ·show sV b (.str y) (.tup (c.map T.str)) H Q;rw[Mw,e];exact⟨rfl,cR c,q⟩
 rw[Mx,d,Mz,e];exact⟨rfl,cR c,q⟩
def iU (a:List Str) (k:Str):Bool:=decide (a=[])||decide (k∈a)
def jN (W:Wk) (t:Str):List Str:=(W.pairs.filter fun p=>decide (p.1=("apart":Str))&&decide (p.2.1=t)).map (·.2.2)
def okT (W:Wk) (a:Str) (D S:List Str) (t:Str × Int × List Str):Bool :=
 !decide (t.1∈D)&&iU t.2.2 a&&@decide (∀x∈bx W t.1,x∈S) (Classical.propDecidable _)&&@decide (∀x∈jq W t.1,x∈S++D) (Classical.propDecidable _)&&@decide (∀x∈jN W t.1,x∉S) (Classical.propDecidable _)
def bG (ts:List (Str × Int × List Str)) (S:List Str):Int:=((ts.filter fun t=>decide (t.1∈S)).map (·.2.1)).sum
def wZ (W:Wk) (eG:Int) (a:Str) (D S:List Str):Bool:=(W.tasks.all fun t=>!decide (t.1∈S)||okT W a D S t)&&decide (bG W.tasks S<=eG)
def ruT (W:Wk) (ns:List Str) (t:Str × Int × List Str):T:=.tup [.int (numOf ns [t.1]),.int t.2.1,sT t.2.2,.int (numOf ns (bx W t.1)),.int (numOf ns (jq W t.1)),.int (numOf ns (jN W t.1))]
def w5 (A:List (Str × Int × List Str)) (t:Str × Int × List Str) (S:List Str):bG (A++[t]) S=bG A S+if t.1∈S then t.2.1 else 0:=by
 unfold bG;rw[ZG,z_,List.sum_append];by_cases h:t.1∈S <;> simp [h]
def yN (a:x∈ns):(Builtin.bitAnd (numOf ns A) (numOf ns [x])=numOf ns [x])↔x∈A:=by
 rw[fV];constructor
 ·intro h;exact h x a (by simp)
 intro h y _ b;rw[i_.mp b];exact h
end M
namespace L3
open L2
def ppH (o:Option O3) (a:Addr) (H:lO) (Q:My):Prop:=match o with
 |some (.lst xs)=>oq (xs[xs.length - 1]?) fun t=>Q t (fY H a (.lst xs.dropLast))
 |_=>False
def FW:T->List T->lO->My->Prop:=fun x ts H Q=>match x,ts with
 |.ref a,[]=>ppH (H a) a H Q
 |_,_=>False
def FZ (a:Addr) (H:lO) (Q:My):FW (.ref a) [] H Q=ppH (H a) a H Q:=rfl
def Nv (xs:List T) (a:Addr) (H:lO) (Q:My):ppH (some (.lst xs)) a H Q=oq (xs[xs.length - 1]?) fun t=>Q t (fY H a (.lst xs.dropLast)):=rfl
def lX.dropLast {K:Frag} (r:lX K H ts vs):lX K H ts.dropLast vs.dropLast:=by
 rw[List.dropLast_eq_take,List.dropLast_eq_take,r.length];exact r.take _
def Sg:vM X "list.pop" FW:=by
 refine MtR.imp PK ?_;rintro x xs H Q ⟨j,ts,H3,p,m,i,f,h,k⟩;cases j with
 |ref a =>
  cases ts with
  |cons _ _=>exact h.elim
  |nil =>
  rw[FZ] at h;cases e:H3 a with
  |none=>rw[e] at h;exact h.elim
  |some o =>
  rw[e] at h;cases o with
  |lst d =>
   rw[Nv] at h;obtain⟨n,b,r⟩:=f a _ e;cases c:d[d.length - 1]? with
   |none=>rw[c] at h;exact h.elim
   |some t =>
   rw[c,f9] at h;obtain⟨v,l,g⟩:=r.get c;refine⟨a,n,v,m.ref,i.inv0,b,by rw[<- r.length];exact l,k _ _ _ _ (bM (by rw[b];exact trivial)) (f.wrL b r.dropLast) (g.mono (bM (by rw[b];exact trivial))) h⟩
  |_=>exact h.elim
 |_=>exact h.elim
end L3
namespace M
open L2 L3
local macro_rules | `(tactic| walk_at "c") => `(tactic| try dsimp only [ql,List.replicate,J_,aaA,abd,aa2,aav,aas,Option.getD_some])
local macro_rules | `(tactic| walk_at "n") => `(tactic| (obtain ⟨e⟩:=‹ad_ (_ = _)›; subst e; try dsimp only))
local macro_rules | `(tactic| walk_at "") => do
 let ls <- ((nm0.splitOn " ").toArray.map String.toName).filterM fun n => do return !(<- Lean.Macro.resolveGlobalName n).isEmpty
 let ls <- ls.mapM fun n => let i:=Lean.mkIdent n; `(Lean.Parser.Tactic.simpLemma| $i:ident)
 `(tactic| ((try dsimp only [$[$ls:simpLemma],*]); try simp only [*,$[$ls:simpLemma],*]))
local macro_rules | `(tactic| walk_at "h") => `(tactic| have hsz:sizeLine=16777216:=rfl)
local macro_rules | `(tactic| walk_at "t") => `(tactic| refine ⟨trivial,?_⟩)
local macro_rules | `(tactic| walk_at "s") => `(tactic| (refine aA fun R h=>?_; walk_at ""))
def q0 (n:Str) (N:List Str) (t:T) (s:List T):aQ (n::N) (t::s)=some t::aQ N s:=by simp [aQ]
def q10 (n:Str) (N:List Str):aQ (n::N) []=none::aQ N []:=by simp [aQ,List.replicate_succ]
def q11:aQ [] []=[]:=rfl
def q12 (a b c d):Wk.enc ⟨a,b,c,d⟩=T.tup [T.tup (a.map tkT),T.tup (b.map orT),T.tup (c.map prT),T.tup (d.map T.str)]:=rfl
local macro_rules | `(tactic| walk_at "q") => `(tactic| simp only [q0,q10,q11,q12])
local macro_rules | `(tactic| walk_at "l") => `(tactic| (intro _ _ _ h; first | (obtain ⟨_,e,_⟩:=h; subst e; rfl) | (obtain ⟨_,_,e,_⟩:=h; subst e; rfl) | (obtain ⟨_,_,_,e,_⟩:=h; subst e; rfl) | (obtain ⟨_,_,_,_,e,_⟩:=h; subst e; rfl) | (obtain ⟨_,_,_,_,_,e,_⟩:=h; subst e; rfl) | (obtain ⟨_,_,_,_,_,_,e,_⟩:=h; subst e; rfl) | (obtain ⟨_,_,_,_,_,_,_,e,_⟩:=h; subst e; rfl) | (obtain ⟨_,_,_,_,_,_,_,_,e,_⟩:=h; subst e; rfl) | (obtain ⟨_,_,_,_,_,_,_,_,_,e,_⟩:=h; subst e; rfl) | (obtain ⟨_,_,_,_,_,_,_,_,_,_,e,_⟩:=h; subst e; rfl) | (obtain ⟨_,_,_,_,_,_,_,_,_,_,_,e,_⟩:=h; subst e; rfl) | (obtain ⟨_,_,_,_,_,_,_,_,_,_,_,_,e,_⟩:=h; subst e; rfl) | (obtain ⟨_,_,_,_,_,_,_,_,_,_,_,_,_,e,_⟩:=h; subst e; rfl) | (obtain ⟨_,_,_,_,_,_,_,_,_,_,_,_,_,_,e,_⟩:=h; subst e; rfl)))
def n5 (l:List Str) (h:l.Nodup:=by decide +kernel):l.Nodup:=h
def b6 (i:Nat) (N N':List Str) (nt:Nat) (cap:List Nat) {X}{scope} (c:X.env.scope.names=(aB (top i)).names:=by rfl) (o:X.N=N:=by rfl) (h:compLook (aB (top i)).names N (scope.kind==.function) scope.names N' nt cap=true:=by decide +kernel):acy X N' nt cap scope:=bU c o h
def c6 {P:Program}{w:World}{K:Frag}{mg:Str->Option Value}{base:Heap}{k:Nat}{sp:Sp3}{N ps:List Str}{f:Addr}{fd:FuncData}{x:Str}{st:Stmt} (F:G3 K mg x st ps f fd) (S:gV N ps (aB st)) (cb:∀(b:Value) (A:Around) (outer:List Env) (s:Shared) (H:Hp) (E:XK) (ts:List T) (H3:lO) (Q:My),t6 k (A.deeper (envOfC x (aB st) s.heap.objs.size f b))->sp ts H3 Q ->
   ∃t,lF (mD CX0 P w K mg base N x (aB st) f b A outer s H E).nox (cC st) t/\t { nx:=fun _ H'=>n7 Q .non H',rt:=n7 Q} (aQ N ts) H3) (gl:∀ts H Q,sp ts H Q->ts.length=ps.length:=by walk_at "l"):Oc P w K mg base (k+1) x st ps sp:=⟨f,fd,F,fn3 F.fn S gl cb⟩
structure nT (p:Prop):Prop where
 out:p
structure Cl (H:lO) (a:Addr):Prop where
 ex:∃ns:List Int,H a=some (.lst (ns.map T.int))/\ns.length<=504
def Kep (a:Addr) (H H':lO):Prop:=∀b o,H b=some o->b≠a->H' b=some o
structure Wt (c:Addr) (H0 H:lO) (fs:List (Addr × O3)):Prop where
 cl:Cl H c
 kp:Kep c H0 H
 at':∀p∈fs,H p.1=some p.2/\p.1≠c
def m9 (n:Nat):dM 0 n=(List.range n).map fun (i:Nat)=>T.int (i:Int):=by
 unfold dM;exact ZM fun i _=>by rw[Int.zero_add]
def cu (s:eH H H') (a:H' p=none):H p=none:=by
 cases e:H p with
 |none=>rfl
 |some o=>rw[s _ _ e] at a;cases a
def pig:∀(ws:List Str) (f:Nat->Str),(∀i j,i<=ws.length->j<=ws.length->f i=f j->i=j)->(∀i,i<=ws.length->f i∈ws)->False
 |[],f,_,h=>by have:=h 0 (m_ _);simp at this
 |w::ws,f,inj,h=>by
  rw[j_] at inj h
  by_cases q:∃j,j<=ws.length+1/\f j=w
  ·
   obtain⟨j,g,e⟩:=q
   refine pig ws (fun i=>if i<j then f i else f (i+1)) (fun a b m k c=>?_) (fun i l=>?_)
   ·
    try dsimp only at c
    split at c <;> split at c
    ·
     exact inj a b (by omega) (by omega) c
    ·
     have:=inj a (b+1) (by omega) (by omega) c;omega
    ·
     have:=inj (a+1) b (by omega) (by omega) c;omega
    ·
     have:=inj (a+1) (b+1) (by omega) (by omega) c;omega
   ·
    show (if i<j then f i else f (i+1))∈ws
    split
    ·
     exact (x_.mp (h i (by omega))).resolve_left fun d=>by have:=inj i j (by omega) g (d.trans e.symm);omega
    ·
     exact (x_.mp (h (i+1) (by omega))).resolve_left fun d=>by have:=inj (i+1) j (by omega) g (d.trans e.symm);omega
  ·
   exact pig ws f (fun a b m k=>inj a b (by omega) (by omega)) fun i l=>(x_.mp (h i (by omega))).resolve_left fun e=>q ⟨i,by omega,e⟩
def dg:Nat->Int->List Nat
 |0,_=>[]
 |n+1,l=>(97+(l%26).toNat)::dg n (l / 26)
def bw (b:Bool):Str:=if b then "with" else "apart"
def pT3 (x:Bool × Nat × Nat):T:=.tup [.str (bw x.1),.int (x.2.1:Int),.int (x.2.2:Int)]
structure PI (d:Addr) (H0 H:lO) (pp pe a:Addr) (ws:List Str) (ps:List (Bool × Nat × Nat)) (es:List T):Prop where
 w:Wt d H0 H [(pp,.lst (ps.map pT3)),(pe,.lst es),(a,.lst (ws.map T.str))]
 ne:pe≠pp
 na:a≠pp
 l12:ps.length<=12
 ea:es.all (pl 20)=true
 el:es.length<=28+2*ps.length
 ok:∀x∈ps,x.2.1≠x.2.2/\x.2.1<ws.length/\x.2.2<ws.length
def oD (ws:List Str) (a:List Nat) (x:Nat × Nat):Str × Str:=(ws.getD (a.getD x.1 0) "",ws.getD (a.getD x.2 0) "")
def getD_mem {a:Type}{l:List a}{d:a} (h:i<l.length):l.getD i d∈l:=by
 rw[h_,e_ h];exact Zw h
def oT (a:List Nat) (x:Nat × Nat):T:=.tup [.int ((a.getD x.1 0:Nat):Int),.int ((a.getD x.2 0:Nat):Int)]
def dN (ns:List Str) (f:Str->Nat):List (Str × T):=ns.map fun n=>(n,T.int (f n:Int))
def fu (f:Str->Nat) (n:Str) (v:Nat):Str->Nat:=fun x=>if x=n then v else f x
def dX:∀{ns:List Str},n∈ns->aP n (dN ns f)=some (T.int (f n:Int))
 |x::r,h=>by
  unfold dN
  rw[J_]
  unfold aP
  by_cases e:x=n
  ·
   rw[if_pos e,e]
  ·
   rw[if_neg e]
   exact dX (ns:=r) ((x_.mp h).resolve_left (Ne.symm e))
def Sh {v:Nat} (h:n∈ns):put3 n (T.int (v:Int)) (dN ns f)=dN ns (fu f n v):=by
 unfold put3 dN;rw[if_pos (by rw[aal];exact⟨(n,T.int (f n:Int)),A_.mpr ⟨n,h,rfl⟩,by simp⟩),Zh];refine ZM fun x a=>?_;show (if x=n then (x,T.int (v:Int)) else (x,T.int (f x:Int)))=(x,T.int ((fu f n v x:Nat):Int));unfold fu;by_cases e:x=n
 ·rw[if_pos e,if_pos e]
 rw[if_neg e,if_neg e]
def w6 {v:Nat} (h:n∉ns):put3 n (T.int (v:Int)) (dN ns f)=dN (ns++[n]) (fu f n v):=by
 unfold put3 dN;rw[if_neg (by
  intro e
  rw[aal] at e
  obtain⟨x,a,e⟩:=e
  obtain⟨y,b,rfl⟩:=A_.mp a
  exact h (ZR e▸b)),z_]
 congr 1
 ·refine ZM fun x a=>?_;unfold fu;rw[if_neg (fun (e:x=n)=>h (e▸a))]
 unfold fu;rw[List.map_singleton,if_pos rfl]
def qW (ns:List Str) (f:Str->Nat):(dN ns f).length=ns.length:=g_ _
def mu (m:Nat) (ns:List Str) (f:Str->Nat):Nat:=(ns.map fun n=>m - f n).sum
def Ss (h:H a=some o):fY H a o=H:=by
 funext b;by_cases e:b=a
 ·subst e;rw[aq,h]
 rw[aD e]
def ld (tk:List (Str × Int × List Str)) (ns:List Str):Int:=((tk.filter (fun t=>di false (.str t.1) (ns.map T.str))).map (·.2.1)).sum
def WL:Sp3:=fun ts H Q=>∃(W:Wk) (ns:List Str),ts=[W.enc,.tup (ns.map T.str)]/\W.tasks.length<=8/\Q (.int (ld W.tasks ns)) H
def pN (ns:List Str) (f:Str->Nat) (m:Nat):(acs ns f m).length=m:=by unfold acs;rw[g_,C_]
def lG (a:List Str) (n:Str):List Str:=if n∈a then a else a++[n]
def kst (a xs:List Str):List Str:=xs.foldl lG a
def j9 (k:Nat) (f:Str->Nat) (xs:List Str):Str->Nat:=xs.foldl (fun f n=>fu f n k) f
def kD (D:List (List Str)):List Str:=kst [] D.flatten
def fD (D:List (List Str)):Str->Nat:=D.zipIdx.foldl (fun f p=>j9 p.2 f p.1) (fun _=>0)
def Ga (a xs:List Str) (n:Str):kst a (xs++[n])=lG (kst a xs) n:=by unfold kst;rw[aaO];rfl
def Gb (k:Nat) (f:Str->Nat) (xs:List Str) (n:Str):j9 k f (xs++[n])=fu (j9 k f xs) n k:=by unfold j9;rw[aaO];rfl
def Km (A:List (List Str)) (s:List Str):kD (A++[s])=kst (kD A) s:=by unfold kD kst;rw[aaD,aaO,List.flatten_singleton]
def yO (A:List (List Str)) (s:List Str):fD (A++[s])=j9 A.length (fD A) s:=by
 unfold fD;rw[List.zipIdx_append,aaO];simp
def Ko (a:List Str) (f:Str->Nat) (n:Str) (k:Nat):put3 n (T.int (k:Int)) (dN a f)=dN (lG a n) (fu f n k):=by
 unfold lG;split
 ·rename_i h;exact Sh h
 rename_i h;exact w6 h
def qX (x:Str):∀(xs b:List Str),x∈kst b xs↔x∈b\/x∈xs
 |[],b=>by simp [kst]
 |n::r,b=>by
  show x∈kst (lG b n) r↔_
  rw[qX x r]
  unfold lG
  by_cases h:n∈b
  ·
   rw[if_pos h,x_]
   constructor
   ·
    rintro (a | a)
    ·
     exact .inl a
    ·
     exact .inr (.inr a)
   ·
    rintro (a | rfl | a)
    ·
     exact .inl a
    ·
     exact .inl h
    ·
     exact .inr a
  ·
   rw[if_neg h,u_,i_,x_,or_assoc]
def kst_len:∀(xs a:List Str),(kst a xs).length<=a.length+xs.length
 |[],a=>m_ _
 |n::r,a=>by
  have h:=kst_len r (lG a n)
  have b:(lG a n).length<=a.length+1:=by unfold lG;split <;> simp
  show (kst (lG a n) r).length<=_
  rw[j_]
  omega
def Su:x∈kD D↔x∈D.flatten:=by
 unfold kD;rw[qX];simp
def Sv (D:List (List Str)):(kD D).length<=D.flatten.length:=by
 have:=kst_len D.flatten [];simpa [kD] using this
def pQ:∀{ns:List Str},n∉ns->aP n (dN ns f)=none
 |[],_=>rfl
 |x::r,h=>by
  unfold dN
  rw[J_]
  unfold aP
  rw[if_neg (fun e=>h (by rw[<- e];exact l_))]
  exact pQ fun z=>h (q_ _ z)
def kdOf (ts:List (Str × Int × List Str)) (n:Str):List Str:=match ts.find? (fun t=>decide (t.1=n)) with
 |some t=>t.2.2
 |none=>[]
def YZ (a:List Str) (D:List (List Str)):Option T:=if D.length>a.length then some (.tup [.str "stands",.int (D.length:Int)]) else none
def Y0 (ns xs:List Str):Option T:=(xs.find? fun x=>!decide (x∈ns)).map fun x=>.tup [.str "strange",.str x]
def twG:List Str->List Str->Option Str
 |_,[]=>none
 |sn,x::r=>if x∈sn then some x else twG (sn++[x]) r
def twF (xs:List Str):Option T:=(twG [] xs).map fun x=>.tup [.str "twice",.str x]
def Y4 (ns xs:List Str):Option T:=(ns.find? fun n=>!decide (n∈xs)).map fun n=>.tup [.str "lost",.str n]
def Y5 (f:Str->Nat) (a:List (Str × Str)):Option T:=(a.find? fun o=>decide (f o.2<f o.1)).map fun o=>.tup [.str "order",.str o.1,.str o.2]
def Y6 (f:Str->Nat) (ps:List (Str × Str × Str)):Option T:=(ps.find? fun p=>decide (f p.2.1=f p.2.2) != decide (p.1=("with":Str))).map fun p=>.tup [.str p.1,.str p.2.1,.str p.2.2]
def okK (a:List Str) (k:Str):Bool:=decide (a=[])||decide (k∈a)
def WM (b:Str->List Str) (a:List Str):Nat->List (List Str)->Option T
 |_,[]=>none
 |k,s::r=>match s.find? fun n=>!okK (b n) (a.getD k "") with
  |some n=>some (.tup [.str "kind",.str n,.int (k:Int)])
  |none=>WM b a (k+1) r
def WN (g:List Str->Int) (eG:Int):Nat->List (List Str)->Option T
 |_,[]=>none
 |k,s::r=>if g s>eG then some (.tup [.str "beat",.int (k:Int)]) else WN g eG (k+1) r
def Y7 (W:Wk) (D:List (List Str)):Option T:=(YZ W.row D).or ((Y0 (W.tasks.map (·.1)) D.flatten).or ((twF D.flatten).or (Y4 (W.tasks.map (·.1)) D.flatten)))
def Y8 (W:Wk) (eG:Int) (D:List (List Str)):Option T:=(Y5 (fD D) W.orders).or ((Y6 (fD D) W.pairs).or ((WM (kdOf W.tasks) W.row 0 D).or (WN (ld W.tasks) eG 0 D)))
def flt (W:Wk) (eG:Int) (D:List (List Str)):Option T:=(Y7 W D).or (Y8 W eG D)
structure Dok (W:Wk) (D:List (List Str)):Prop where
 rw:D.length<=W.row.length
 st:∀x∈D.flatten,x∈W.tasks.map (·.1)
 nd:D.flatten.Nodup
 al:∀n∈W.tasks.map (·.1),n∈D.flatten
def Dok.in (h:Dok W D) (a:s∈D):s.Nodup/\∀n∈s,n∈W.tasks.map (·.1) :=
 ⟨(List.sublist_flatten_of_mem a).nodup h.nd,fun n b=>h.st n (Z_.mpr ⟨s,a,b⟩)⟩
def uB {B:List (List Str)}:(A++s::B).flatten=A.flatten++(s++B.flatten):=by rw[aaD,aac]
def Sw {xs:List Str}:di true (T.str x) (xs.map T.str)=!decide (x∈xs):=by
 rw[Zk,Wz jK];simp
def Nx {xs:List Str}:di false (T.str x) (xs.map T.str)=decide (x∈xs):=by
 rw[Zk,YX jK];simp
def An {c:Type} (a:c->T) (xs:List c) (I:List c->St3->lO->Prop) (d:I [] Z H) (f:∀Z H,I xs Z H->still H/\D.nx Z H) (i:∀A x B Z H (N:St3->lO->Prop),xs=A++x::B->I A Z H->(∀b H',I (A++[x]) b H'->N b H')->still H/\g (.tup [.int (A.length:Int),a x]) Z H fun Z2 H2=>tb { D with nx:=N,ct:=N,bk:=D.nx} Z2 H2):aca g tb D still (gY 0 (xs.map a)) Z H:=by
 have:∀(B A:List c) (Z:St3) (H:lO),xs=A++B->I A Z H->aca g tb D still (gY (A.length:Int) (B.map a)) Z H:=by
  intro B;induction B with
  |nil=>intro A Z H e h;rw[W_] at e;subst e;exact f Z H h
  |cons x B j =>
  intro A Z H e h;refine i A x B Z H _ e h fun b H' h'=>?_;have q:=j (A++[x]) b H' (by rw[e,Zt];rfl) h';rw[d_,v_,Int.natCast_add] at q;exact q
 exact this xs [] Z H rfl d
def Sx (ts:List T) (i:Int) (H:lO) (Q:My):ixH (some (.rol ts)) i H Q=oq (atI ts i) fun t=>Q t H:=rfl
def WP:Sp3:=fun ts H Q=>∃tk:List (Str × Int × List Str),ts=[.tup (tk.map tkT)]/\tk.length<=8/\∀p,H p=none->Q (.ref p) (fY H p (.lst ((tk.map (·.1)).map T.str)))
structure Fil (W:Wk) (eG:Int) (kind:Str) (D S:List Str):Prop where
 one:∀t∈W.tasks,t.1∈S->t.1∉D/\iU t.2.2 kind=true/\(∀x∈bx W t.1,x∈S)/\(∀x∈jq W t.1,x∈S\/x∈D)/\∀x∈jN W t.1,x∉S
 ld:bG W.tasks S<=eG
def adQ:wZ W eG c D S=true↔Fil W eG c D S:=by
 unfold wZ;rw[Zi,n_,ZQ];have key:∀t:Str × Int × List Str,(!decide (t.1∈S)||okT W c D S t)=true↔(t.1∈S->t.1∉D/\iU t.2.2 c=true/\(∀x∈bx W t.1,x∈S)/\(∀x∈jq W t.1,x∈S\/x∈D)/\∀x∈jN W t.1,x∉S):=fun t=>by
  unfold okT;rw[Bool.or_eq_true,abv,aat,Zi,Zi,Zi,Zi,abv,aat,@n_ _ (Classical.propDecidable _),@n_ _ (Classical.propDecidable _),@n_ _ (Classical.propDecidable _)];constructor
  ·intro h d;obtain⟨⟨⟨⟨j,e⟩,f⟩,i⟩,g⟩:=h.resolve_left (fun z=>z d);exact⟨j,e,f,fun x k=>u_.mp (i x k),g⟩
  intro h;by_cases d:t.1∈S
  ·obtain⟨j,e,f,i,g⟩:=h d;exact .inr ⟨⟨⟨⟨j,e⟩,f⟩,fun x k=>u_.mpr (i x k)⟩,g⟩
  exact .inl d
 exact⟨fun ⟨a,b⟩=>⟨fun t l=>(key t).mp (a t l),b⟩,fun h=>⟨fun t l=>(key t).mpr (h.one t l),h.ld⟩⟩
def lA (h:∀x,x∈S↔x∈a):bG ts S=bG ts a:=by
 have e:(ts.filter fun t=>decide (t.1∈S))=ts.filter fun t=>decide (t.1∈a):=ZS fun t _=>by rw[aau];exact h t.1
 unfold bG;rw[e]
def Fil.congr (f:Fil W eG a D S) (d:∀x,x∈D↔x∈e) (c:∀x,x∈S↔x∈g):Fil W eG a e g :=
 ⟨fun t n m=>by
  obtain⟨l,h,i,k,j⟩:=f.one t n ((c _).mpr m)
  exact⟨fun z=>l ((d _).mpr z),h,fun x b=>(c x).mp (i x b),fun x b=>(k x b).imp (c x).mp (d x).mp,fun x b z=>j x b ((c x).mpr z)⟩,by rw[<- lA c];exact f.ld⟩
def acH (W:Wk) (eG:Int) (D:List (List Str)):Prop:=∀k s,D[k]?=some s->Fil W eG (W.row.getD k "") (D.take k).flatten s
def acH.snoc (h:acH W eG D) (f:Fil W eG (W.row.getD D.length "") D.flatten s):acH W eG (D++[s]):=fun k s' e=>by
 by_cases b:k<D.length
 ·rw[Zn b] at e;rw[abi (by omega)];exact h k s' e
 rw[Q_ (by omega)] at e;have c:k - D.length=0:=by
  cases d:k - D.length with
  |zero=>rfl
  |succ n=>rw[d] at e;simp at e
 have a:k=D.length:=by omega
 subst a;rw[c] at e;simp only[aav,Option.some.injEq] at e;subst e;rw[List.take_left']
 ·exact f
 rfl
def acH.nil:acH W eG []:=fun k s e=>by simp at e
def xf:∀{xs:List Str}{f:Str->Nat},n∉xs->j9 k f xs n=f n
 |[],_,_=>rfl
 |x::r,f,h=>by
  rw[x_,not_or] at h
  show j9 k (fu f x k) r n=f n
  rw[xf h.2]
  unfold fu
  rw[if_neg h.1]
def Gd:∀{xs:List Str}{f:Str->Nat},n∈xs->j9 k f xs n=k
 |x::r,f,h=>by
  show j9 k (fu f x k) r n=k
  by_cases a:n∈r
  ·
   exact Gd a
  ·
   rw[xf a]
   unfold fu
   rw[if_pos ((x_.mp h).resolve_right a)]
def fW (b:D.flatten.Nodup):∀{k:Nat}{s:List Str}{n:Str},D[k]?=some s->n∈s->fD D n=k:=by
 induction hl:D.length generalizing D with
 |zero=>intro k s n e;rw[abf.mp hl] at e;simp at e
 |succ m i =>
 intro k s n e a;obtain⟨A,l,rfl⟩:∃A l,D=A++[l]:=by refine⟨D.dropLast,D.getLast (by intro z;rw[z] at hl;cases hl),(aaS _).symm⟩
 have d:A.length=m:=by simp at hl;exact hl
 rw[yO];rw[aaD,List.flatten_singleton,aae] at b;by_cases f:k<A.length
 ·rw[Zn f] at e;have h:n∈A.flatten:=Z_.mpr ⟨s,Y_ e,a⟩;rw[xf fun z=>b.2.2 n h n z rfl];exact i b.1 d e a
 rw[Q_ (by omega)] at e;have c:k - A.length=0:=by
  cases g:k - A.length with
  |zero=>rfl
  |succ n=>rw[g] at e;simp at e
 rw[c] at e;simp only[aav,Option.some.injEq] at e;subst e;rw[Gd a];omega
def jO {D:List (List Str)} (h:n∈D.flatten):∃(k:Nat) (s:List Str),D[k]?=some s/\n∈s:=by
 obtain⟨s,c,b⟩:=Z_.mp h;obtain⟨k,a⟩:=aaw c;exact⟨k,s,a,b⟩
def ac_ {D:List (List Str)}:n∈(D.take k).flatten↔∃(j:Nat) (s:List Str),j<k/\D[j]?=some s/\n∈s:=by
 constructor
 ·intro h;obtain⟨j,s,e,a⟩:=jO h;rw[abJ] at e;split at e
  ·exact⟨j,s,by assumption,e,a⟩
  cases e
 rintro⟨j,s,b,e,a⟩;refine Z_.mpr ⟨s,?_,a⟩;refine Y_ (i:=j) ?_;rw[abJ,if_pos b];exact e
def Kp (tk:List (Str × Int × List Str)) (s:List Str):ld tk s=bG tk s:=by
 have e:(tk.filter fun t=>di false (.str t.1) (s.map T.str))=tk.filter fun t=>decide (t.1∈s):=ZS fun t _=>Nx;unfold ld bG;rw[e]
def uC (h:lkR ["with"] W a b):(a,b)∈W.orders\/∃p∈W.pairs,p.1="with"/\(p.2=(a,b)\/p.2=(b,a)):=by
 unfold lkR lkW at h;rcases u_.mp h with h | h
 ·exact .inl h
 obtain⟨p,d,c⟩:=List.mem_flatMap.mp h;unfold lkP at c;split at c
 ·rename_i e;refine .inr ⟨p,d,by simpa using e,?_⟩;simp only[x_,aay,Ze,aaB] at c;rcases c with ⟨rfl,rfl⟩ | ⟨rfl,rfl⟩
  ·exact .inl rfl
  exact .inr rfl
 cases c
def Sy (h:(a,b)∈W.orders):lkR ["with"] W a b:=U_ _ h
def Kq (h:(("with":Str),a,b)∈W.pairs):lkR ["with"] W a b/\lkR ["with"] W b a:=by
 have:∀q,q∈lkP ["with"] ("with",a,b)->q∈lkW ["with"] W:=fun q c=>V_ _ (List.mem_flatMap.mpr ⟨_,h,c⟩);constructor
 ·exact this _ (by unfold lkP;simp)
 exact this _ (by unfold lkP;simp)
structure Rgt (W:Wk) (eG:Int) (D:List (List Str)) (f:Str->Nat):Prop where
 ord:∀o∈W.orders,f o.1<=f o.2
 pai:∀p∈W.pairs,f p.2.1=f p.2.2↔p.1="with"
 kin:∀k s,D[k]?=some s->∀t∈W.tasks,t.1∈s->iU t.2.2 (W.row.getD k "")=true
 bea:∀s∈D,bG W.tasks s<=eG
def uD (N:v6 W) (h:Dok W D):Rgt W eG D (fD D)↔acH W eG D:=by
 have u:∀{n:Str},n∈W.tasks.map (·.1)->∃s,D[fD D n]?=some s/\n∈s:=fun g=>by obtain⟨k,s,e,c⟩:=jO (h.al _ g);rw[fW h.nd e c];exact⟨s,e,c⟩
 constructor
 ·intro r k s e;have w:∀{a b:Str},RT (lkR ["with"] W) a b->fD D a<=fD D b:=fun z=>by
   induction z with
   |refl=>exact m_ _
   |step _ l ih =>
   refine R_ ih ?_;rcases uC l with o | ⟨p,m,v,e | e⟩
   ·exact r.ord _ o
   ·have:=(r.pai p m).mpr v;rw[e] at this;exact abL this
   have:=(r.pai p m).mpr v;rw[e] at this;exact abL this.symm
  refine⟨fun t i c=>?_,r.bea s (Y_ e)⟩;have U:=fW h.nd e c;refine⟨fun z=>?_,r.kin k s e t i c,fun x G=>?_,fun x G=>?_,fun x G L=>?_⟩
  ·obtain⟨j,s',Q,d,g⟩:=ac_.mp z;have:=fW h.nd d g;omega
  ·obtain⟨A,C⟩:=E_.mp G;rw[@n_ _ (Classical.propDecidable _)] at C;have B:=w C.1;have e2:=w C.2;obtain⟨s',d,g⟩:=u A;rw[show fD D x=k by omega,e] at d;cases d;exact g
  ·obtain⟨A,C⟩:=E_.mp G;rw[@n_ _ (Classical.propDecidable _)] at C;have B:=w C.1;obtain⟨s',d,g⟩:=u A;by_cases z:fD D x=k
   ·rw[z,e] at d;cases d;exact .inl g
   exact .inr (ac_.mpr ⟨_,s',by omega,d,g⟩)
  obtain⟨p,m,rfl⟩:=A_.mp G;obtain⟨m,v⟩:=E_.mp m;rw[Zi,n_,n_] at v;have B:=(r.pai p m).mp (by rw[v.2,U,fW h.nd e L]);rw[v.1] at B;exact absurd B (by decide)
 intro F;have fil:∀{t:Str × Int × List Str},t∈W.tasks->∃s,D[fD D t.1]?=some s/\t.1∈s/\Fil W eG (W.row.getD (fD D t.1) "") (D.take (fD D t.1)).flatten s:=fun i=>by obtain⟨s,e,c⟩:=u (A_.mpr ⟨_,i,rfl⟩);exact⟨s,e,c,F _ _ e⟩
 have w:∀{a b:Str},a∈W.tasks.map (·.1)->b∈W.tasks.map (·.1)->RT (lkR ["with"] W) a b->fD D a<=fD D b:=fun {a b} I Y z=>by
  obtain⟨t,i,rfl⟩:=A_.mp Y;obtain⟨s,e,c,f⟩:=fil i;obtain⟨_,_,P,T,_⟩:=f.one t i c;by_cases y:RT (lkR ["with"] W) t.1 a
  ·have:=P a (E_.mpr ⟨I,@L_ _ (Classical.propDecidable _) ⟨y,z⟩⟩);exact abL (fW h.nd e this)
  rcases T a (E_.mpr ⟨I,@L_ _ (Classical.propDecidable _) ⟨z,y⟩⟩) with q | q
  ·exact abL (fW h.nd e q)
  obtain⟨j,s',Q,d,g⟩:=ac_.mp q;rw[fW h.nd d g];omega
 refine⟨fun o M=>?_,fun p m=>?_,fun k s e t i c=>((F k s e).one t i c).2.1,fun s c=>?_⟩
 ·obtain⟨_,H,E⟩:=N.oo o M;exact w H E (.step .refl (Sy M))
 ·obtain⟨v,_,H,E⟩:=N.pp p m;constructor
  ·intro e;refine v.resolve_right fun I=>?_;obtain⟨t,i,O⟩:=A_.mp H;obtain⟨s,B,c,f⟩:=fil i;obtain⟨_,_,_,_,R⟩:=f.one t i c;refine R p.2.2 (A_.mpr ⟨p,E_.mpr ⟨m,by rw[Zi,n_,n_];exact⟨I,O.symm⟩⟩,rfl⟩) ?_;obtain⟨s',d,g⟩:=u E;have V:fD D p.2.2=fD D t.1:=by rw[O];exact e.symm
   rw[V,B] at d;cases d;exact g
  intro J;have K:(("with":Str),p.2.1,p.2.2)∈W.pairs:=by rw[<- J];exact m
  obtain⟨X,Z⟩:=Kq K;exact Nat.le_antisymm (w H E (.step .refl X)) (w E H (.step .refl Z))
 obtain⟨k,S⟩:=aaw c;exact (F k s S).ld
def Kr:∀{D:List (List Str)},acH W eG D->(∀s∈D,s.Nodup/\∀n∈s,n∈W.tasks.map (·.1))->D.flatten.Nodup:=by
 intro D;induction hl:D.length generalizing D with
 |zero=>intro _ _;rw[abf.mp hl];exact aaY
 |succ m r =>
 intro F d;obtain⟨A,l,rfl⟩:∃A l,D=A++[l]:=by refine⟨D.dropLast,D.getLast (by intro z;rw[z] at hl;cases hl),(aaS _).symm⟩
 have i:A.length=m:=by simp at hl;exact hl
 have o:acH W eG A:=fun k s e=>by
  have j:k<A.length:=by
   rcases aa6 k A.length with z | z
   ·exact z
   rw[N_ z] at e;cases e
  have:=F k s (by rw[Zn j];exact e)
  rwa [abi (by omega)] at this
 rw[aaD,List.flatten_singleton,aae];have c:=d l (by simp);refine⟨r i o fun s h=>d s (U_ _ h),c.1,fun a q b g e=>?_⟩;subst e;obtain⟨t,p,rfl⟩:=A_.mp (c.2 a g);have f:=F A.length l (by rw[Q_ (m_ _)];simp);rw[List.take_left' rfl] at f;exact (f.one t p g).1 q
def xg {a:List Str} (h:k<a.length):atI (a.map T.str) (k:Int)=some (.str (a.getD k "")):=cB (by rw[B_,e_ h,h_,e_ h];rfl)
def pR:∀ns:List Str,pick ns 0=[]
 |[]=>rfl
 |n::r=>by
  have:=pR r
  unfold pick
  simpa using this
def yP:∀(ns:List Str) (b:Int),(pick ns b).Sublist ns
 |[],_=>List.Sublist.refl _
 |n::r,b=>by
  have:=yP r (b / 2)
  unfold pick
  split
  ·
   exact this.cons₂ n
  ·
   exact this.cons n
def kh (q:v6 W) (g:ns.Perm (W.tasks.map (·.1))) (u:m<=W.row.length) (y:∀n,f n<m):Dok W (acs ns f m):=by
 have d:∀x,x∈(acs ns f m).flatten↔x∈ns:=fun x=>by
  rw[Z_];constructor
  ·rintro⟨s,h,c⟩;obtain⟨k,_,rfl⟩:=A_.mp h;exact (E_.mp c).1
  intro c;exact⟨_,A_.mpr ⟨f x,Zf.mpr (y x),rfl⟩,E_.mpr ⟨c,L_ rfl⟩⟩
 refine⟨by rw[pN];exact u,fun x c=>g.mem_iff.mp ((d x).mp c),?_,fun x c=>(d x).mpr (g.mem_iff.mpr c)⟩;have v:=g.nodup_iff.mpr q.nd;unfold acs;have:∀l:List Nat,l.Nodup->((l.map fun k=>ns.filter fun n=>decide (f n=k)).flatten).Nodup:=by
  intro l;induction l with
  |nil=>intro _;exact aaY
  |cons k r A =>
  intro o;rw[ZP] at o;rw[J_,aac,aae];refine⟨List.filter_sublist.nodup v,A o.2,fun a z b i e=>?_⟩;subst e;obtain⟨s,h,i⟩:=Z_.mp i;obtain⟨j,t,rfl⟩:=A_.mp h;have w:=ZR (E_.mp z).2;have p:=ZR (E_.mp i).2;exact o.1 (by rw[<- w,p];exact t)
 exact this _ List.nodup_range
def gre {b:Type}(a:b->b->Bool):List b->List b
 |[]=>[]
 |n::B=>if (gre a B).any (fun g=>a g n) then gre a B else gre a B++[n]
def qY:∀(xs:List b),∀g∈gre a xs,g∈xs
 |[],g,h=>h
 |n::B,g,h=>by
  unfold gre at h
  split at h
  ·
   exact q_ _ (qY B g h)
  ·
   rcases u_.mp h with h | h
   ·
    exact q_ _ (qY B g h)
   ·
    rw[i_.mp h];exact l_
def yQ {c:f->f->Bool} (i:∀a,c a a=true):∀(xs:List f),∀b∈xs,∃g∈gre c xs,c g b=true
 |n::B,b,h=>by
  unfold gre
  rcases x_.mp h with rfl | h
  ·
   split
   ·
    rename_i j
    obtain⟨g,d,e⟩:=aal.mp j
    exact⟨g,d,e⟩
   ·
    exact⟨b,by simp,i b⟩
  ·
   obtain⟨g,d,e⟩:=yQ i B b h
   split
   ·
    exact⟨g,d,e⟩
   ·
    exact⟨g,U_ _ d,e⟩
def Ao (m:Nat):List.range (m+m)=List.range m++(List.range m).map (·+m):=by
 rw[List.range_add];congr 1;exact ZM fun a _=>Nat.add_comm _ _
def yR:∀(ws:List Str) (b:Int),(pick ws b).length<=ws.length
 |[],_=>m_ _
 |x::r,b=>by
  unfold pick
  have:=yR r (b / 2)
  split
  ·
   rw[j_,j_];omega
  ·
   rw[j_];omega
def bN (b a:Nat):Bool:=decide (Builtin.bitAnd (b:Int) (a:Int)=(a:Int))
def gD (b a:Nat):bN b a=true↔b &&& a=a:=by
 unfold bN;rw[n_,qQ];exact Int.ofNat_inj
def Aq (a:Nat):bN a a=true:=(gD a a).mpr (Nat.and_self a)
def nm (W:Wk):List Str:=W.tasks.map (·.1)
def pk (W:Wk) (i:Nat):List Str:=pick (nm W) (i:Int)
def top2 (W:Wk):Nat:=2^W.tasks.length
def cY (W:Wk):(nm W).length=W.tasks.length:=g_ _
def eO (b:v6 W) (h:i<top2 W):bW (nm W) (pk W i)=i:=by
 have a:((i:Int))<2^(nm W).length:=by
  have e:((2^W.tasks.length:Nat):Int)=(2:Int)^W.tasks.length:=by push_cast;rfl
  rw[cY,<- e];exact Int.ofNat_lt.mpr h
 have:=FN (ns:=nm W) b.nd (abn i) a;rw[cI] at this;exact Int.ofNat.inj this
def lY (A:List Str):bW (nm W) A<top2 W:=by
 have:=ux (nm W) A;rw[cI,cY] at this;have e:((2^W.tasks.length:Nat):Int)=(2:Int)^W.tasks.length:=by push_cast;rfl
 rw[<- e] at this;exact Int.ofNat_lt.mp this
def Ny (a:v6 W) (A:List Str):pk W (bW (nm W) A)=(nm W).filter fun x=>decide (x∈A):=by
 unfold pk;rw[<- cI];exact uA _ _ a.nd
def kj (a:v6 W):x∈pk W (bW (nm W) A)↔x∈nm W/\x∈A:=by
 rw[Ny a,E_,n_]
def iu (h:x∈pk W i):x∈nm W:=jL _ _ x h
def WQ (a:v6 W) (i:Nat):(pk W i).Nodup:=(yP _ _).nodup a.nd
def gU:∀(ns A B:List Str),(∀x∈ns,x∈B↔x∉A)->bW ns A+bW ns B+1=2^ns.length
 |[],_,_,_=>rfl
 |x::r,A,B,h=>by
  have d:=gU r A B fun y c=>h y (q_ _ c)
  have b:=h x l_
  simp only[bW,j_,Nat.pow_succ]
  by_cases a:x∈A
  ·
   rw[if_pos a,if_neg (fun z=>b.mp z a)];omega
  ·
   rw[if_neg a,if_pos (b.mpr a)];omega
def iw:∀(ns A B:List Str),(∀x∈ns,¬(x∈A/\x∈B))->bW ns A+bW ns B=bW ns (A++B)
 |[],_,_,_=>rfl
 |x::r,A,B,h=>by
  have e:=iw r A B fun y d=>h y (q_ _ d)
  have c:=h x l_
  simp only[bW,u_]
  by_cases a:x∈A
  ·
   have b:x∉B:=fun z=>c ⟨a,z⟩
   simp only[a,b,if_true,Zb,aaB];omega
  ·
   by_cases b:x∈B
   ·
    simp only[a,b,if_true,Zb,or_true];omega
   ·
    simp only[a,b,Zb,or_self];omega
def uE:bN (bW (nm W) A) (bW (nm W) B)=true↔∀x∈nm W,x∈B->x∈A:=by
 unfold bN;rw[n_,<- cI,<- cI];exact fV _ _ _
def uF (N:Nat):List Nat:=(List.range (N+1)).filter (bN N)
def Ks (h:bN N i=true):i<=N:=by
 have:=(gD N i).mp h;have:=Nat.and_le_left (n:=N) (m:=i);omega
def yS (h:N<M):(List.range M).filter (bN N)=uF N:=by
 obtain⟨k,rfl⟩:∃k,M=(N+1)+k:=⟨M - (N+1),by omega⟩;unfold uF;rw[List.range_add,ZG];have:((List.range k).map fun x=>N+1+x).filter (bN N)=[]:=by rw[List.filter_eq_nil_iff];intro a b;obtain⟨x,_,rfl⟩:=A_.mp b;intro z;have:=Ks z;omega
 rw[this,W_]
def uG (e:i<2^k):bN N (i+2^k)=(bN N (2^k)&&bN N i):=by
 have a:i+2^k=2^k ||| i:=by have:=Nat.two_pow_add_eq_or_of_lt e 1;rw[Nat.mul_one] at this;omega
 rw[Zk,Zi,gD,gD,gD,a];constructor
 ·intro h;have c:∀j,(N &&& (2^k ||| i)).testBit j=(2^k ||| i).testBit j:=fun j=>by rw[h]
  refine⟨Nat.eq_of_testBit_eq fun j=>?_,Nat.eq_of_testBit_eq fun j=>?_⟩
  ·have:=c j;rw[Nat.testBit_and,Nat.testBit_or] at this;rw[Nat.testBit_and];cases b:(2^k).testBit j <;> simp_all
  have:=c j;rw[Nat.testBit_and,Nat.testBit_or] at this;rw[Nat.testBit_and];cases b:i.testBit j <;> simp_all
 rintro⟨b,d⟩;rw[Nat.and_or_distrib_left,b,d]
def Ge:(List.range (2^(k+1))).filter (bN N)=(List.range (2^k)).filter (bN N)++if bN N (2^k)=true then ((List.range (2^k)).filter (bN N)).map (·+2^k) else []:=by
 rw[show 2^(k+1)=2^k+2^k by rw[Nat.pow_succ];omega,Ao,ZG];congr 1;rw[List.filter_map];by_cases h:bN N (2^k)=true
 ·rw[if_pos h];congr 1;refine ZS fun i a=>?_;show bN N (i+2^k)=bN N i;rw[uG (Zf.mp a),h,abC]
 rw[if_neg h,List.filter_eq_nil_iff.mpr,aaA];intro i a;show ¬bN N (i+2^k)=true;rw[uG (Zf.mp a),Zi];exact fun z=>h z.1
def fil (W:Wk) (eG:Int) (k d i:Nat):Bool:=wZ W eG (W.row.getD k "") (pk W d) (pk W i)
def fls (W:Wk) (eG:Int) (k d:Nat):List Nat:=(List.range (top2 W)).filter (fil W eG k d)
def acg:i∈fls W eG k d↔i<top2 W/\Fil W eG (W.row.getD k "") (pk W d) (pk W i):=by
 unfold fls;rw[E_,Zf];unfold fil;rw[adQ]
def Fil.apart (f:Fil W eG a D S) (b:x∈nm W) (d:x∈S):x∉D:=by
 obtain⟨t,c,rfl⟩:=A_.mp b;exact (f.one t c d).1
def Ar (c:v6 W) (e:d<top2 W):(uF (top2 W - 1 - d)).filter (fil W eG k d)=fls W eG k d:=by
 have g:top2 W - 1 - d<top2 W:=by omega
 rw[<- yS g];unfold fls;rw[List.filter_filter];refine ZS fun i l=>?_;have b:=Zf.mp l;cases h:fil W eG k d i with
 |false=>rfl
 |true =>
 rw[abC];have f:Fil W eG (W.row.getD k "") (pk W d) (pk W i):=adQ.mp h;have m:top2 W - 1 - d=bW (nm W) ((nm W).filter fun x=>decide (x∉pk W d)):=by
  have:=gU (nm W) (pk W d) ((nm W).filter fun x=>decide (x∉pk W d)) fun x a=>by rw[E_,n_];exact⟨fun z=>z.2,fun z=>⟨a,z⟩⟩
  rw[eO c e,cY] at this;unfold top2;omega
 rw[m,show i=bW (nm W) (pk W i) from (eO c b).symm];rw[uE];intro x a j;rw[E_,n_];exact⟨a,f.apart a j⟩
inductive Frw (W:Wk) (eG:Int):List Nat->Nat->Prop
 |nil:Frw W eG [] 0
 |snoc {fs:List Nat} {d f:Nat}:Frw W eG fs d->fs.length<W.row.length->f∈fls W eG fs.length d->Frw W eG (fs++[f]) (d+f)
def Ku (W:Wk):pk W 0=[]:=pR _
def Frw.ok (c:v6 W) (r:Frw W eG fs d):d<top2 W/\fs.length<=W.row.length/\(∀x,x∈pk W d↔x∈(fs.map (pk W)).flatten)/\acH W eG (fs.map (pk W))/\∀f∈fs,f<top2 W:=by
 induction r with
 |nil=>exact⟨Nat.pow_pos (by decide),Zx _,fun x=>by rw[Ku];rfl,acH.nil,fun _ h=>(nomatch h)⟩
 |@snoc fs d f r m o p =>
 obtain⟨j,_,i,n,l⟩:=p;obtain⟨a,F⟩:=acg.mp o;have e:d+f=bW (nm W) (pk W d++pk W f):=by rw[<- iw _ _ _ fun x k z=>F.apart k z.2 z.1,eO c j,eO c a]
 refine⟨by rw[e];exact lY _,by rw[d_];exact m,fun x=>?_,?_,fun g b=>?_⟩
 ·rw[e,kj c,z_,aaD,u_,u_,<- i x];simp only[J_,aaA,aac,List.flatten_nil,W_];exact⟨fun z=>z.2,fun z=>⟨z.elim iu iu,z⟩⟩
 ·rw[z_];refine n.snoc ?_;rw[g_];exact F.congr i fun x=>Iff.rfl
 rcases u_.mp b with b | b
 ·exact l g b
 rw[i_.mp b];exact a
def Frw.of (g:v6 W):∀{D:List (List Str)},D.length<=W.row.length->(∀s∈D,∀n∈s,n∈nm W)->acH W eG D->Frw W eG (D.map (bW (nm W))) (bW (nm W) D.flatten):=by
 intro D;induction hl:D.length generalizing D with
 |zero=>intro _ _ _;rw[abf.mp hl,aaA,List.flatten_nil,ir];exact .nil
 |succ m q =>
 intro t d F;obtain⟨A,l,rfl⟩:∃A l,D=A++[l]:=⟨D.dropLast,D.getLast (by intro z;rw[z] at hl;cases hl),(aaS _).symm⟩;have i:A.length=m:=by simp at hl;exact hl
 have o:acH W eG A:=fun k s e=>by
  have j:k<A.length:=by
   rcases aa6 k A.length with z | z
   ·exact z
   rw[N_ z] at e;cases e
  have:=F k s (by rw[Zn j];exact e)
  rwa [abi (by omega)] at this
 have r:=q i (by omega) (fun s h=>d s (U_ _ h)) o;have f:=F A.length l (by rw[Q_ (m_ _)];simp);rw[List.take_left' rfl] at f;have a:=d l (by simp);have b:∀n∈A.flatten,n∈nm W:=fun n c=>by obtain⟨s,h,c⟩:=Z_.mp c;exact d s (U_ _ h) n c
 have:=Frw.snoc r (by rw[g_];omega) (f:=bW (nm W) l) (acg.mpr ⟨lY _,by
  rw[g_]
  exact f.congr (fun x=>by rw[kj g];exact⟨fun z=>⟨b x z,z⟩,fun z=>z.2⟩) fun x=>by rw[kj g];exact⟨fun z=>⟨a x z,z⟩,fun z=>z.2⟩⟩)
 rw[iw _ _ _ fun x p z=>f.apart p z.2 z.1] at this;rw[z_,aaD];simpa using this
def pU (d:v6 W):∀x∈nm W,x∈pk W (top2 W - 1):=fun x a=>by
 have b:bW (nm W) (nm W)=top2 W - 1:=by
  have:=gU (nm W) (nm W) [] fun y c=>by simp [c]
  rw[ir,cY] at this;unfold top2;omega
 rw[<- b,kj d];exact⟨a,a⟩
def km (h:∀x∈nm W,x∈A):bW (nm W) A=top2 W - 1:=by
 have:=gU (nm W) A [] fun y a=>by simp [h y a]
 rw[ir,cY] at this;unfold top2;omega
def Frw.dok (b:v6 W) (r:Frw W eG fs (top2 W - 1)):Dok W (fs.map (pk W))/\acH W eG (fs.map (pk W)):=by
 obtain⟨_,g,e,d,_⟩:=r.ok b;have c:∀s∈fs.map (pk W),s.Nodup/\∀n∈s,n∈W.tasks.map (·.1):=fun s h=>by obtain⟨i,_,rfl⟩:=A_.mp h;exact⟨WQ b i,fun n a=>iu a⟩
 refine⟨⟨by rw[g_];exact g,fun x f=>?_,Kr d c,fun n a=>(e n).mp (pU b n a)⟩,d⟩;obtain⟨s,h,a⟩:=Z_.mp f;exact (c s h).2 x a
def Frw.ofD (b:v6 W) (h:Dok W D) (F:acH W eG D):Frw W eG (D.map (bW (nm W))) (top2 W - 1):=by
 have:=Frw.of b h.rw (fun s a=>(h.in a).2) F
 rwa [km h.al] at this
def bJ (i:Nat):T:=.int (i:Int)
def wkF (W:Wk) (eG:Int) (p:Addr):List (Str × T):=[("works",W.enc),("beat",.int eG),("rules",.ref p),("whole",.int ((top2 W:Int) - 1))]
structure Wlk (C:Addr) (W:Wk) (eG:Int) (H:lO) (a:Addr):Prop where
 ex:∃p,H a=some (.ins C (wkF W eG p))/\H p=some (.lst (W.tasks.map (ruT W (W.tasks.map (·.1)))))
def Wlk.sub (h:Wlk C W eG H a) (s:eH H H'):Wlk C W eG H' a:=by
 obtain⟨p,b,c⟩:=h.ex;exact⟨p,s _ _ b,s _ _ c⟩
def uH:aP "works" (wkF W eG p)=some W.enc:=rfl
def Kv:aP "beat" (wkF W eG p)=some (.int eG):=by unfold wkF aP;rw[if_neg (by decide +kernel)];unfold aP;rw[if_pos rfl]
def Gf:aP "rules" (wkF W eG p)=some (.ref p):=by unfold wkF aP;rw[if_neg (by decide +kernel)];unfold aP;rw[if_neg (by decide +kernel)];unfold aP;rw[if_pos rfl]
def uI:aP "whole" (wkF W eG p)=some (.int ((top2 W:Int) - 1)):=by unfold wkF aP;rw[if_neg (by decide +kernel)];unfold aP;rw[if_neg (by decide +kernel)];unfold aP;rw[if_neg (by decide +kernel)];unfold aP;rw[if_pos rfl]
def Gg (h:m∉(["works","beat","rules","whole"]:List Str)):aP m (wkF W eG p)=none:=by
 simp only[x_,Ze,aaB,not_or] at h;unfold wkF;simp only[aP];rw[if_neg (Ne.symm h.1),if_neg (Ne.symm h.2.1),if_neg (Ne.symm h.2.2.1),if_neg (Ne.symm h.2.2.2)]
def WR (a:v6 W) (h:i<top2 W):numOf (W.tasks.map (·.1)) (pk W i)=(i:Int):=by
 rw[cI];exact T_ Int.ofNat (eO a h)
def qZ (a:v6 W):top2 W<=256:=Nat.pow_le_pow_right (n:=2) (by decide) a.t8
def nj (W:Wk):0<top2 W:=Nat.pow_pos (by decide)
def Nz:Sp3:=fun ts H Q=>∃N:Nat,ts=[.int (N:Int)]/\N<256/\∀p,H p=none->Q (.ref p) (fY H p (.lst ((uF N).map bJ)))
def WT (C:Addr):Sp3:=fun ts H Q=>∃(a:Addr) (W:Wk) (eG:Int),ts=[.ref a,W.enc,.int eG]/\v6 W/\H a=some (.ins C [])/\∀H',(∀b o,b≠a->H b=some o->H' b=some o)->Wlk C W eG H' a->Q .non H'
def WW (C:Addr):Sp3:=fun ts H Q=>∃(a:Addr) (W:Wk) (eG:Int) (k d:Nat),ts=[.ref a,.int (k:Int),.int (d:Int)]/\v6 W/\Wlk C W eG H a/\k<W.row.length/\d<top2 W/\∀p,H p=none->Q (.ref p) (fY H p (.lst ((fls W eG k d).map bJ)))
def WX (C:Addr):Sp3:=fun ts H Q=>∃(a:Addr) (W:Wk) (eG:Int) (fs:List Nat),ts=[.ref a,.tup (fs.map bJ)]/\v6 W/\Wlk C W eG H a/\fs.length<=8/\(∀f∈fs,f<top2 W)/\Q (.tup ((fs.map (pk W)).map sT)) H
section
variable {α:Type}
def dH (k:Nat):List (Nat × α)->Option α
 |[]=>none
 | (k',v)::r=>if k'=k then some v else dH k r
def putN (k:Nat) (v:α) (E:List (Nat × α)):List (Nat × α) :=
 if (E.any fun e=>decide (e.1=k))=true then E.map (fun e=>if e.1=k then (e.1,v) else e) else E++[(k,v)]
def dI (a:α->T) (E:List (Nat × α)):List (Int × T):=E.map fun e=>((e.1:Int),a e.2)
def SJ (a:α->T) (E:List (Nat × α)):(dI a E).length=E.length:=g_ _
def q8 (a:α->T) (k:Nat):∀E:List (Nat × α),dq (k:Int) (dI a E)=(dH k E).map a
 |[]=>rfl
 | (k',v)::r=>by
  have b:=q8 a k r
  unfold dI at b ⊢
  rw[J_]
  unfold dq dH
  by_cases h:k'=k
  ·
   rw[if_pos h,if_pos (show ((k':Nat):Int)=(k:Int) by rw[h])];rfl
  ·
   rw[if_neg h,if_neg (show ¬((k':Nat):Int)=(k:Int) by omega),b]
def SM (a:α->T) (k:Nat) (v:α) (E:List (Nat × α)):wJ (k:Int) (a v) (dI a E)=dI a (putN k v E):=by
 have b:((dI a E).any fun c=>decide (c.1=(k:Int)))=E.any fun e=>decide (e.1=k):=by unfold dI;rw[List.any_map];congr 1;funext e;show decide ((e.1:Int)=(k:Int))=decide (e.1=k);rw[aau];omega
 unfold wJ putN;rw[b];split
 ·unfold dI;rw[Zh,Zh];refine ZM fun e _=>?_;show (if (e.1:Int)=(k:Int) then ((e.1:Int),a v) else ((e.1:Int),a e.2))=_;show _=((((if e.1=k then (e.1,v) else e).1:Nat):Int),a (if e.1=k then (e.1,v) else e).2);by_cases h:e.1=k
  ·rw[if_pos h,if_pos (by rw[h])]
  rw[if_neg h,if_neg (by omega)]
 unfold dI;rw[z_];rfl
def gF:∀{E:List (Nat × α)},dH k E=some v->(k,v)∈E
 | (k',v')::r,h=>by
  unfold dH at h
  by_cases e:k'=k
  ·
   rw[if_pos e] at h;cases h;subst e;exact l_
  ·
   rw[if_neg e] at h;exact q_ _ (gF h)
def nq:∀{E:List (Nat × α)},dH k E=none->∀e∈E,e.1≠k
 | (k',v')::r,h,e,a=>by
  unfold dH at h
  by_cases z:k'=k
  ·
   rw[if_pos z] at h;cases h
  ·
   rw[if_neg z] at h
   rcases x_.mp a with rfl | a
   ·
    exact z
   ·
    exact nq h e a
def Av (k:Nat) (v:α) (E:List (Nat × α)):(putN k v E).map (·.1)=if k∈E.map (·.1) then E.map (·.1) else E.map (·.1)++[k]:=by
 have a:(E.any fun e=>decide (e.1=k))=decide (k∈E.map (·.1)):=by rw[Zk,aal,n_,A_];exact⟨fun ⟨e,h,z⟩=>⟨e,h,ZR z⟩,fun ⟨e,h,z⟩=>⟨e,h,L_ z⟩⟩
 unfold putN;rw[a];by_cases h:k∈E.map (·.1)
 ·rw[if_pos h,if_pos (L_ h),Zh];refine ZM fun e _=>?_;show (if e.1=k then (e.1,v) else e).1=e.1;split <;> rfl
 rw[if_neg h,if_neg (jF h),z_];rfl
def uJ {e:Nat × α} (h:e∈putN k v E):e=(k,v)\/(e∈E/\e.1≠k)\/(e∈E/\k∉E.map (·.1)):=by
 unfold putN at h;split at h
 ·obtain⟨x,a,rfl⟩:=A_.mp h;by_cases z:x.1=k
  ·rw[if_pos z,z];exact .inl rfl
  rw[if_neg z];exact .inr (.inl ⟨a,z⟩)
 rename_i b;rcases u_.mp h with h | h
 ·refine .inr (.inr ⟨h,fun z=>b ?_⟩);obtain⟨x,a,e⟩:=A_.mp z;exact aal.mpr ⟨x,a,L_ e⟩
 exact .inl (i_.mp h)
def Gh (k:Nat) (v:α) (E:List (Nat × α)):(k,v)∈putN k v E:=by
 unfold putN;split
 ·rename_i h;obtain⟨x,a,e⟩:=aal.mp h;refine A_.mpr ⟨x,a,?_⟩;have:=ZR e;rw[if_pos this,this]
 exact V_ _ (i_.mpr rfl)
def Gi {e:Nat × α} (h:e∈E) (a:e.1≠k):e∈putN k v E:=by
 unfold putN;split
 ·exact A_.mpr ⟨e,h,if_neg a⟩
 exact U_ _ h
def yU {E:List (Nat × α)} (h:(E.map (·.1)).Nodup):((putN k v E).map (·.1)).Nodup:=by
 rw[Av];split
 ·exact h
 rename_i z;exact fM h z
def yV:∀{E:List (Nat × α)},(E.map (·.1)).Nodup->(k,v)∈E->dH k E=some v
 | (k',v')::r,nd,h=>by
  rw[J_,ZP] at nd
  unfold dH
  rcases x_.mp h with e | h
  ·
   cases e;rw[if_pos rfl]
  ·
   rw[if_neg (fun z=>nd.1 (by rw[z];exact A_.mpr ⟨_,h,rfl⟩))]
   exact yV nd.2 h
end
abbrev Ev:=List (Nat × Int × List Nat)
def ldN (W:Wk) (i:Nat):Int:=bG W.tasks (pk W i)
def stp (W:Wk) (d:Nat) (v:Int × List Nat) (B:Ev) (f:Nat):Ev:=match dH (d+f) B with
 |none=>putN (d+f) (v.1+ldN W f^2,v.2++[f]) B
 |some u=>if v.1+ldN W f^2<u.1 then putN (d+f) (v.1+ldN W f^2,v.2++[f]) B else B
def Frw.inv (r:Frw W eG b d) (a:b.length=k+1):∃fs d' f,b=fs++[f]/\d=d'+f/\Frw W eG fs d'/\fs.length=k/\f∈fls W eG k d':=by
 cases r with
 |nil=>cases a
 |@snoc fs d' f r e c =>
  have:fs.length=k:=by rw[d_] at a;simp at a;exact a
  exact⟨fs,d',f,rfl,rfl,r,this,by rw[<- this];exact c⟩
def Frw.nil0 (r:Frw W eG a d) (h:a=[]):d=0:=by
 cases r with
 |nil=>rfl
 |@snoc fs d' f r b c=>exact absurd h (by simp)
def Kz (b:v6 W) (c:d<top2 W) (h:f∈fls W eG k d):d+f<top2 W:=by
 obtain⟨a,F⟩:=acg.mp h;have e:d+f=bW (nm W) (pk W d++pk W f):=by rw[<- iw _ _ _ fun x g z=>F.apart g z.2 z.1,eO b c,eO b a]
 rw[e];exact lY _
def Wlk.frz {W:Wk}{eG:Int}{H:lO}{a q:Addr}{o:O3}{E:List (Int × T)} (h:Wlk C W eG H a) (c:H q=some (.dci E)):Wlk C W eG (fY H q o) a:=by
 obtain⟨p,b,d⟩:=h.ex;exact⟨p,by rw[aD (ne3 b c (by simp))];exact b,by rw[aD (ne3 d c (by simp))];exact d⟩
def Kb1 (a:Addr) (H H':lO):Prop:=∀b u,b≠a->H b=some u->H' b=some u
def Kb1.new (k:Kb1 a H H') (d:H' p=none):Kb1 a H (fY H' p o):=fun b u c h=>by rw[aD (bz (k b u c h) d)];exact k b u c h
def Kb1.put (k:Kb1 a H H'):Kb1 a H (fY H' a o):=fun b u c h=>by rw[aD c];exact k b u c h
def Kb1.wlk (k:Kb1 c H H') (d:H c=none) (h:Wlk C W eG H a):Wlk C W eG H' a:=by
 obtain⟨p,b,e⟩:=h.ex;exact⟨p,k _ _ (bz b d) b,k _ _ (bz e d) e⟩
structure Hol (W:Wk) (f:Str->Nat):Prop where
 ord:∀o∈W.orders,f o.1<=f o.2
 pai:∀p∈W.pairs,f p.2.1=f p.2.2↔p.1="with"
 kin:∀t∈W.tasks,iU t.2.2 (W.row.getD (f t.1) "")=true
def Hol.congr (d:v6 W) (h:Hol W f) (e:∀n∈nm W,f n=g n):Hol W g :=
 ⟨fun o b=>by
  have q:=d.oo o b
  rw[<- e _ q.2.1,<- e _ q.2.2];exact h.ord o b,fun p a=>by
  have q:=d.pp p a
  rw[<- e _ q.2.2.1,<- e _ q.2.2.2];exact h.pai p a,fun t c=>by
  rw[<- e _ (A_.mpr ⟨t,c,rfl⟩)];exact h.kin t c⟩
def ldF (ts:List (Str × Int × List Str)) (f:Str->Nat) (k:Nat):Int:=((ts.filter fun t=>decide (f t.1=k)).map (·.2.1)).sum
def lds (W:Wk) (f:Str->Nat) (m:Nat):List Int:=(List.range m).map (ldF W.tasks f)
def pW (e:∀t∈ts,f t.1=g t.1) (k:Nat):ldF ts f k=ldF ts g k:=by
 have:(ts.filter fun t=>decide (f t.1=k))=ts.filter fun t=>decide (g t.1=k):=ZS fun t a=>by rw[e t a]
 unfold ldF;rw[this]
def Aw (e:∀n∈nm W,f n=g n) (m:Nat):lds W f m=lds W g m :=
 ZM fun k _=>pW (fun t a=>e _ (A_.mpr ⟨t,a,rfl⟩)) k
def iy (A:List (Str × Int × List Str)) (t:Str × Int × List Str) (f:Str->Nat) (k:Nat):ldF (A++[t]) f k=ldF A f k+if f t.1=k then t.2.1 else 0:=by
 unfold ldF;rw[ZG,z_,List.sum_append];by_cases h:f t.1=k <;> simp [h]
def KD (h:f t.1<m):((List.range m).map (ldF A f)).set (f t.1) (ldF A f (f t.1)+t.2.1)=(List.range m).map (ldF (A++[t]) f):=by
 apply aa5;intro i;by_cases a:i<m
 ·rw[B_,Zg a];by_cases e:i=f t.1
  ·subst e;rw[ZW (by rw[g_,C_];exact a),aa3,iy,if_pos rfl]
  rw[aag (Ne.symm e),B_,Zg a,aa3,aa3,iy,if_neg (Ne.symm e),Int.add_zero]
 rw[N_ (by rw[abE,g_,C_];omega),N_ (by rw[g_,C_];omega)]
def Gj (a:k<m):(acs ns f m)[k]?=some (ns.filter fun n=>decide (f n=k)):=by
 unfold acs;rw[B_,Zg a];rfl
def Gk (d:v6 W) (b:m<=W.row.length) (a:∀n,f n<m):∀n∈nm W,fD (acs (nm W) f m) n=f n:=fun n c =>
 fW (kh d (List.Perm.refl _) b a).nd (Gj (a n)) (E_.mpr ⟨c,L_ rfl⟩)
def nu:bG W.tasks ((nm W).filter fun n=>decide (f n=k))=ldF W.tasks f k:=by
 have e:(W.tasks.filter fun t=>decide (t.1∈(nm W).filter fun n=>decide (f n=k)))=W.tasks.filter fun t=>decide (f t.1=k):=ZS fun t a=>by rw[aau,E_,n_];exact⟨fun z=>z.2,fun z=>⟨A_.mpr ⟨t,a,rfl⟩,z⟩⟩
 unfold bG ldF;rw[e]
def Gm (a:v6 W) (j:m<=W.row.length) (o:∀n,f n<m) (h:Hol W f) (r:∀l∈lds W f m,l<=eG):acH W eG (acs (nm W) f m):=by
 have d:Dok W (acs (nm W) f m):=kh (W:=W) a (List.Perm.refl _) j o;have e:=Gk a j o;have c:=h.congr a (g:=fD (acs (nm W) f m)) fun n q=>(e n q).symm;refine (uD a d).mp ⟨c.ord,c.pai,fun k s i t u b=>?_,fun s b=>?_⟩
 ·have:=fW d.nd i b;have:=c.kin t u
  rwa [fW d.nd i b] at this
 obtain⟨k,p,rfl⟩:=A_.mp b;show bG W.tasks ((nm W).filter fun n=>decide (f n=k))<=eG
 rw[nu];exact r _ (A_.mpr ⟨k,p,rfl⟩)
def gfl (W:Wk) (eG:Int) (k d:Nat):List Nat:=(gre bN (fls W eG k d)).reverse
def q9 (h:f∈gfl W eG k d):f∈fls W eG k d:=qY _ _ (List.mem_reverse.mp h)
def KH (h:f∈fls W eG k d):∃g∈gfl W eG k d,bN g f=true:=by
 obtain⟨g,a,e⟩:=yQ Aq _ f h;exact⟨g,List.mem_reverse.mpr a,e⟩
def Gn (h:x∈bx W t) (a:t∈nm W):t∈bx W x:=by
 unfold bx at h ⊢;rw[E_,@n_ _ (Classical.propDecidable _)] at h ⊢;exact⟨a,h.2.2,h.2.1⟩
def KJ (h:x∈bx W t):x∈nm W:=(E_.mp h).1
def Frw.grp (h:v6 W) (r:Frw W eG fs d) (g:t∈pk W d) (k:x∈bx W t):x∈pk W d:=by
 obtain⟨_,_,c,l,_⟩:=r.ok h;obtain⟨s,e,a⟩:=Z_.mp ((c t).mp g);obtain⟨j,m⟩:=aaw e;obtain⟨u,i,b⟩:=A_.mp (iu g);have f:=(l j s m).one u i (by rw[b];exact a);exact (c x).mpr (Z_.mpr ⟨s,e,f.2.2.1 x (by rw[b];exact k)⟩)
def xj (c:∀t∈ts,0<=t.2.1) (h:∀x∈a,x∈S):bG ts a<=bG ts S:=by
 unfold bG;induction ts with
 |nil=>exact Int.le_refl _
 |cons t r f =>
  have i:=f fun u e=>c u (q_ _ e)
  have g:=c t l_
  rw[aam,aam]
  by_cases b:t.1∈a
  ·
   rw[if_pos (L_ b),if_pos (L_ (h _ b)),J_,J_,aaz,aaz]
   omega
  ·
   rw[if_neg (jF b)]
   by_cases d:t.1∈S
   ·
    rw[if_pos (L_ d),J_,aaz];omega
   ·
    rw[if_neg (jF d)];exact i
def Fil.more (k:v6 W) (f:Fil W eG a D S) (g:∀x∈D,x∈c) (m:∀t x,t∈c->x∈bx W t->x∈c):Fil W eG a c (S.filter fun x=>decide (x∉c)) :=
 ⟨fun t e d=>by
  rw[E_,n_] at d
  obtain⟨n,h,i,l,j⟩:=f.one t e d.1
  refine⟨d.2,h,fun x b=>?_,fun x b=>?_,fun x b z=>j x b (E_.mp z).1⟩
  ·
   rw[E_,n_]
   exact⟨i x b,fun z=>d.2 (m x t.1 z (Gn b (A_.mpr ⟨t,e,rfl⟩)))⟩
  ·
   by_cases z:x∈c
   ·
    exact .inr z
   ·
    exact .inl (E_.mpr ⟨(l x b).resolve_right fun q=>z (g x q),L_ z⟩),
  Int.le_trans (xj (fun t e=>by have:=(k.tk t e).lo;omega) fun x b=>(E_.mp b).1) f.ld⟩
abbrev Wy:=List (Nat × List Nat)
def iV (d:Nat) (v:List Nat) (B:Wy) (f:Nat):Wy:=match dH (d+f) B with
 |none=>putN (d+f) (v++[f]) B
 |some _=>B
def wbh (W:Wk) (eG:Int) (k:Nat) (E:Wy):Wy:=E.foldl (fun B e=>(gfl W eG k e.1).foldl (iV e.1 e.2) B) []
def wys (W:Wk) (eG:Int):Nat->Wy
 |0=>[(0,[])]
 |k+1=>wbh W eG k (wys W eG k)
structure Wtb (W:Wk) (eG:Int) (k:Nat) (E:Wy):Prop where
 nd:(E.map (·.1)).Nodup
 ok:∀e∈E,Frw W eG e.2 e.1/\e.2.length=k
 al:∀fs d,Frw W eG fs d->fs.length=k->∃e∈E,∀x∈pk W d,x∈pk W e.1
structure WtI (W:Wk) (eG:Int) (k:Nat) (sub:Nat->Nat->Prop) (B:Wy):Prop where
 nd:(B.map (·.1)).Nodup
 ok:∀e∈B,Frw W eG e.2 e.1/\e.2.length=k+1
 al:∀d f,sub d f->∃e∈B,e.1=d+f
def WtI.step {eG:Int}{k:Nat}{sub:Nat->Nat->Prop}{B:Wy}{d:Nat}{v:List Nat}{f:Nat} (h:WtI W eG k sub B) (j:Frw W eG v d) (i:v.length=k) (n:k<W.row.length) (m:f∈fls W eG k d):
  WtI W eG k (fun d' c=>sub d' c\/(d'=d/\c=f)) (iV d v B f):=by
 have g:Frw W eG (v++[f]) (d+f)/\(v++[f]).length=k+1 :=
  ⟨.snoc j (by omega) (by rw[i];exact m),by rw[d_,i];rfl⟩
 unfold iV;cases e:dH (d+f) B with
 |none =>
  refine⟨yU h.nd,fun x a=>?_,fun d' c b=>?_⟩
  ·rcases uJ a with rfl | ⟨a,_⟩ | ⟨a,_⟩
   ·exact g
   ·exact h.ok x a
   exact h.ok x a
  rcases b with b | ⟨rfl,rfl⟩
  ·obtain⟨x,a,l⟩:=h.al d' c b;exact⟨x,Gi a (nq e x a),l⟩
  exact⟨_,Gh _ _ _,rfl⟩
 |some u =>
 refine⟨h.nd,h.ok,fun d' c b=>?_⟩;rcases b with b | ⟨rfl,rfl⟩
 ·exact h.al d' c b
 exact⟨_,gF e,rfl⟩
def WtI.inner (o:Frw W eG v d) (m:v.length=k) (l:k<W.row.length):
  ∀{xs:List Nat},(∀f∈xs,f∈fls W eG k d)->WtI W eG k sub B->WtI W eG k (fun d' a=>sub d' a\/(d'=d/\a∈xs)) (xs.foldl (iV d v) B):=by
 intro xs;induction xs generalizing sub B with
 |nil=>intro _ h;exact⟨h.nd,h.ok,fun d' a c=>h.al d' a (c.resolve_right fun z=>nomatch z.2)⟩
 |cons f r p =>
 intro i h;have e:=p (fun g n=>i g (q_ _ n)) (h.step o m l (i f l_));refine⟨e.nd,e.ok,fun d' a c=>e.al d' a ?_⟩;rcases c with c | ⟨j,b⟩
 ·exact .inl (.inl c)
 rcases x_.mp b with b | b
 ·exact .inl (.inr ⟨j,b⟩)
 exact .inr ⟨j,b⟩
def WtI.outer (g:k<W.row.length):∀{xs:Wy}{sub:Nat->Nat->Prop}{B:Wy},(∀e∈xs,Frw W eG e.2 e.1/\e.2.length=k)->WtI W eG k sub B ->
  WtI W eG k (fun d f=>sub d f\/((∃v,(d,v)∈xs)/\f∈gfl W eG k d)) (xs.foldl (fun B e=>(gfl W eG k e.1).foldl (iV e.1 e.2) B) B)
 |[],_,_,_,h=>⟨h.nd,h.ok,fun d f a=>h.al d f (a.resolve_right fun z=>z.1.elim fun _ q=>nomatch q)⟩
 |e::r,sub,B,hx,h=>by
  obtain⟨j,i⟩:=hx e l_
  have q:=WtI.outer g (xs:=r) (fun x b=>hx x (q_ _ b)) (WtI.inner (xs:=gfl W eG k e.1) j i g (fun f m=>q9 m) h)
  refine⟨q.nd,q.ok,fun d f a=>q.al d f ?_⟩
  rcases a with a | ⟨⟨v,l⟩,c⟩
  ·
   exact .inl (.inl a)
  ·
   rcases x_.mp l with z | z
   ·
    rw[<- z] at *
    exact .inl (.inr ⟨rfl,c⟩)
   ·
    exact .inr ⟨⟨v,z⟩,c⟩
def Gp (a:v6 W) (c:d<top2 W) (h:f∈fls W eG k d):x∈pk W (d+f)↔x∈pk W d\/x∈pk W f:=by
 obtain⟨b,F⟩:=acg.mp h;have e:d+f=bW (nm W) (pk W d++pk W f):=by rw[<- iw _ _ _ fun x g z=>F.apart g z.2 z.1,eO a c,eO a b]
 rw[e,kj a,u_];exact⟨fun z=>z.2,fun z=>⟨z.elim iu iu,z⟩⟩
def Gq (a:v6 W) (h:Wtb W eG k E) (D:k<W.row.length):Wtb W eG (k+1) (wbh W eG k E):=by
 have q:=WtI.outer (W:=W) (eG:=eG) D (xs:=E) (sub:=fun _ _=>False) (B:=[]) h.ok ⟨aaY,fun _ z=>(nomatch z),fun _ _ z=>z.elim⟩;refine⟨q.nd,q.ok,fun fs d r C=>?_⟩;obtain⟨I,d',f,rfl,rfl,w,j,v⟩:=r.inv C;obtain⟨e,p,s⟩:=h.al I d' w j;have u:=(h.ok e p).1;have l:=(u.ok a).1;obtain⟨G,F⟩:=acg.mp v;have H:=F.more a s fun t x J m=>u.grp a J m;have i:bW (nm W) ((pk W f).filter fun x=>decide (x∉pk W e.1))∈fls W eG k e.1:=acg.mpr ⟨lY _,H.congr (fun x=>Iff.rfl) fun x=>by rw[kj a];exact⟨fun z=>⟨iu (E_.mp z).1,z⟩,fun z=>z.2⟩⟩;obtain⟨g,o,A⟩:=KH i;have b:=q9 o;obtain⟨x,m,K⟩:=q.al e.1 g (.inr ⟨⟨e.2,p⟩,o⟩);have n:=(acg.mp b).1;refine⟨x,m,fun y L=>?_⟩;rw[K,Gp a l b];rcases (Gp a (w.ok a).1 v).mp L with z | z
 ·exact .inl (s y z)
 by_cases c:y∈pk W e.1
 ·exact .inl c
 refine .inr ?_;rw[<- eO a n,uE] at A;exact A y (iu z) (E_.mpr ⟨z,L_ c⟩)
def wtb (b:v6 W):∀{k:Nat},k<=W.row.length->Wtb W eG k (wys W eG k)
 |0,_=>⟨by simp [wys],fun e f=>by rw[i_.mp f];exact⟨.nil,rfl⟩,fun fs d r c=>by
   refine⟨(0,[]),i_.mpr rfl,fun x a=>?_⟩
   rw[r.nil0 (abf.mp c)] at a
   exact a⟩
 |k+1,h=>Gq b (wtb b (by omega)) (by omega)
structure WOk (W:Wk) (n:Nat) (E:Wy):Prop where
 nd:(E.map (·.1)).Nodup
 lt:∀e∈E,e.1<top2 W/\e.2.length<=n/\∀f∈e.2,f<top2 W
def WOk.len (h:WOk W n E):E.length<=top2 W:=by
 have:=qT (l:=E.map (·.1)) (m:=List.range (top2 W)) h.nd fun x a=>by obtain⟨e,b,rfl⟩:=A_.mp a;exact Zf.mpr (h.lt e b).1
 rwa [g_,C_] at this
def WOk.stp (i:v6 W) (h:WOk W (n+1) B) (j:d<top2 W) (l:v.length<=n) (c:∀f∈v,f<top2 W) (e:f∈fls W eG k d):WOk W (n+1) (iV d v B f):=by
 unfold iV;split
 ·refine⟨yU h.nd,fun x a=>?_⟩;rcases uJ a with rfl | ⟨a,_⟩ | ⟨a,_⟩
  ·refine⟨Kz i j e,by rw[d_];simp;exact l,fun g b=>?_⟩;rcases u_.mp b with b | b
   ·exact c g b
   rw[i_.mp b];exact (acg.mp e).1
  ·exact h.lt x a
  exact h.lt x a
 exact h
def Wtb.wok (a:v6 W) (h:Wtb W eG k E):WOk W k E:=⟨h.nd,fun e d=>by
 obtain⟨r,f⟩:=h.ok e d;obtain⟨c,_,_,_,b⟩:=r.ok a;exact⟨c,by omega,b⟩⟩
def KN (a:v6 W) (c:m<=W.row.length):(dH (top2 W - 1) (wys W eG m)).isSome=true↔∃fs,Frw W eG fs (top2 W - 1)/\fs.length=m:=by
 have T:=wtb (eG:=eG) a c;constructor
 ·intro h;obtain⟨v,e⟩:=abz.mp h;have:=T.ok _ (gF e);exact⟨v,this.1,this.2⟩
 rintro⟨fs,r,f⟩;obtain⟨e,b,h⟩:=T.al fs _ r f;have g:e.1=top2 W - 1:=by rw[<- eO a ((T.ok e b).1.ok a).1];exact km fun x d=>h x (pU a x d)
 have:=yV T.nd (show (e.1,e.2)∈wys W eG m from b);rw[g] at this;rw[this];rfl
abbrev Wk.nms (W:Wk):List Str:=W.tasks.map (·.1)
variable {f:Str->Str}{W W2:Wk}
def KQ (h:p↔q):@decide p i=@decide q j:=by
 by_cases a:p
 ·rw[L_ a,L_ (h.mp a)]
 rw[I_ a,I_ fun z=>a (h.mpr z)]
def Gr {x y:Str}(h:x.cps.toList=y.cps.toList):x=y:=by cases x;cases y;simp at h;simp [h]
def Gs (h:leS x y) (g:leS y x):x=y:=Gr (PyProof.Rows.KeyOrd.kle_antisymm h g)
def KR {g u v:List Str}(i:u.Perm g) (c:u.Pairwise leS) (d:v.Perm g) (f:v.Pairwise leS):u=v :=
 (i.trans d.symm).eq_of_pairwise (fun a b _ _ e h=>Gs e h) c f
def adS:x∈bx W t↔x∈W.nms/\RT (lkR ["with"] W) t x/\RT (lkR ["with"] W) x t:=by
 unfold bx;rw[E_,@n_ _ (Classical.propDecidable _)]
def SN (h:u∈bx W t):bx W u=bx W t:=by
 obtain⟨_,c,d⟩:=adS.mp h;unfold bx;exact ZS fun x _=>KQ ⟨fun ⟨a,b⟩=>⟨c.trans a,b.trans d⟩,fun ⟨a,b⟩=>⟨d.trans a,b.trans c⟩⟩
def ada:g∈j7 W↔∃t∈W.nms,bx W t=g:=by
 unfold j7;rw[A_];constructor
 ·rintro⟨t,a,rfl⟩;exact⟨t,(E_.mp a).1,rfl⟩
 rintro⟨t,a,rfl⟩;have c:=j8 (W:=W) a;cases e:bx W t with
 |nil=>rw[e] at c;cases c
 |cons u r =>
  have b:u∈bx W t:=by rw[e];exact l_
  have d:=SN b
  exact⟨u,E_.mpr ⟨(adS.mp b).1,by rw[d,e];simp⟩,d.trans e⟩
def Wk.turn (W:Wk):Wk:=⟨W.tasks,W.orders.map fun o=>(o.2,o.1),W.pairs,W.row.reverse⟩
def Gu:∀(xs a:List Str),(a++xs).Nodup->kst a xs=a++xs
 |[],a,_=>(W_ a).symm
 |n::r,a,h=>by
  show kst (lG a n) r=_
  have b:n∉a:=fun z=>by rw[aae] at h;exact h.2.2 n z n l_ rfl
  unfold lG
  rw[if_neg b,Gu r (a++[n]) (by rw[Zt];exact h),Zt]
  rfl
def WY (h:D.flatten.Nodup):kD D=D.flatten:=by
 unfold kD;rw[Gu _ _ (by simpa using h)];rfl
def Dok.pm (b:v6 W) (h:Dok W D):D.flatten.Perm (nm W):=(List.perm_ext_iff_of_nodup h.nd b.nd).mpr fun a=>⟨h.st a,h.al a⟩
def Dok.fl (a:v6 W) (h:Dok W D):D.flatten.length<=8:=by
 rw[(h.pm a).length_eq,cY];exact a.t8
def Dok.lt (h:Dok W D) (a:n∈nm W):fD D n<D.length:=by
 obtain⟨k,s,e,b⟩:=jO (h.al n a);rw[fW h.nd e b];rcases aa6 k D.length with z | z
 ·exact z
 rw[N_ z] at e;cases e
def Dok.ldF (h:Dok W D) (e:D[k]?=some s):bG W.tasks s=ldF W.tasks (fD D) k:=by
 rw[<- nu];refine lA fun x=>?_;rw[E_,n_];constructor
 ·intro a;exact⟨h.st x (Z_.mpr ⟨s,Y_ e,a⟩),fW h.nd e a⟩
 rintro⟨a,d⟩;obtain⟨f,g,b,c⟩:=jO (h.al x a);have:=fW h.nd b c;rw[d] at this;subst this;rw[e] at b;cases b;exact c
def Rgt.lds (h:Dok W D) (r:Rgt W eG D (fD D)):∀l∈lds W (fD D) D.length,l<=eG:=fun l a=>by
 obtain⟨k,b,rfl⟩:=A_.mp a;have e:=e_ (Zf.mp b);rw[<- h.ldF e];exact r.bea _ (Zw _)
def Rgt.kd (h:Dok W D) (r:Rgt W eG D (fD D)) (b:t∈W.tasks):iU t.2.2 (W.row.getD (fD D t.1) "")=true:=by
 obtain⟨k,s,e,a⟩:=jO (h.al t.1 (A_.mpr ⟨t,b,rfl⟩));rw[fW h.nd e a];exact r.kin k s e t b a
def KY (ns:List Str) (f:Str->Nat):(dN ns f).map (·.1)=ns:=by
 unfold dN;rw[Zh];exact List.map_id'' (fun _=>rfl) ns
def KZ (f:Str->Nat) (n:Nat):(List.replicate n [T.int 0]).flatten=((List.range n).map (ldF ([]:List (Str × Int × List Str)) f)).map T.int:=by
 induction n with
 |zero=>rfl
 |succ n a =>
 rw[List.replicate_succ',aaD,a,List.range_succ,z_,z_];rfl
def W0:Sp3:=fun ts H Q=>∃(W:Wk) (eG:Int) (D:List (List Str)),ts=[W.enc,.int eG,.tup (D.map sT)]/\v6 W/\Dok W D/\Rgt W eG D (fD D)/\Q (.bl true) H
def W3:Sp3:=fun ts H Q=>∃(W:Wk) (eG:Int) (m:Nat) (D:List (List Str)),ts=[W.enc,.int eG,.int (m:Int),.tup (D.map sT)]/\v6 W/\D.length=m/\(∀s∈D,(nm W).filter (fun n=>decide (n∈s))=s)/\Dok W D/\Rgt W eG D (fD D)/\Q (.bl true) H
def K1:OpR X (binaryOp .Add) (fun x y H Q=>∃l b xs d,x=.ref l/\y=.ref b/\SqL X.K H l xs/\H b=some (.lst d)/\xs.length+d.length<=sizeLine/\∀p,H p=none->Q (.ref p) (upd H p (.lst (xs++d)))):=by
 intro m s Z H x y v u Q I z J h;obtain⟨l,b,xs,d,rfl,rfl,o,G,O,q⟩:=h;cases z;cases J;obtain⟨c,r,⟨⟨t,L,g,w⟩,n,e,f,k,j⟩,M⟩:=I.list o;obtain⟨N,a,E,D,A,i⟩:=I.lstM G;simp only at f k j;subst f k j;have B:=r.length;refine concat_meets ⟨_,e,rfl⟩ ⟨_,i,rfl⟩ noFill_list_add seq_list_add PySem.F.slot_list_add PySem.F.entry_list_add (PySem.F.args_list_add_2 _ _) (list_addW l b c.toArray a.toArray n E none none w #[] (by rw[p_,p_];omega)) ⟨e,i,?_⟩;have C:c.toArray++a.toArray=(c++a).toArray:=by simp
 rw[C];exact⟨.ref _,_,I.lnew (t':=s.toks) (r.append D) (by rw[d_];omega),rfl,q _ I.fresh⟩
def SQ (o u:Option O3) (H:lO) (Q:My):Prop:=match o,u with
 |some (.rol xs),some (.lst ys)=>xs.length+ys.length<=sizeLine/\∀p,H p=none->Q (.ref p) (fY H p (.lst (xs++ys)))
 |_,_=>False
def Gv:R3:=fun x y H Q=>match x,y with
 |.ref a,.ref b=>SQ (H a) (H b) H Q
 |_,_=>False
def S5 (a b:Addr):Gv (.ref a) (.ref b) H Q=SQ (H a) (H b) H Q:=rfl
def Gw (xs a:List T):SQ (some (.rol xs)) (some (.lst a)) H Q=(xs.length+a.length<=sizeLine/\∀p,H p=none->Q (.ref p) (fY H p (.lst (xs++a)))):=rfl
def yW:d8 X (binaryOp .Add) Gv:=by
 refine OpR.imp K1 ?_;rintro x y H Q ⟨l,q,H3,j,n,o,c,h,k⟩;cases l with
 |ref a =>
  cases q with
  |ref b =>
   have h':(match H3 a,H3 b with
    |some (.rol xs),some (.lst e)=>xs.length+e.length<=sizeLine/\∀p,H3 p=none->j (.ref p) (fY H3 p (.lst (xs++e)))
    |_,_=>False):=h
   split at h'
   ·
    rename_i xs e r i
    obtain⟨vs,s,g⟩:=c.sqL (.inr r)
    obtain⟨ws,m,f⟩:=c b _ i
    refine⟨a,b,vs,ws,n.ref,o.ref,s,m,by rw[<- g.length,<- f.length];exact h'.1,fun p d=>?_⟩
    exact k _ _ _ _ (aN d) (c.newLst d (g.append f)) .ofRef (h'.2 p (c.fresh d))
   ·
    exact h'.elim
  |_=>exact h.elim
 |_=>exact h.elim
def rvO (o:Option O3) (a:Addr) (H:lO) (Q:My):Prop:=match o with
 |some (.lst xs)=>Q .non (fY H a (.lst xs.reverse))
 |_=>False
def NB:T->List T->lO->My->Prop:=fun x ts H Q=>match x,ts with
 |.ref a,[]=>rvO (H a) a H Q
 |_,_=>False
def W4 (a:Addr):NB (.ref a) [] H Q=rvO (H a) a H Q:=rfl
def W5 (xs:List T) (a:Addr):rvO (some (.lst xs)) a H Q=Q .non (fY H a (.lst xs.reverse)):=rfl
def Gx:vM X "list.reverse" NB:=by
 refine MtR.imp vJ ?_;rintro x xs H Q ⟨i,ts,H3,g,d,c,f,h,k⟩
 match i,ts,h,d,c with
 |.ref a,[],h,d,c =>
  have h':rvO (H3 a) a H3 g:=h
  cases e:H3 a with
  |none=>rw[e] at h';exact h'.elim
  |some o =>
   rw[e] at h'
   cases o with
   |lst l =>
    obtain⟨j,b,r⟩:=f a _ e
    exact⟨a,j,d.ref,c.inv0,b,k _ _ _ _ (bM (by rw[b];exact trivial)) (f.wrL b r.reverse) .ofNon h'⟩
   |_=>exact h'.elim
def S6 (ts:List T) (i:Int):ixH (some (.rol ts)) i H Q=oq (atI ts i) fun t=>Q t H:=rfl
def S7 (xs:List T):lnH (some (.rol xs)) H Q=Q (.int xs.length) H:=rfl
def Gy:Sp3:=fun ts H Q=>∃(a:Addr) (ns:List Int) (k:Nat),ts=[.ref a,.int (k:Int)]/\H a=some (.rol (ns.map T.int))/\ns.length<=63/\k<64/\∀c:Int,Q (.int c) H
def S8:Sp3:=fun ts H Q=>∃c:Int,ts=[.int c]/\∀x,isNm x->Q (.str x) H
def rm {ns:List Int} (h:i<ns.length):∃c:Int,atI (ns.map T.int) (i:Int)=some (T.int c):=⟨ns[i],by rw[cB (by rw[B_,e_ h];rfl)]⟩
def jP {xs:List Str}:di false (T.str x) (xs.map T.str)=decide (x∈xs):=by
 unfold di;rw[if_neg G_,aau,A_];exact⟨fun ⟨y,h,e⟩=>by cases e;exact h,fun h=>⟨x,h,rfl⟩⟩
def S9:Sp3:=fun ts H Q=>∃(a:Addr) (ws:List Str),ts=[.ref a]/\H a=some (.lst (ws.map T.str))/\ws.length<=8/\(∀x∈ws,isNm x)/\∀us:List Str,us.length=ws.length->Nms us->∀p,H p=none->Q (.ref p) (fY H p (.lst (us.map T.str)))
def nmL (b:List Nat) (s i:Nat):Str:=mkS (b++[97+(s+i)%26])
def Tc (h:b.length<=7) (d:∀c∈b,97<=c/\c<=122):isNm (nmL b s i):=by
 refine Nu (by rw[d_];simp) (by rw[d_];simp;exact h) fun c a=>?_;rcases u_.mp a with a | a
 ·exact d c a
 rw[i_.mp a];have:=Nat.mod_lt (s+i) (show 0<26 by decide);omega
def K3 (a:i<26) (c:j<26) (h:nmL b s i=nmL b s j):i=j:=by
 have e:=Ke h;rw[List.append_cancel_left_eq,List.cons.injEq] at e;omega
def K4 (h:isNm x):∃(b:List Nat) (s:Nat),x=nmL b s 0/\b.length<=7/\s<26/\∀c∈b,97<=c/\c<=122:=by
 obtain⟨l,rfl⟩:=RM x;have e:=h.lo;have f:=h.hi;have d:=h.az;rw[dw] at e f;rw[iQ] at d;have a:l≠[]:=by intro z;rw[z] at e;exact absurd e (by decide)
 have j:=d _ (List.getLast_mem a);have i:l.dropLast.length+1=l.length:=by rw[List.length_dropLast];omega
 refine⟨l.dropLast,l.getLast a - 97,?_,by omega,by omega,fun c g=>d c ((List.dropLast_subset l) g)⟩;unfold nmL;rw[Nat.add_zero,Nat.mod_eq_of_lt (by omega),show 97+(l.getLast a - 97)=l.getLast a by omega,aaS]
def Td (b:List Nat) (c:Nat):Txt.slice (mkS (b++[c])) none (some (-1))=mkS b:=by
 have e:=StrLaws.sliceText_neg_hi (mkS (b++[c])) none (j:=-1) (by decide) (by rw[dw,d_];simp;omega);have l : -1+((mkS (b++[c])).length:Int)=(b.length:Int):=by rw[dw,d_];simp;omega
 rw[l] at e;have t:=WF (b++[c]) b.length (by rw[d_];omega);rw[List.take_left' rfl] at t;exact e.trans t
def K5 (b:List Nat) (s i:Nat):(nmL b s i).length=b.length+1:=by unfold nmL;rw[dw,d_];rfl
def K6 (b:List Nat) (s i:Nat):(nmL b s i).cps.toList=b++[97+(s+i)%26]:=rfl
def W6:Sp3:=fun ts H Q=>∃c:Int,ts=[.int c]/\∀us:List Str,us.length=8->Nms us->∀p,H p=none->Q (.ref p) (fY H p (.lst (us.map T.str)))
def W7:Sp3:=fun ts H Q=>∃(c:Int) (j i:Addr) (a b:List Str) (d:Int),ts=[.int c,.ref j,.ref i,.int d]/\H j=some (.lst (a.map T.str))/\1<=a.length/\a.length<=8/\(∀x∈a,isNm x)/\H i=some (.lst (b.map T.str))/\b.length=8/\(∀x∈b,isNm x)/\1<=d/\d<=10^57 /\
 ∀(s:Nat) (h e:Int) (f:List Str) (g:Str),s<a.length->0<=h->h<8->1<=e->e<10^60->Nms f->f.length<=4->(f=[]\/a.getD s ""∈f)->isNm g->Q (.tup [.int (s:Int),.int h,.int e,sT f,.str g]) H
def lZ {ns:List Str} (h:i<ns.length):atI (ns.map T.str) (i:Int)=some (T.str (ns.getD i "")):=by
 rw[cB (by rw[B_,e_ h];rfl),h_,e_ h];rfl
def getD_memS {ns:List Str} (h:i<ns.length):ns.getD i ""∈ns:=by
 rw[h_,e_ h];exact Zw h
abbrev Tk5:=Nat × Int × Int × List Str × Str
def tk5 (t:Tk5):T:=.tup [.int (t.1:Int),.int t.2.1,.int t.2.2.1,sT t.2.2.2.1,.str t.2.2.2.2]
structure Lnk (ns:List Str) (sts:List Nat) (O:List (Str × Str)) (P:List (Str × Str × Str)):Prop where
 ol:O.length<=28
 od:O.Nodup
 oo:∀o∈O,∃i j,i≠j/\ns[i]?=some o.1/\ns[j]?=some o.2/\sts.getD i 0<=sts.getD j 0
 pl:P.length<=12
 pd:P.Nodup
 pp:∀p∈P,∃i j,i≠j/\ns[i]?=some p.2.1/\ns[j]?=some p.2.2/\((p.1="with"/\sts.getD i 0=sts.getD j 0)\/(p.1="apart"/\sts.getD i 0≠sts.getD j 0))
def W8:Sp3:=fun ts H Q=>∃(a c ps:Addr) (d:List Int) (ns:List Str) (b:List Tk5),ts=[.ref a,.ref c,.ref ps]/\H a=some (.rol (d.map T.int))/\d.length<=63/\H c=some (.lst (ns.map T.str))/\Nms ns/\ns.length<=8/\H ps=some (.lst (b.map tk5))/\b.length=ns.length/\∀O P,Lnk ns (b.map (·.1)) O P->Q (.tup [.tup (O.map orT),.tup (P.map prT)]) H
structure Rnk (ns:List Str) (ss:List Tk5) (us:List (Int × Int × Int)):Prop where
 l:us.length=ns.length
 ex:∃ix:Nat->Nat,(∀p<ns.length,ix p<ns.length/\us[p]?=some ((((ss.map (·.1)).getD (ix p) 0:Nat):Int),(us.getD p (0,0,0)).2.1,(ix p:Int)))/\(∀p q,p<q->q<ns.length->ix p≠ix q/\(ss.map (·.1)).getD (ix p) 0<=(ss.map (·.1)).getD (ix q) 0)
def Te {f:List Tk5} (H:f.length=ns.length) (s:us.Perm ((List.range ns.length).map fun k=>((((f.map (·.1)).getD k 0:Nat):Int),((f.map (·.2.1)).getD k 0:Int),(k:Int)))) (D:us.Pairwise JX):Rnk ns f us:=by
 have i:us.length=ns.length:=by rw[s.length_eq,g_,C_]
 have a:∀x∈us,∃k,k<ns.length/\x=((((f.map (·.1)).getD k 0:Nat):Int),((f.map (·.2.1)).getD k 0:Int),(k:Int)):=fun x E=>by obtain⟨k,o,e⟩:=A_.mp (s.mem_iff.mp E);exact⟨k,Zf.mp o,e.symm⟩
 have r:(us.map (·.2.2)).Nodup:=by refine (s.map (·.2.2)).nodup_iff.mpr ?_;rw[Zh,List.Nodup,List.pairwise_map];refine List.Pairwise.imp (fun {x y} h e=>h ?_) (List.nodup_range (n:=ns.length));have:(x:Int)=(y:Int):=e;omega
 refine⟨i,fun p=>(us.getD p (0,0,0)).2.2.toNat,fun p h=>?_,fun p q m G=>?_⟩
 ·have u:us[p]?=some us[p]:=e_ (by omega);obtain⟨k,o,e⟩:=a _ (Zw (show p<us.length by omega));have g:us.getD p (0,0,0)=us[p]:=by rw[h_,u];rfl
  have j:(us.getD p (0,0,0)).2.2.toNat=k:=by rw[g,e];exact aab k
  dsimp only;refine⟨by rw[j];exact o,?_⟩;rw[j,u,g,e]
 have b:p<us.length:=by omega
 have d:q<us.length:=by omega
 obtain⟨k,o,e⟩:=a _ (Zw b);obtain⟨v,C,t⟩:=a _ (Zw d);have F:us.getD p (0,0,0)=us[p]:=by rw[h_,e_ b];rfl
 have A:us.getD q (0,0,0)=us[q]:=by rw[h_,e_ d];rfl
 have B:(us.getD p (0,0,0)).2.2.toNat=k:=by rw[F,e];exact aab k
 have w:(us.getD q (0,0,0)).2.2.toNat=v:=by rw[A,t];exact aab v
 dsimp only;rw[B,w];constructor
 ·intro z;have l:=(aaF.mp r) p q (by rw[g_];exact b) (by rw[g_];exact d) m;rw[aaI,aaI,e,t,z] at l;exact l rfl
 have c:=(aaF.mp D) p q b d m;unfold JX KeyOrd.kle at c;rw[e,t] at c;dsimp only[ac9] at c;rw[aat] at c;omega
def Dn (p q a b:Nat):Prop:=a<p\/(a=p/\b<q)
structure Lk1 (nmO:Nat->Str) (wd:Nat->Nat->Str) (m p q:Nat) (O:List (Str × Str)) (P:List (Str × Str × Str)):Prop where
 od:O.Nodup
 oo:∀o∈O,∃p' q',p'<q'/\q'<m/\Dn p q p' q'/\o=(nmO p',nmO q')
 pd:P.Nodup
 pp:∀x∈P,∃p' q',p'<q'/\q'<m/\Dn p q p' q'/\(x=(wd p' q',nmO p',nmO q')\/x=(wd p' q',nmO q',nmO p'))
 ol:O.length<=9*p+q
 pl:P.length<=2*(9*p+q)
def Dn.mono (h:Dn p q a c) (d:q<=b):Dn p b a c:=by unfold Dn at *;omega
def Lk1.skip (h:Lk1 c n m p q O P) (r:∀p' q',q'<m->Dn p q p' q'->Dn l e p' q') (g:9*p+q<=9*l+e):Lk1 c n m l e O P :=
 ⟨h.od,fun o i=>by obtain⟨a,b,k,d,f,j⟩:=h.oo o i;exact⟨a,b,k,d,r a b d f,j⟩,h.pd,fun o i=>by obtain⟨a,b,k,d,f,j⟩:=h.pp o i;exact⟨a,b,k,d,r a b d f,j⟩,R_ h.ol g,R_ h.pl (by omega)⟩
def Lk1.step (h:Lk1 c d m p q O P) (t:∀i j,i<m->j<m->c i=c j->i=j) (k:p<q) (y:q<m) (u r v:Bool):
  Lk1 c d m p (q+1) (bif u then O++[(c p,c q)] else O) (bif v then (bif r then P++[(d p q,c p,c q)] else P)++[(d p q,c q,c p)] else (bif r then P++[(d p q,c p,c q)] else P)):=by
 have D:Dn p (q+1) p q:=.inr ⟨rfl,ZZ q⟩;have N:(c p,c q)∉O:=fun z=>by obtain⟨a,b,Q,J,A,l⟩:=h.oo _ z;rw[aay] at l;have L:=t _ _ (by omega) (by omega) l.1;have M:=t _ _ (by omega) (by omega) l.2;unfold Dn at A;omega
 have C:∀w,(w,c p,c q)∉P/\(w,c q,c p)∉P:=fun w=>by
  constructor;all_goals
   intro z
   obtain⟨a,b,Q,J,A,l⟩:=h.pp _ z
   rw[aay,aay,aay,aay] at l
   unfold Dn at A
   rcases l with ⟨_,E,F⟩ | ⟨_,E,F⟩
   all_goals
    have L:=t _ _ (by omega) (by omega) E
    have M:=t _ _ (by omega) (by omega) F
    omega
 have h':Lk1 c d m p (q+1) O P:=h.skip (fun _ _ _ z=>z.mono (aaE q)) (by omega);have B:∀(P':List (Str × Str × Str)),(P'=P\/P'=P++[(d p q,c p,c q)])->P'.Nodup/\(∀x∈P',∃n g,n<g/\g<m/\Dn p (q+1) n g/\(x=(d n g,c n,c g)\/x=(d n g,c g,c n)))/\P'.length<=2*(9*p+q)+1/\(d p q,c q,c p)∉P':=by
  intro P' R;rcases R with rfl | rfl
  ·exact⟨h.pd,h'.pp,Nat.le_succ_of_le h.pl,(C _).2⟩
  refine⟨fM h.pd (C _).1,fun x s=>?_,by rw[d_];simp;exact h.pl,fun z=>?_⟩
  ·rcases u_.mp s with s | s
   ·exact h'.pp x s
   exact⟨p,q,k,y,D,.inl (i_.mp s)⟩
  rcases u_.mp z with z | z
  ·exact (C _).2 z
  have:=i_.mp z;rw[aay,aay] at this;have e:=t _ _ (by omega) (by omega) this.2.1;omega
 obtain⟨H,I,S,K⟩:=B (bif r then P++[(d p q,c p,c q)] else P) (by cases r <;> simp);generalize (bif r then P++[(d p q,c p,c q)] else P)=G at *;refine⟨?_,?_,?_,?_,?_,?_⟩
 ·cases u
  ·exact h.od
  exact fM h.od N
 ·cases u
  ·exact h'.oo
  intro o f;rcases u_.mp f with f | f
  ·exact h'.oo o f
  exact⟨p,q,k,y,D,i_.mp f⟩
 ·cases v
  ·exact H
  exact fM H K
 ·cases v
  ·exact I
  intro o f;rcases u_.mp f with f | f
  ·exact I o f
  exact⟨p,q,k,y,D,.inr (i_.mp f)⟩
 ·cases u
  ·exact h'.ol
  show (O++[_]).length<=_;rw[d_];have:=h.ol;simp;omega
 cases v
 ·show G.length<=_;omega
 show (G++[_]).length<=_;rw[d_];simp;omega
def xm {R:TS3}{p1 f a:Prop} (j:p1) (g:f) (i:a) (h:∀(b:Bool) (H':lO),H'=(bif b then e else d)->R D Z H'):if c=true then p1/\f/\a/\R D Z e else R D Z d:=by
 cases c
 ·rw[if_neg G_];exact h false _ rfl
 rw[if_pos rfl];exact⟨j,g,i,h true _ rfl⟩
def Gz {R:TS3} (e:p1) (h:∀(b:Bool) (H':lO),H'=(bif b then d else a)->R D Z H'):if c=true then p1/\R D Z d else R D Z a:=by
 cases c
 ·rw[if_neg G_];exact h false _ rfl
 rw[if_pos rfl];exact⟨e,h true _ rfl⟩
structure LkH (H3 H:lO) (pk po pq:Addr) (us:List (Int × Int × Int)) (O:List (Str × Str)) (P:List (Str × Str × Str)):Prop where
 sb:eH H3 H
 k:H pk=some (.lst (us.map trT))
 o:H po=some (.lst (O.map orT))
 p:H pq=some (.lst (P.map prT))
 no:H3 po=none
 np:H3 pq=none
 ko:pk≠po
 kp:pk≠pq
 op:po≠pq
def LkH.new {pk b pq x:Addr} (h:LkH H3 H pk b pq us O P) (a:H x=none):LkH H3 (fY H x u) pk b pq us O P :=
 ⟨h.sb.trans (eH.new a),eH.new a _ _ h.k,eH.new a _ _ h.o,eH.new a _ _ h.p,h.no,h.np,h.ko,h.kp,h.op⟩
def LkH.putO {pk a pq:Addr} (h:LkH H3 H pk a pq us O P):LkH H3 (fY H a (.lst (O'.map orT))) pk a pq us O' P :=
 ⟨fun b u c=>by rw[aD (bz c h.no)];exact h.sb b u c,by rw[aD h.ko];exact h.k,aq,by rw[aD (Ne.symm h.op)];exact h.p,h.no,h.np,h.ko,h.kp,h.op⟩
def LkH.putP {pk a pq:Addr} (h:LkH H3 H pk a pq us O P):LkH H3 (fY H pq (.lst (P'.map prT))) pk a pq us O P' :=
 ⟨fun b u c=>by rw[aD (bz c h.np)];exact h.sb b u c,by rw[aD h.kp];exact h.k,by rw[aD h.op];exact h.o,aq,h.no,h.np,h.ko,h.kp,h.op⟩
def W9 (m:Nat):List (Nat × Nat):=(List.range m).flatMap fun q=>(List.range q).map fun p=>(p,q)
def GC:∀m:_root_.Fin 9,(W9 m.val).length<=28:=by decide
def Tf {d:List Tk5}{c:Nat->Nat}{P P':List (Str × Str × Str)}{n:Nat->Nat->Str} (D:ns.length<=8) (C:∀p<ns.length,c p<ns.length) (v:∀p q,p<q->q<ns.length->c p≠c q/\(d.map (·.1)).getD (c p) 0<=(d.map (·.1)).getD (c q) 0) (j:∀p<ns.length,ns[c p]?=some (g p)) (B:∀p q,n p q=if (d.map (·.1)).getD (c p) 0=(d.map (·.1)).getD (c q) 0 then "with" else "apart") (h:Lk1 g n ns.length p q O P) (t:O'.Perm O) (u:P'.Perm P):Lnk ns (d.map (·.1)) O' (P'.take 12):=by
 refine⟨?_,t.nodup_iff.mpr h.od,fun o A=>?_,?_,(List.take_sublist 12 P').nodup (u.nodup_iff.mpr h.pd),fun x s=>?_⟩
 ·rw[t.length_eq];have:=qT (l:=O) (m:=(W9 ns.length).map fun z=>(g z.1,g z.2)) h.od fun x s=>by obtain⟨a,b,k,i,_,rfl⟩:=h.oo x s;exact A_.mpr ⟨(a,b),List.mem_flatMap.mpr ⟨b,Zf.mpr i,A_.mpr ⟨a,Zf.mpr k,rfl⟩⟩,rfl⟩
  rw[g_] at this;have:=GC ⟨ns.length,by omega⟩;dsimp only at this;omega
 ·obtain⟨a,b,k,i,_,rfl⟩:=h.oo o (t.mem_iff.mp A);obtain⟨r,w⟩:=v a b k i;exact⟨c a,c b,r,j a (by omega),j b i,w⟩
 ·rw[Z0];omega
 obtain⟨a,b,k,i,_,y⟩:=h.pp x (u.mem_iff.mp (List.mem_of_mem_take s));obtain⟨r,w⟩:=v a b k i;have f:=B a b;have key:(n a b="with"/\(d.map (·.1)).getD (c a) 0=(d.map (·.1)).getD (c b) 0)\/(n a b="apart"/\(d.map (·.1)).getD (c a) 0≠(d.map (·.1)).getD (c b) 0):=by
  by_cases e:(d.map (·.1)).getD (c a) 0=(d.map (·.1)).getD (c b) 0
  ·rw[if_pos e] at f;exact .inl ⟨f,e⟩
  rw[if_neg e] at f;exact .inr ⟨f,e⟩
 rcases y with rfl | rfl
 ·exact⟨c a,c b,r,j a (by omega),j b i,key⟩
 exact⟨c b,c a,Ne.symm r,j b i,j a (by omega),key.imp (fun z=>⟨z.1,z.2.symm⟩) fun z=>⟨z.1,Ne.symm z.2⟩⟩
def nA {c b:Type}{f:c->T}{g:b->T}:∀(xs:List c) (a:List b),gP (xs.map f) (a.map g)=(xs.zip a).map fun z=>.tup [f z.1,g z.2]
 |[],_=>rfl
 |_::_,[]=>rfl
 |x::xs,y::a=>by rw[J_,J_,gP,nA xs a];rfl
structure Fit (W:Wk) (sts:List Nat):Prop where
 l:sts.length=W.tasks.length
 lt:∀s∈sts,s<W.row.length
 kd:∀(i:Nat) (t:Str × Int × List Str),W.tasks[i]?=some t->t.2.2=[]\/W.row.getD (sts.getD i 0) ""∈t.2.2
 lk:Lnk (W.tasks.map (·.1)) sts W.orders W.pairs
def Xa:Sp3:=fun ts H Q=>∃(a:Addr) (d:List Int) (c b:Int),ts=[.ref a,.int c,.int b]/\H a=some (.rol (d.map T.int))/\d.length<=63/\1<=c/\c<=8/\1<=b/\b<=8/\∀(W:Wk) (sts:List Nat),v6 W->(W.tasks.length:Int)<=c->(W.row.length:Int)<=b->Fit W sts->∀p,H p=none->Q (.tup [W.enc,.ref p]) (fY H p (.lst (sts.map fun (s:Nat)=>T.int (s:Int))))
structure TkO (row:List Str) (t:Tk5):Prop where
 s:t.1<row.length
 lo:1<=t.2.2.1
 hi:t.2.2.1<10^60
 ks:Nms t.2.2.2.1
 kl:t.2.2.2.1.length<=4
 kd:t.2.2.2.1=[]\/row.getD t.1 ""∈t.2.2.2.1
 nm:isNm t.2.2.2.2
def mkW (ns:List Str) (b:List Tk5) (O:List (Str × Str)) (P:List (Str × Str × Str)) (a:List Str):Wk:=⟨(ns.zip b).map fun z=>(z.1,z.2.2.2.1,z.2.2.2.2.1),O,P,a⟩
def Tg (A:Nms ns) (J:b.length=ns.length) (Q:1<=ns.length) (M:ns.length<=8) (B:∀t∈b,TkO a t) (w:1<=a.length) (C:a.length<=8) (v:∀x∈a,isNm x) (f:Lnk ns (b.map (·.1)) O P):
  v6 (mkW ns b O P a)/\Fit (mkW ns b O P a) (b.map (·.1))/\(mkW ns b O P a).tasks.length=ns.length:=by
 have k:(mkW ns b O P a).tasks.map (·.1)=ns:=by show ((ns.zip b).map fun z=>(z.1,z.2.2.2.1,z.2.2.2.2.1)).map (·.1)=ns;rw[Zh];show (ns.zip b).map (fun z=>z.1)=ns;exact List.map_fst_zip (by omega)
 have n:(mkW ns b O P a).tasks.length=ns.length:=by
  have:=T_ List.length k
  rwa [g_] at this
 have H:∀(i:Nat) (t:Str × Int × List Str),(mkW ns b O P a).tasks[i]?=some t->∃u,b[i]?=some u/\ns[i]?=some t.1/\t.2=(u.2.2.1,u.2.2.2.1):=fun i t e=>by have m:((ns.zip b).map fun z=>(z.1,z.2.2.2.1,z.2.2.2.2.1))[i]?=some t:=e;rw[B_,abl] at m;obtain⟨z,D,rfl⟩:=m;have:=List.getElem?_zip_eq_some.mp D;exact⟨z.2,this.2,this.1,rfl⟩
 have F:∀{i j:Nat} {x y:Str},i≠j->ns[i]?=some x->ns[j]?=some y->x≠y:=fun {i j x y} h c d z=>by
  rw[z,<- d] at c;have E:i<ns.length:=by
   rcases aa6 i ns.length with q | q
   ·exact q
   rw[N_ q,d] at c;cases c
  exact h ((abP E A.nd).mp c)
 refine⟨⟨by rw[n];exact Q,by rw[n];exact M,fun t N=>?_,by rw[k];exact A.nd,f.ol,f.od,fun o I=>?_,f.pl,f.pd,fun p K=>?_,w,C,v⟩,⟨by rw[g_,n,J],fun s h=>?_,fun i t e=>?_,by rw[k];exact f⟩,n⟩
 ·obtain⟨i,E⟩:=aaw N;obtain⟨u,g,c,e⟩:=H i t E;have l:=B u (Y_ g);have G:t.2.1=u.2.2.1:=by rw[e]
  have r:t.2.2=u.2.2.2.1:=by rw[e]
  exact⟨A.nm _ (Y_ c),by rw[G];exact l.lo,by rw[G];exact l.hi,by rw[r];exact l.ks,by rw[r];exact l.kl⟩
 ·obtain⟨i,j,h,c,d,_⟩:=f.oo o I;rw[k];exact⟨F h c d,Y_ c,Y_ d⟩
 ·obtain⟨i,j,h,c,d,D⟩:=f.pp p K;rw[k];exact⟨D.imp (fun z=>z.1) fun z=>z.1,F h c d,Y_ c,Y_ d⟩
 ·obtain⟨u,g,rfl⟩:=A_.mp h;exact (B u g).s
 obtain⟨u,g,_,m⟩:=H i t e;have r:t.2.2=u.2.2.2.1:=by rw[m]
 have L:(b.map (·.1)).getD i 0=u.1:=by rw[h_,B_,g];rfl
 rw[r,L];exact (B u (Y_ g)).kd
def ldZ (L:List Int) (z:(Str × Int × List Str) × Nat):List Int:=L.set z.2 (L.getD z.2 0+z.1.2.1)
def ldS (W:Wk) (sts:List Nat):List Int:=(W.tasks.zip sts).foldl ldZ (List.replicate W.row.length 0)
def yX (L:List Int):∀a:List ((Str × Int × List Str) × Nat),(a.foldl ldZ L).length=L.length:=fun a=>by
 induction a generalizing L with
 |nil=>rfl
 |cons z r b=>rw[List.foldl_cons,b];unfold ldZ;rw[abE]
def K7 (W:Wk) (sts:List Nat):(ldS W sts).length=W.row.length:=by unfold ldS;rw[yX,ZJ]
def Xb:Sp3:=fun ts H Q=>∃(W:Wk) (q:Addr) (sts:List Nat),ts=[W.enc,.ref q]/\v6 W/\H q=some (.lst (sts.map fun (s:Nat)=>T.int (s:Int)))/\sts.length=W.tasks.length/\(∀s∈sts,s<W.row.length)/\∀p,H p=none->Q (.ref p) (fY H p (.lst ((ldS W sts).map T.int)))
def yZ:∀(L:List Int) (i:Nat) (v:Int),i<L.length->(L.set i (L.getD i 0+v)).sum=L.sum+v
 |[],_,_,h=>absurd h (by simp)
 |x::r,0,v,_=>by simp [List.set,aaz];omega
 |x::r,i+1,v,h=>by
  have:=yZ r i v (by simpa using h)
  simp only[List.set_cons_succ,aaz,List.getD_cons_succ,this]
  omega
def za:∀(a:List ((Str × Int × List Str) × Nat)) (L:List Int),(∀z∈a,z.2<L.length)->(a.foldl ldZ L).sum=L.sum+(a.map (·.1.2.1)).sum
 |[],L,_=>by simp
 |z::r,L,h=>by
  rw[List.foldl_cons,za r (ldZ L z) fun y b=>by unfold ldZ;rw[abE];exact h y (q_ _ b)]
  unfold ldZ
  rw[yZ L z.2 z.1.2.1 (h z l_),J_,aaz]
  omega
def GD:∀(b:List ((Str × Int × List Str) × Nat)) (L:List Int),(∀z∈b,0<=z.1.2.1)->(∀x∈L,0<=x)->∀x∈b.foldl ldZ L,0<=x
 |[],L,_,hL=>hL
 |z::r,L,h,hL=>by
  rw[List.foldl_cons]
  refine GD r _ (fun y c=>h y (q_ _ c)) fun x a=>?_
  unfold ldZ at a
  rcases List.mem_or_eq_of_mem_set a with q | q
  ·
   exact hL x q
  ·
   rw[q]
   have f:=h z l_
   have d:0<=L.getD z.2 0:=by
    rw[h_]
    cases e:L[z.2]? with
    |none=>exact Int.le_refl 0
    |some y=>exact hL y (Y_ e)
   omega
def GF (n:Nat):(List.replicate n (0:Int)).sum=0:=by induction n with
 |zero=>rfl
 |succ n a=>rw[ZK,aaz,a];rfl
def Th (c:v6 W):∀x∈ldS W sts,0<=x:=GD _ _ (fun z b=>by have:=(c.tk z.1 (abo b).1).lo;omega) fun x a=>by rw[(List.mem_replicate.mp a).2];exact Int.le_refl 0
def K8 (c:sts.length=W.tasks.length) (h:∀s∈sts,s<W.row.length):(ldS W sts).sum=(W.tasks.map (·.2.1)).sum:=by
 unfold ldS;rw[za _ _ fun z b=>by rw[ZJ];exact h _ (abo b).2,GF];have e:(W.tasks.zip sts).map (·.1.2.1)=W.tasks.map (·.2.1):=by have:=List.map_fst_zip (l₁:=W.tasks) (l₂:=sts) (by omega);have a:=T_ (List.map (·.2.1)) this;rw[Zh] at a;exact a
 rw[e];omega
def K9 (c:v6 W):1<=(W.tasks.map (·.2.1)).sum:=by
 have d:=c.t1;have b:=c.tk;cases e:W.tasks with
 |nil=>rw[e] at d;exact absurd d (by decide)
 |cons t r =>
 rw[e] at b;rw[J_,aaz];have i:=(b t l_).lo;have f:∀l:List (Str × Int × List Str),(∀u∈l,afa u)->0<=(l.map (·.2.1)).sum:=fun l=>by
  induction l with
  |nil=>intro _;exact Int.le_refl _
  |cons u l h =>
  intro a;rw[J_,aaz];have:=h fun v g=>a v (q_ _ g);have:=(a u l_).lo;omega
 have:=f r fun u a=>b u (q_ _ a);omega
def Xc:Sp3:=fun ts H Q=>∃(c:Int) (W:Wk) (q:Addr) (sts:List Nat),ts=[.int c,W.enc,.ref q]/\v6 W/\H q=some (.lst (sts.map fun (s:Nat)=>T.int (s:Int)))/\sts.length=W.tasks.length/\(∀s∈sts,s<W.row.length)/\∀n:Int,0<=n->Q (.int n) H
def Xd:Sp3:=fun ts H Q=>∃(a:Addr) (e:List Int) (d b:Int),ts=[.ref a,.int d,.int b]/\H a=some (.rol (e.map T.int))/\e.length<=63/\1<=d/\d<=8/\1<=b/\b<=8/\∀(W:Wk) (sts:List Nat) (eG c:Int),v6 W->(W.tasks.length:Int)<=d->(W.row.length:Int)<=b->Fit W sts->0<=eG->∀p,H p=none->Q (.tup [W.enc,.ref p,.int eG,.int c]) (fY H p (.lst (sts.map fun (s:Nat)=>T.int (s:Int))))
def fS:List Str->List Nat->Str->Nat
 |x::r,s::q,n=>if x=n then s else fS r q n
 |_,_,_=>0
def NK (a:0<m):∀{ns:List Str}{sts:List Nat},(∀s∈sts,s<m)->fS ns sts n<m
 |[],_,_=>a
 |_::_,[],_=>a
 |x::r,s::q,h=>by
  unfold fS
  split
  ·
   exact h s l_
  ·
   exact NK a fun y b=>h y (q_ _ b)
def pX (a:v6 W) (c:m<=W.row.length) (h:dH (top2 W - 1) (wys W eG m)=some v):Dok W (v.map (pk W))/\Rgt W eG (v.map (pk W)) (fD (v.map (pk W)))/\(v.map (pk W)).length=m/\∀s∈v.map (pk W),(nm W).filter (fun n=>decide (n∈s))=s:=by
 obtain⟨r,e⟩:=(wtb a c).ok _ (gF h);obtain⟨b,F⟩:=r.dok a;refine⟨b,(uD a b).mpr F,by rw[g_];exact e,fun s d=>?_⟩;obtain⟨i,f,rfl⟩:=A_.mp d;rw[<- Ny a,eO a ((r.ok a).2.2.2.2 i f)]
def Can (W:Wk) (m:Nat) (b:Int):Prop:=∃f:Str->Nat,(∀n,f n<m)/\Hol W f/\∀l∈lds W f m,l<=b
def La (d:v6 W) (a:Dok W D) (R:Rgt W eG D (fD D)):Can W D.length eG:=by
 obtain⟨t,c⟩:∃t,t∈W.tasks:=List.exists_mem_of_length_pos (by have:=d.t1;omega);have e:0<D.length:=by have:=a.lt (n:=t.1) (A_.mpr ⟨t,c,rfl⟩);omega
 refine⟨fun n=>if n∈nm W then fD D n else 0,fun n=>?_,?_,?_⟩
 ·show (if n∈nm W then fD D n else 0)<D.length;split
  ·exact a.lt (by assumption)
  exact e
 ·exact Hol.congr (f:=fD D) d ⟨R.ord,R.pai,fun t c=>R.kd a c⟩ fun n b=>by rw[if_pos b]
 rw[Aw (g:=fD D) (fun n b=>by rw[if_pos b]) D.length];exact R.lds a
def zb (a:v6 W) (b:m<=W.row.length):(∃v,dH (top2 W - 1) (wys W eG m)=some v)↔Can W m eG:=by
 constructor
 ·rintro⟨v,e⟩;obtain⟨c,R,i,_⟩:=pX a b e;rw[<- i];exact La a c R
 rintro⟨f,d,h,g⟩;have c:Dok W (acs (nm W) f m):=kh a (List.Perm.refl _) b d;exact abz.mp ((KN a b).mpr ⟨_,Frw.ofD a c (Gm a b d h g),by rw[g_,pN]⟩)
def wyT (v:List Nat):T:=.tup (v.map bJ)
def wyE (e:Nat × List Nat):T:=.tup [.int (e.1:Int),wyT e.2]
def Xe (E:Wy):(dI wyT E).map itT=E.map wyE:=by unfold dI;rw[Zh];rfl
def wbF (W:Wk) (eG:Int) (k:Nat) (B:Wy) (e:Nat × List Nat):Wy:=(gfl W eG k e.1).foldl (iV e.1 e.2) B
def Xf:Sp3:=fun ts H Q=>∃(a:Addr) (fs:List Nat),ts=[.ref a]/\H a=some (.lst (fs.map bJ))/\fs.length<=256/\∀p,H p=none->Q (.ref p) (fY H p (.lst ((gre bN fs).reverse.map bJ)))
def rA (a:b->b->Bool):∀xs:List b,(gre a xs).length<=xs.length
 |[]=>m_ _
 |n::B=>by
  have:=rA a B
  unfold gre
  split
  ·
   rw[j_];omega
  ·
   rw[d_,j_];simp only[j_,Zu];omega
def Xg (C:Addr):Sp3:=fun ts H Q=>∃(a:Addr) (W:Wk) (eG:Int) (k d:Nat),ts=[.ref a,.int (k:Int),.int (d:Int)]/\v6 W/\Wlk C W eG H a/\k<W.row.length/\d<top2 W/\∀p,H p=none->Q (.ref p) (fY H p (.lst ((gfl W eG k d).map bJ)))
def Xh (C:Addr):Sp3:=fun ts H Q=>∃(a q:Addr) (W:Wk) (eG:Int) (k n:Nat) (E:Wy),ts=[.ref a,.int (k:Int),.ref q]/\v6 W/\Wlk C W eG H a/\k<W.row.length/\n<=8/\WOk W n E/\H q=some (.dci (dI wyT E))/\∀o p,H p=none->Q (.ref p) (fY (fY H q (.dif o (dI wyT E))) p (.dci (dI wyT (wbh W eG k E))))
def dtT (W:Wk) (eG:Int) (m:Nat):T:=match dH (top2 W - 1) (wys W eG m) with
 |none=>.non
 |some v=>.tup ((v.map (pk W)).map sT)
def Xi:Sp3:=fun ts H Q=>∃(W:Wk) (eG:Int) (m:Nat),ts=[W.enc,.int eG,.int (m:Int)]/\v6 W/\m<=W.row.length/\Q (dtT W eG m) H
def dV (g:Str->T) (ns:List Str):List (Str × T):=ns.map fun n=>(n,g n)
def rB:∀{ns:List Str},n∈ns->aP n (dV g ns)=some (g n)
 |x::r,h=>by
  unfold dV
  rw[J_]
  unfold aP
  by_cases e:x=n
  ·
   rw[if_pos e,e]
  ·
   rw[if_neg e]
   exact rB (ns:=r) ((x_.mp h).resolve_left (Ne.symm e))
def GJ (h:n∉ns) (e:∀m∈ns,g m=g' m):put3 n (g' n) (dV g ns)=dV g' (ns++[n]):=by
 unfold put3 dV;rw[if_neg (by
  intro e
  rw[aal] at e
  obtain⟨x,b,e⟩:=e
  obtain⟨y,c,rfl⟩:=A_.mp b
  exact h (ZR e▸c)),z_]
 congr 1;exact ZM fun m a=>by rw[e m a]
def dG (g:Str->Addr) (ns:List Str):List (Str × T):=dV (fun n=>T.ref (g n)) ns
def gW (h:n∈ns):aP n (dG g ns)=some (T.ref (g n)):=rB h
def atN {b:Type}(n:Str) (a:b) (g:Str->b):Str->b:=fun m=>if m=n then a else g m
def eQ {a:b}{g:Str->b} (h:m≠n):atN n a g m=g m:=if_neg h
def d7 {a:b}{g:Str->b}:atN n a g n=a:=if_pos rfl
def Ti (h:n∉ns):put3 n (T.ref p) (dG g ns)=dG (atN n p g) (ns++[n]):=by
 have:=GJ (g:=fun n=>T.ref (g n)) (g':=fun m=>T.ref (atN n p g m)) h fun m a=>by rw[show atN n p g m=g m from eQ fun z=>h (z▸a)]
 rw[d7] at this;exact this
structure Ldg (H0 H:lO) (pd:Addr) (A:List Str) (ad:Str->Addr) (L:Str->List Str):Prop where
 sb:eH H0 H
 dc:H pd=some (.dct (dG ad A))
 at_:∀n∈A,H (ad n)=some (.lst ((L n).map T.str))
 ij:∀a∈A,∀b∈A,ad a=ad b->a=b
 nw:∀n∈A,H0 (ad n)=none
 nd:H0 pd=none
def jr (s:eH a H) (h:a p=none):eH a (fY H p o):=fun b u e=>by rw[aD (bz e h)];exact s b u e
section
variable {ad:Str->Addr}{K:List Str}
def Ldg.more (g:Ldg H0 H pd A ad L) (s:eH H H'):Ldg H0 H' pd A ad L:=⟨g.sb.trans s,s _ _ g.dc,fun n a=>s _ _ (g.at_ n a),g.ij,g.nw,g.nd⟩
def Ldg.put (g:Ldg H0 H pd A ad L) (q:n∉A) (k:H p=some (.lst (K.map T.str))) (j:∀m∈A,ad m≠p) (r:H0 p=none):Ldg H0 (fY H pd (.dct (put3 n (T.ref p) (dG ad A)))) pd (A++[n]) (atN n p ad) (atN n K L):=by
 have l:∀{b o},H b=some (.lst o)->b≠pd:=fun h=>ne3 h g.dc (by simp);have i:∀m∈A,m≠n:=fun m c z=>q (z▸c);refine⟨jr g.sb g.nd,by rw[aq,Ti q],fun m c=>?_,fun a f b d e=>?_,fun m c=>?_,g.nd⟩
 ·rcases u_.mp c with c | c
  ·rw[eQ (i m c),eQ (i m c),aD (l (g.at_ m c))];exact g.at_ m c
  rw[i_.mp c,d7,d7,aD (l k)];exact k
 ·rcases u_.mp f with f | f <;> rcases u_.mp d with d | d
  ·rw[eQ (i a f),eQ (i b d)] at e;exact g.ij a f b d e
  ·rw[i_.mp d,eQ (i a f),d7] at e;exact absurd e (j a f)
  ·rw[i_.mp f,eQ (i b d),d7] at e;exact absurd e.symm (j b d)
  rw[i_.mp f,i_.mp d]
 rcases u_.mp c with c | c
 ·rw[eQ (i m c)];exact g.nw m c
 rw[i_.mp c,d7];exact r
def Ldg.app (g:Ldg H0 H pd A ad L) (a:n∈A) (x:Str):Ldg H0 (fY H (ad n) (.lst ((L n).map T.str++[T.str x]))) pd A ad (atN n (L n++[x]) L):=by
 refine⟨jr g.sb (g.nw n a),by rw[aD (Ne.symm (ne3 (g.at_ n a) g.dc (by simp)))];exact g.dc,fun m b=>?_,g.ij,g.nw,g.nd⟩;by_cases e:m=n
 ·rw[e,d7,aq,z_];rfl
 rw[eQ e,aD fun z=>e (g.ij m b n a z)];exact g.at_ m b
end
def Ld1 (W:Wk) (a b:Str):Prop:=∃y,lkR ["with"] W a y/\RT (lkR ["with"] W) y b
def GK (h:a≠b):Ld1 W a b↔RT (lkR ["with"] W) a b:=by
 constructor
 ·rintro⟨y,f,d⟩;exact (RT.step .refl f).trans d
 intro z;induction z with
 |refl=>exact absurd rfl h
 |@step b c f d j =>
 by_cases e:a=b
 ·subst e;exact⟨c,d,.refl⟩
 obtain⟨y,g,i⟩:=j e;exact⟨y,g,i.step d⟩
def Lb {K:Str->List Str} (a:∀n∈nm W,∀x,x∈K n↔Ld1 W n x) (c:t∈nm W):(nm W).filter (fun x=>decide (x=t)||(decide (x∈K t)&&decide (t∈K x)))=bx W t:=by
 refine ZS fun x b=>?_;rw[Zk,Bool.or_eq_true,Zi,n_,n_,n_,@n_ _ (Classical.propDecidable _),a t c,a x b];by_cases e:x=t
 ·subst e;exact⟨fun _=>⟨.refl,.refl⟩,fun _=>.inl rfl⟩
 rw[GK e,GK (Ne.symm e)];exact⟨fun h=>h.resolve_left e,.inr⟩
def zf (c:v6 W) (h:lkR ["with"] W a b):a∈nm W/\b∈nm W:=by
 rcases uC h with h | ⟨p,d,_,e | e⟩
 ·exact (c.oo _ h).2
 ·have:=(c.pp p d).2.2;rw[e] at this;exact this
 have:=(c.pp p d).2.2;rw[e] at this;exact⟨this.2,this.1⟩
structure Gth (W:Wk) (t:Str) (ws ks:List Str):Prop where
 fr:∀x,x∈ws\/x∈ks->Ld1 W t x
 st:∀x,lkR ["with"] W t x->x∈ws\/x∈ks
 cl:∀a b,a∈ks->lkR ["with"] W a b->b∈ws\/b∈ks
 nd:ks.Nodup
def Gth.fin (g:Gth W t [] a) (x:Str):x∈a↔Ld1 W t x:=by
 refine⟨fun h=>g.fr x (.inr h),fun ⟨y,c,b⟩=>?_⟩;have key:∀z,z∈([]:List Str)\/z∈a->z∈a:=fun z h=>h.resolve_left (by simp);have e:∀{u v},RT (lkR ["with"] W) u v->u∈a->v∈a:=fun r d=>by
  induction r with
  |refl=>exact d
  |step _ h f=>exact key _ (g.cl _ _ f h)
 exact e b (key y (g.st y c))
def Gth.old (g:Gth W t (ws++[x]) c) (d:x∈c):Gth W t ws c:=by
 have key:∀z,z∈ws++[x]\/z∈c->z∈ws\/z∈c:=fun z h=>by
  rcases h with h | h
  ·rcases u_.mp h with h | h
   ·exact .inl h
   rw[i_.mp h];exact .inr d
  exact .inr h
 exact⟨fun z h=>g.fr z (h.imp_left fun q=>U_ _ q),fun z h=>key z (g.st z h),fun a b h r=>key b (g.cl a b h r),g.nd⟩
def Gth.new (g:Gth W t (ws++[x]) c) (j:x∉c) (d:∀y,y∈L↔lkR ["with"] W x y):Gth W t (ws++L) (c++[x]):=by
 have e:=g.fr x (.inl (by simp));have key:∀z,z∈ws++[x]\/z∈c->z∈ws++L\/z∈c++[x]:=fun z h=>by
  rcases h with h | h
  ·rcases u_.mp h with h | h
   ·exact .inl (U_ _ h)
   exact .inr (V_ _ h)
  exact .inr (U_ _ h)
 refine⟨fun z h=>?_,fun z h=>key z (g.st z h),fun a b h r=>?_,fM g.nd j⟩
 ·rcases h with h | h <;> rcases u_.mp h with h | h
  ·exact g.fr z (.inl (U_ _ h))
  ·obtain⟨y,i,f⟩:=e;exact⟨y,i,f.step ((d z).mp h)⟩
  ·exact g.fr z (.inr h)
  rw[i_.mp h];exact e
 rcases u_.mp h with h | h
 ·exact key b (g.cl a b h r)
 rw[i_.mp h] at r;exact .inl (V_ _ ((d b).mpr r))
def Xj:q∈lkP ["with"] ("with",a,b)↔q=(a,b)\/q=(b,a):=by
 unfold lkP;rw[if_pos (by simp),x_,i_]
def Xk:Sp3:=fun ts H Q=>∃(W:Wk),ts=[W.enc]/\v6 W/\∀(H':lO) (b:Addr) (a:Str->Addr) (K:Str->List Str),eH H H'->H' b=some (.dct (dG a (nm W)))->(∀n∈nm W,H' (a n)=some (.lst ((K n).map T.str)))->(∀n∈nm W,∀x,x∈K n↔Ld1 W n x)->Q (.ref b) H'
def Xl:Sp3:=fun ts H Q=>∃(W:Wk),ts=[W.enc]/\v6 W/\∀(H':lO) (p:Addr),eH H H'->H' p=some (.lst ((j7 W).map sT))->Q (.ref p) H'
def Tj (a:v6 W) (b:r.length=W.row.length) (c:∀x∈r,x∈W.row):v6 ⟨W.tasks,W.orders,W.pairs,r⟩ :=
 ⟨a.t1,a.t8,a.tk,a.nd,a.os,a.od,a.oo,a.ps,a.pd,a.pp,by show 1<=r.length;rw[b];exact a.r1,by show r.length<=8;rw[b];exact a.r8,fun x d=>a.rn x (c x d)⟩
def Xm:Sp3:=fun ts H Q=>∃(W:Wk) (c:Int),ts=[W.enc,.int c]/\v6 W/\∀r:List Str,r.length=W.row.length->(∀x∈r,x∈W.row)->Q (Wk.enc ⟨W.tasks,W.orders,W.pairs,r⟩) H
def jt:∀{ns:List Str}{sts:List Nat}{i:Nat}{n:Str},ns.Nodup->i<sts.length->ns[i]?=some n->fS ns sts n=sts.getD i 0
 |[],_,_,_,_,_,e=>by simp at e
 |x::r,[],_,_,_,hl,_=>by cases hl
 |x::r,s::q,0,n,_,_,e=>by
  rw[aav,Option.some.injEq] at e
  unfold fS
  rw[if_pos e]
  rfl
 |x::r,s::q,i+1,n,h,hl,e=>by
  rw[aas] at e
  rw[ZP] at h
  unfold fS
  rw[if_neg fun z=>h.1 (by rw[z];exact Y_ e),jt h.2 (Nat.lt_of_succ_lt_succ hl) e]
  simp
structure Mym (W:Wk) (eG:Int) (ps:List Nat) (j:Nat):Prop where
 kin:∀t,W.tasks[ps.length]?=some t->iU t.2.2 (W.row.getD j "")=true
 ld:ldF (W.tasks.take (ps.length+1)) (fS (nm W) (ps++[j])) j<=eG
 ord:∀o∈W.orders,o.1∈(nm W).take (ps.length+1)->o.2∈(nm W).take (ps.length+1)->fS (nm W) (ps++[j]) o.1<=fS (nm W) (ps++[j]) o.2
 pai:∀p∈W.pairs,p.2.1∈(nm W).take (ps.length+1)->p.2.2∈(nm W).take (ps.length+1)->(fS (nm W) (ps++[j]) p.2.1=fS (nm W) (ps++[j]) p.2.2↔p.1="with")
def Way (W:Wk) (eG:Int) (many:Nat) (ps:List Nat):Prop:=∃a:List Nat,ps.length+a.length=W.tasks.length/\(∀s∈a,s<many)/\∀i,i<a.length->Mym W eG (ps++a.take i) (a.getD i 0)
def GP (h:ps.length=W.tasks.length):Way W eG many ps:=⟨[],h,(fun _ h=>nomatch h),fun i a=>absurd a (abp _)⟩
def GQ (h:ps.length<W.tasks.length):Way W eG many ps↔∃j,j<many/\Mym W eG ps j/\Way W eG many (ps++[j]):=by
 constructor
 ·rintro⟨b,e,c,d⟩;cases b with
  |nil=>simp at e;omega
  |cons j b =>
  refine⟨j,c j l_,by simpa using d 0 (by simp),b,by simp at e ⊢;omega,fun s a=>c s (q_ _ a),fun i f=>?_⟩;have:=d (i+1) (by simp;exact f);rw[Zt];simpa using this
 rintro⟨j,k,g,b,e,c,d⟩;refine⟨j::b,by simp at e ⊢;omega,fun s a=>?_,fun i f=>?_⟩
 ·rcases x_.mp a with rfl | a
  ·exact k
  exact c s a
 cases i with
 |zero=>simpa using g
 |succ i =>
  have:=d i (by simpa using f)
  rw[Zt] at this
  simpa using this
def nF {b:Type}{xs:List b}{x:b} (h:x∈xs.take c):∃i,i<c/\xs[i]?=some x:=by
 obtain⟨i,a⟩:=aaw h;rw[abJ] at a;split at a
 ·exact⟨i,by assumption,a⟩
 cases a
def Ld (b:v6 W) (f:c<=a.length) (h:n∈(nm W).take c):fS (nm W) (a.take c) n=fS (nm W) a n:=by
 obtain⟨i,d,e⟩:=nF h;rw[jt (ns:=nm W) b.nd (by rw[Z0];omega) e,jt (ns:=nm W) b.nd (by omega) e,h_,h_,abJ,if_pos d]
def take_snoc {a:List Nat} (h:i<a.length):a.take i++[a.getD i 0]=a.take (i+1):=by
 rw[h_,e_ h,ZD h];rfl
def Le (W:Wk) (c:Nat):(nm W).take c=(W.tasks.take c).map (·.1):=List.map_take.symm
def iz {i:Nat} (h:W.tasks[i]?=some t):(nm W)[i]?=some t.1:=by unfold nm;rw[B_,h];rfl
def zg (y:v6 W) (h:i<c.length) (C:c.length=W.tasks.length) (r:W.tasks[i]?=some t) {f:Str->Nat} (A:∀n∈nm W,f n=fS (nm W) c n):
  Mym W eG (c.take i) (c.getD i 0)↔iU t.2.2 (W.row.getD (f t.1) "")=true/\ldF (W.tasks.take (i+1)) f (f t.1)<=eG/\(∀o∈W.orders,o.1∈(nm W).take (i+1)->o.2∈(nm W).take (i+1)->f o.1<=f o.2)/\∀p∈W.pairs,p.2.1∈(nm W).take (i+1)->p.2.2∈(nm W).take (i+1)->(f p.2.1=f p.2.2↔p.1="with"):=by
 have e:(c.take i).length=i:=by rw[Z0];omega
 have B:fS (nm W) c t.1=c.getD i 0:=jt y.nd h (iz r);have j:f t.1=c.getD i 0:=by rw[A t.1 (Y_ (iz r)),B]
 have d:∀n∈(nm W).take (i+1),fS (nm W) (c.take (i+1)) n=f n:=fun n z=>by rw[Ld y h z,A n (List.mem_of_mem_take z)]
 have x:ldF (W.tasks.take (i+1)) (fS (nm W) (c.take (i+1))) (f t.1)=ldF (W.tasks.take (i+1)) f (f t.1):=pW (fun u q=>d u.1 (by rw[Le];exact A_.mpr ⟨u,q,rfl⟩)) _;constructor
 ·intro m;have w:=m.kin t (by rw[e];exact r);have g:=m.ld;have k:=m.ord;have l:=m.pai;rw[take_snoc h,e] at g k l;rw[<- j,x] at g;refine⟨by rw[j];exact w,g,fun o s a b=>?_,fun p v a b=>?_⟩
  ·rw[<- d _ a,<- d _ b];exact k o s a b
  rw[<- d _ a,<- d _ b];exact l p v a b
 rintro⟨w,g,k,l⟩;refine⟨fun u q=>?_,?_,fun o s=>?_,fun p v=>?_⟩
 ·rw[e,r] at q;cases q;rw[<- j];exact w
 ·rw[take_snoc h,e,<- j,x];exact g
 ·rw[take_snoc h,e];intro a b;rw[d _ a,d _ b];exact k o s a b
 rw[take_snoc h,e];intro a b;rw[d _ a,d _ b];exact l p v a b
def Tn (c:v6 W) {f:Str->Nat}:∀{B:List (Str × Int × List Str)},(∀t∈B,t∈W.tasks)->0<=ldF B f k:=by
 intro B;induction B with
 |nil=>intro _;exact Int.le_refl 0
 |cons t r b =>
 intro h;have i:=b fun u a=>h u (q_ _ a);have d:=(c.tk t (h t l_)).lo;unfold ldF at i ⊢;rw[aam];split
 ·rw[J_,aaz];omega
 exact i
def GR (b:v6 W) {f:Str->Nat}:ldF (W.tasks.take c) f k<=ldF W.tasks f k:=by
 have e:ldF W.tasks f k=ldF (W.tasks.take c) f k+ldF (W.tasks.drop c) f k:=by unfold ldF;rw[<- List.sum_append,<- z_,<- ZG,List.take_append_drop]
 have:=Tn b (f:=f) (k:=k) (B:=W.tasks.drop c) fun t a=>List.mem_of_mem_drop a;omega
def Lf (g:v6 W) (I:0<=eG):Way W eG many []↔∃f:Str->Nat,(∀n,f n<many)/\Hol W f/\∀l∈lds W f many,l<=eG:=by
 have M:=g.t1;constructor
 ·rintro⟨j,C,D,A⟩;rw[Zu,Nat.zero_add] at C;have F:0<many:=aaJ (Zx _) (D (j[0]'(by omega)) (Zw _));have st:∀i t,W.tasks[i]?=some t->_:=fun i t b=>by
   have d:i<j.length:=by
    rcases aa6 i W.tasks.length with z | z
    ·omega
    rw[N_ z] at b;cases b
   have:=A i d;rw[aa2] at this;exact (zg g d C b (f:=fS (nm W) j) fun _ _=>rfl).mp this
  have b:∃t,W.tasks[W.tasks.length - 1]?=some t:=⟨_,e_ (by omega)⟩;obtain⟨N,v⟩:=b;have a:=st _ _ v;rw[show W.tasks.length - 1+1=W.tasks.length by omega,abm (show (nm W).length<=W.tasks.length by rw[cY];exact m_ _)] at a;refine⟨fS (nm W) j,fun n=>NK F D,⟨fun o m=>?_,fun p q=>?_,fun t b=>?_⟩,fun l x=>?_⟩
  ·exact a.2.2.1 o m (g.oo o m).2.1 (g.oo o m).2.2
  ·exact a.2.2.2 p q (g.pp p q).2.2.1 (g.pp p q).2.2.2
  ·obtain⟨i,d⟩:=aaw b;exact (st i t d).1
  obtain⟨k,L,rfl⟩:=A_.mp x;have G:∀c,c<=W.tasks.length->ldF (W.tasks.take c) (fS (nm W) j) k<=eG:=fun c=>by
   induction c with
   |zero=>intro _;exact I
   |succ c J =>
   intro K;have b:=e_ (show c<W.tasks.length by omega);have s:=st c _ b;by_cases e:fS (nm W) j (W.tasks[c]'(by omega)).1=k
   ·rw[<- e];exact s.2.1
   rw[ZD (show c<W.tasks.length by omega),iy,if_neg e,Int.add_zero];exact J (by omega)
  have:=G W.tasks.length (m_ _)
  rwa [List.take_length] at this
 rintro⟨f,E,h,u⟩;have r:((nm W).map f).length=W.tasks.length:=by rw[g_,cY]
 have B:∀n∈nm W,f n=fS (nm W) ((nm W).map f) n:=fun n H=>by
  obtain⟨i,d⟩:=aaw H;have y:i<(nm W).length:=by
   rcases aa6 i (nm W).length with z | z
   ·exact z
   rw[N_ z] at d;cases d
  rw[jt (ns:=nm W) g.nd (by rw[g_];exact y) d,h_,B_,d];rfl
 refine⟨(nm W).map f,by rw[Zu,Nat.zero_add];exact r,fun s A=>?_,fun i d=>?_⟩
 ·obtain⟨n,_,rfl⟩:=A_.mp A;exact E n
 rw[aa2];have w:i<W.tasks.length:=by omega
 have b:=e_ w;rw[zg g d r b (f:=f) B];refine⟨h.kin _ (Zw _),Int.le_trans (GR g) (u _ (A_.mpr ⟨_,Zf.mpr (E _),rfl⟩)),fun o m _ _=>h.ord o m,fun p q _ _=>h.pai p q⟩
def ni (s:Nat):T:=.int (s:Int)
def Tp (g:mK) (W:Wk) (Z:St3) (H:lO) (Q:St3->lO->Prop):sy 4 g W.enc Z H Q=(True/\g [.tup (W.tasks.map tkT),.tup (W.orders.map orT),.tup (W.pairs.map prT),.tup (W.row.map T.str)] Z H Q):=propext ⟨fun h=>⟨trivial,h.2⟩,fun h=>⟨rfl,h.2⟩⟩
def uK {f g:Str->Nat} (h:∀n∈ns,f n=g n):dN ns f=dN ns g:=ZM fun n a=>by rw[h n a]
def Xn {ps:List Nat} (h:i<ps.length):atI (ps.map ni) (i:Int)=some (.int ((ps.getD i 0:Nat):Int)):=cB (by rw[B_,h_,e_ h];rfl)
def NP {i:Nat} (h:W.tasks[i]?=some t):atI (W.tasks.map tkT) (i:Int)=some (tkT t):=cB (by rw[B_,h];rfl)
def GZ:Nat->Sp3
 |0=>fun _ _ _=>False
 |m+1=>fun ts H Q=>∃(W:Wk) (eG:Int) (many:Nat) (q:Addr) (ps:List Nat),ts=[W.enc,.int eG,.int (many:Int),.ref q]/\v6 W/\many<=W.row.length/\H q=some (.lst (ps.map ni))/\ps.length<=W.tasks.length/\W.tasks.length<=ps.length+m/\∀b:Bool,(b=true↔Way W eG many ps)->Q (.bl b) H
def zj (f:v6 W) (a:many<=W.row.length) (c:H q=some (.lst (ps.map ni))) (e:ps.length<=W.tasks.length) (d:W.tasks.length<=ps.length+m) (h:∀b:Bool,(b=true↔Way W eG many ps)->Q (.bl b) H):GZ (m+1) [W.enc,.int eG,.int (many:Int),.ref q] H Q:=⟨W,eG,many,q,ps,rfl,f,a,c,e,d,h⟩
def Xo:Sp3:=fun ts H Q=>∃(W:Wk) (eG:Int) (q:Addr) (ps:List Nat) (j:Nat),ts=[W.enc,.int eG,.ref q,.int (j:Int)]/\v6 W/\H q=some (.lst (ps.map ni))/\ps.length<W.tasks.length/\j<W.row.length/\∀b:Bool,(b=true↔Mym W eG ps j)->Q (.bl b) H
def lng (W:Wk) (b:Int):Option (List Str):=(j7 W).find? fun g=>decide (b<bG W.tasks g)
def fsT (W:Wk) (g:List Str):List (Str × T):=[("tasks",sT g),("length",.int (bG W.tasks g))]
def uL (h:∀g∈j7 W,¬b<bG W.tasks g):lng W b=none:=List.find?_eq_none.mpr fun g a z=>h g a (ZR z)
def uM (e:j7 W=A++g::B) (h:∀x∈A,¬b<bG W.tasks x) (c:b<bG W.tasks g):lng W b=some g:=by
 unfold lng;rw[e,List.find?_append,List.find?_eq_none.mpr fun x a z=>h x a (ZR z),Option.none_or,aaQ,L_ c]
def Xp (C:Addr):qN:=fun ts H Q E=>∃(W:Wk) (eG:Int),ts=[W.enc,.int eG]/\v6 W/\(lng W eG=none->Q .non H)/\∀g,lng W eG=some g->E C (fsT W g) H
def Xq (a b:Addr):qN:=fun ts H Q E=>∃(W:Wk) (eG:Int),ts=[W.enc,.int eG]/\v6 W/\(∀g,lng W eG=some g->E a (fsT W g) H)/\(∀n:Nat,lng W eG=none->n<=W.row.length->Can W n eG->(∀j,j<n->¬Can W j eG)->Q (.tup [.int (n:Int),dtT W eG n]) H)/\(lng W eG=none->(∀j,j<=W.row.length->¬Can W j eG)->E b [] H)
def zm (a:v6 W):(j7 W).length<=8:=by
 unfold j7;rw[g_];exact R_ (Zc _ _) (by rw[g_];exact a.t8)
def Xr:Sp3:=fun ts H Q=>∃i:Int,ts=[.int i]/\Q (.bl true) H
def lnW (W:Wk) (n:Str):Int:=match W.tasks.find? fun t=>decide (t.1=n) with
 |some t=>t.2.1
 |none=>0
def NQ:∀{ts:List (Str × Int × List Str)},(ts.map (·.1)).Nodup->t∈ts->ts.find? (fun u=>decide (u.1=t.1))=some t
 |u::r,hn,h=>by
  rw[J_,ZP] at hn
  rw[aaQ]
  rcases x_.mp h with rfl | h
  ·
   rw[L_ rfl]
  ·
   rw[I_ fun (z:u.1=t.1)=>hn.1 (z▸A_.mpr ⟨t,h,rfl⟩)]
   exact NQ hn.2 h
def G4 (a:v6 W) (h:t∈W.tasks):lnW W t.1=t.2.1:=by
 unfold lnW;rw[NQ a.nd h]
def G5 {f:Str->Int}:∀{ts:List (Str × Int × List Str)},(∀t∈ts,f t.1=t.2.1)->(((ts.map (·.1)).filter p).map f).sum=((ts.filter fun t=>p t.1).map (·.2.1)).sum
 |[],_=>rfl
 |t::r,h=>by
  have a:=G5 (p:=p) fun u b=>h u (q_ _ b)
  rw[J_,aam,aam]
  cases p t.1 with
  |false=>exact a
  |true =>
   simp only[if_true,J_,aaz]
   rw[a,h t l_]
def Ax (c:v6 W):(((W.tasks.map (·.1)).filter p).map (lnW W)).sum=bG W.tasks ((W.tasks.map (·.1)).filter p):=by
 rw[G5 fun t b=>G4 c b];unfold bG;congr 2;refine ZS fun u a=>?_;rw[Zk,n_,E_];exact⟨fun z=>⟨A_.mpr ⟨u,a,rfl⟩,z⟩,fun z=>z.2⟩
def Lg (a:v6 W) (h:g∈j7 W):(g.map (lnW W)).sum=bG W.tasks g:=by
 obtain⟨t,_,rfl⟩:=ada.mp h;exact Ax a
def Xu (g:List Str) (i:Int):([sT g,T.int i]:List T).all (pl 20)=true:=by
 rw[List.all_cons,List.all_cons];show (((g.map T.str).all (pl 19))&&(true&&true))=true;rw[show (g.map T.str).all (pl 19)=true from by rw[ZQ];intro t a;obtain⟨x,_,rfl⟩:=A_.mp a;rfl];rfl
def lgT (W:Wk) (g:List Str):T:=.tup [.str "long",sT g,.int (bG W.tasks g)]
def toT (W:Wk) (b:Int) (n:Nat):T:=.tup [.str "told",.tup [.int (n:Int),dtT W b n]]
def noT:T:=.tup [.str "none"]
def Xv:Sp3:=fun ts H Q=>∃(W:Wk) (eG:Int),ts=[W.enc,.int eG]/\v6 W/\(∀g,lng W eG=some g->Q (lgT W g) H)/\(∀n:Nat,lng W eG=none->n<=W.row.length->Can W n eG->(∀j,j<n->¬Can W j eG)->Q (toT W eG n) H)/\(lng W eG=none->(∀j,j<=W.row.length->¬Can W j eG)->Q noT H)
def Xw:Sp3:=fun ts H Q=>∃(W:Wk) (eG:Int),ts=[W.enc,.int eG]/\v6 W/\0<=eG/\(∀g,lng W eG=some g->Q (lgT W g) H)/\(∀n:Nat,lng W eG=none->n<=W.row.length->Can W n eG->(∀j,j<n->¬Can W j eG)->Q (.tup [.str "told",.int (n:Int)]) H)/\(lng W eG=none->(∀j,j<=W.row.length->¬Can W j eG)->Q noT H)
def Xx:¬Can W 0 b:=fun ⟨_,h,_⟩=>absurd (h "") (abp _)
def Xy (W:Wk) (b:Int) (n:Nat):pl 19 (dtT W b n)=true:=by
 unfold dtT;split
 ·rfl
 exact ZQ.mpr fun t a=>by obtain⟨x,_,rfl⟩:=A_.mp a;exact ZQ.mpr fun t a=>by obtain⟨x,_,rfl⟩:=A_.mp a;rfl
section
variable {P:Program}{w:World}{K:Frag}
def zp:Sp3:=fun ts H Q=>∃(a:Addr) (ns:List Int),ts=[.ref a]/\H a=some (.rol (ns.map T.int))/\ns.length<=63/\∀H',Q (.bl true) H'
abbrev NT:List Str:=["_law_script","_law_most","_law_wide","_law_works_here","_law_stands","_law_beat_here","_law_cell_here","_law_due_here","_law_told_here"]
def acj:gV NT ["_law_script"] (aB (top 59)):=aZ
def Tq {f:Addr} (g:G3 K mg "law" (top 59) ["_law_script"] f fd) (B:Bl mg) (M:Oc P w K mg base 1 "_law_cell" (top 39) ["_law_script","_law_k"] Gy) (D:Oc P w K mg base 4 "_law_drawn" (top 48) ["_law_script","_law_most","_law_wide"] Xd) (F:Oc P w K mg base 1 "_law_moved" (top 49) ["_law_works_here","_law_cell_here"] Xm) (O:Oc P w K mg base 11 "_law_due" (top 57) ["_law_works_here","_law_beat_here"] Xw) (y:Oc P w K mg base 9 "_law_told" (top 58) ["_law_works_here","_law_beat_here"] Xv) (l:Oc P w K mg base 1 "_law_whole" (top 50) ["_law_found"] Xr) (e:Oc P w K mg base 2 "_law_is_dealing" (top 52) ["_law_works_here","_law_beat_here","_law_many","_law_found"] W3):kZ P w K mg base 12 f fd ["_law_script"] zp:=by
 refine fn3 g.fn acj (fun ts H Q h=>?_) (fun cdv A outer s H E ts H3 Q L h=>?_)
 ·obtain⟨a,ns,rfl,_⟩:=h;rfl
 have d:=t6.u30 L;obtain⟨a,ns,rfl,ha,X,k⟩:=h;refine⟨_,(aj (ig (aJ GX (bh (aa (bA (aa ao (aa ao ak))) (aa (bA (aa ao (aa ao ak))) ak))) (bH yp rfl B.int_ vV (aa (d9 (cF d) (aH aX (aU M L rfl (aa (v3 0) (aa ao ak))) ao) ao) ak))) (bO (n:=2) rfl (aG (aC 1 acj.nd) (aG (aC 2 acj.nd) bB))))
   (aj (ig (aU D L rfl (aa (v3 0) (aa (v3 1) (aa (v3 2) ak)))) (bO (n:=4) rfl (aG (aC 3 acj.nd) (aG (aC 4 acj.nd) (aG (aC 5 acj.nd) (aG (aC 6 acj.nd) bB))))))
   (aj (aF 3 acj.nd (aU F L rfl (aa (v3 3) (aa (aH bj (v3 6) ao) ak))))
   (aj (aF 7 acj.nd (aU O L rfl (aa (v3 3) (aa (v3 5) ak))))
   (aj (aF 8 acj.nd (aU y L rfl (aa (v3 3) (aa (v3 5) ak))))
   (aj (bc (PW3.pt (iZ (aR (fP d) (aJ GX (v3 8) ao) (aJ GX (v3 7) ao)) (jf (aR (fP d) (aU y L rfl (aa (v3 3) (aa (v3 5) ak))) (v3 8))))) (au (aL cJ)) aO)
   (aj (bc (aR (cF d) (aJ GX (v3 7) ao) cN) (au (aL (vO (aM jk rfl B.isinstance_ cH (aa (aJ GX (v3 8) ao) (aa (mQ rfl B.tuple_ cj) ak))) (vO (aU l L rfl (aa (aJ GX (v3 8) ao) ak)) (vN (d9 (cF d) (v3 8) (v3 7))))))) aO)
   (aj (bc (aR (cF d) (aJ GX (v3 7) ao) cN) (au (aL cJ)) aO)
   (aj (bc (PW3.pt (iZ (gK (cW (aM jk rfl B.isinstance_ cH (aa (aJ GX (v3 8) ao) (aa (mQ rfl B.tuple_ cj) ak))))) (iZ (aR (fP d) (aM bZ rfl B.len_ cg (aa (aJ GX (v3 8) ao) ak)) ao) (iZ (gK (cW (aU l L rfl (aa (aJ GX (aJ GX (v3 8) ao) ao) ak)))) (jf (aR (fP d) (aJ GX (aJ GX (v3 8) ao) ao) (aJ GX (v3 7) ao))))))) (au (aL cJ)) aO)
   (au (aL (aU e L rfl (aa (v3 3) (aa (v3 5) (aa (aJ GX (v3 7) ao) (aa (aJ GX (aJ GX (v3 8) ao) ao) ak)))))))))))))))),?_⟩
 walk_at "q";walk_at "h";have k':=nT.mk k;clear k;refine aA fun R0 hR0=>?_
 suffices key:∀(m o:Int) (U:lO),1<=m->m<=8->1<=o->o<=8->U a=some (.rol (ns.map T.int))->R0 { nx:=fun _ H'=>n7 Q T.non H',rt:=n7 Q} [some (.ref a),some (.int m),some (.int o),none,none,none,none,none,none] U by
  have C:=nT.mk key;clear key hR0 k';walk_at "";refine⟨by decide,by decide,by decide,fun p hp=>?_⟩;have ga:fY H3 p (.lst [T.tup [T.int 5,T.int 4],T.tup [T.int 8,T.int 2]]) a=_ := upa ha hp;have gp:fY H3 p (.lst [T.tup [T.int 5,T.int 4],T.tup [T.int 8,T.int 2]]) p=some (.lst [T.tup [T.int 5,T.int 4],T.tup [T.int 8,T.int 2]]):=aq;generalize fY H3 p (.lst [T.tup [T.int 5,T.int 4],T.tup [T.int 8,T.int 2]])=U at ga gp ⊢;refine⟨a,ns,16,rfl,ga,X,by decide,fun c0=>?_⟩;have a0:atI [T.tup [T.int 5,T.int 4],T.tup [T.int 8,T.int 2]] 0=some (T.tup [T.int 5,T.int 4]):=rfl;have a1:atI [T.tup [T.int 5,T.int 4],T.tup [T.int 8,T.int 2]] 1=some (T.tup [T.int 8,T.int 2]):=rfl;have k1:=nT.mk (C.out 5 4 U (by decide) (by decide) (by decide) (by decide) ga);have k2:=nT.mk (C.out 8 2 U (by decide) (by decide) (by decide) (by decide) ga);clear C;try dsimp only
  by_cases c1:c0%4=1
  ·have d1:decide (c0%4=1)=true:=L_ c1;walk_at "";exact⟨by decide,trivial,k2.out⟩
  have d1:decide (c0%4=1)=false:=I_ c1;walk_at "";exact⟨by decide,trivial,k1.out⟩
 intro m o U m1 m8 w1 w8 ha4;clear ha;walk_at "n";walk_at "s";refine⟨a,ns,m,o,rfl,ha4,X,m1,m8,w1,w8,fun W sts eG c hW _ _ hf hb p hp=>?_⟩;have S:=nT.mk hW;try walk_at ""
 generalize fY U p (.lst (sts.map fun (s:Nat)=>T.int (s:Int)))=H5;clear hW hf hp ha4 X m1 m8 w1 w8;walk_at "t";walk_at "n";walk_at "s";refine⟨by first | trivial | exact⟨by decide,by decide +kernel⟩,W,c / 16,rfl,S.out,fun r hr1 hr2=>?_⟩;have I:=nT.mk (Tj S.out hr1 hr2);try dsimp only
 clear S hr1 hr2;generalize (⟨W.tasks,W.orders,W.pairs,r⟩:Wk)=V at I ⊢;walk_at "n";walk_at "s";refine⟨V,eG,rfl,I.out,hb,fun g hg=>?_,fun n h0 h1 h2 h3=>?_,fun h0 h1=>?_⟩
 ·have x:=nT.mk hg;clear hg;have z:lgT V g=T.tup [.str "long",sT g,.int (bG V.tasks g)]:=rfl;rw[z];try walk_at ""
  walk_at "n";refine aA fun R4 hR4=>?_;walk_at "";refine⟨V,eG,rfl,I.out,fun g2 b=>?_,fun n u=>(by rw[x.out] at u;cases u),fun u=>(by rw[x.out] at u;cases u)⟩;rw[x.out] at b;cases b;rw[z];try walk_at ""
  walk_at "n";have Y:([T.str "long",sT g,T.int (bG V.tasks g)]:List T).all (pl 20)=true:=by rw[List.all_cons];exact Xu g _
  refine aA fun R5 hR5=>?_;walk_at "";refine⟨V,eG,rfl,I.out,fun g2 b=>?_,fun n u=>(by rw[x.out] at u;cases u),fun u=>(by rw[x.out] at u;cases u)⟩;rw[x.out] at b;cases b;rw[z];try walk_at ""
  refine⟨trivial,trivial,?_⟩;walk_at "n";have iT:isT "tuple" (sT g) H5=some true:=rfl;clear x z;walk_at "";refine⟨_,rfl,?_⟩;walk_at "";exact⟨trivial,trivial,n7.of eH.refl (k'.out _)⟩
 ·have hl:=nT.mk h0;have u:=nT.mk h1;have hc:=nT.mk h2;have hm:=nT.mk h3;clear h0 h1 h2 h3;have z:toT V eG n=T.tup [.str "told",.tup [.int (n:Int),dtT V eG n]]:=rfl;have R:nT (∀t:Nat,lng V eG=none->t<=V.row.length->Can V t eG->(∀j,j<t->¬Can V j eG)->t=n):=⟨fun t _ _ h2 h3=>by
   rcases Nat.lt_trichotomy t n with q | q | q
   ·
    exact absurd h2 (hm.out t q)
   ·
    exact q
   ·
    exact absurd hc.out (h3 n q)⟩
  try walk_at ""
  walk_at "n";refine aA fun R4 hR4=>?_;walk_at "";refine⟨V,eG,rfl,I.out,fun g2 b=>(by rw[hl.out] at b;cases b),fun t Z G J N=>?_,fun _ q=>absurd hc.out (q n u.out)⟩;obtain rfl:=R.out t Z G J N;clear Z G J N;rw[z];try walk_at ""
  walk_at "n";have pld:=Xy V eG t;have Y:([T.str "told",.tup [.int (t:Int),dtT V eG t]]:List T).all (pl 20)=true:=by show (true&&((true&&(pl 19 (dtT V eG t)&&true))&&true))=true;rw[pld];rfl
  refine aA fun R5 hR5=>?_;walk_at "";refine⟨V,eG,rfl,I.out,fun g2 b=>(by rw[hl.out] at b;cases b),fun n3 Z G J N=>?_,fun _ q=>absurd hc.out (q _ u.out)⟩;obtain rfl:=R.out n3 Z G J N;clear Z G J N;rw[z];try walk_at ""
  refine⟨trivial,trivial,?_⟩;walk_at "n";refine aA fun R6 hR6=>?_;clear R z pld Y hl hm;have dn:decide (Str.ofString "told"=Str.ofString "long")=false:=by decide
  have dm:decide (Str.ofString "told"=Str.ofString "none")=false:=by decide
  walk_at "";walk_at "n";walk_at "s";walk_at "n";walk_at "s";refine⟨_,rfl,?_⟩;try walk_at ""
  walk_at "n";walk_at "";obtain⟨v,hv⟩:=(zb I.out u.out).mpr hc.out;obtain⟨G,J,N,q4⟩:=pX I.out u.out hv;have e1:dtT V eG n3=.tup ((v.map (pk V)).map sT):=by unfold dtT;rw[hv]
  rw[e1];refine⟨V,eG,n3,v.map (pk V),rfl,I.out,N,q4,G,J,?_⟩;exact n7.of eH.refl (k'.out _)
 have hl:=nT.mk h0;have hno:=nT.mk h1;clear h0 h1;have z:noT=T.tup [.str "none"]:=rfl;have Y:([T.str "none"]:List T).all (pl 20)=true:=rfl;rw[z];try walk_at ""
 walk_at "n";walk_at "s";refine⟨V,eG,rfl,I.out,fun g2 b=>(by rw[hl.out] at b;cases b),fun t Z G J N=>absurd J (hno.out t G),fun _ _=>?_⟩;rw[z];try walk_at ""
 walk_at "n";walk_at "s";refine⟨V,eG,rfl,I.out,fun g2 b=>(by rw[hl.out] at b;cases b),fun t Z G J N=>absurd J (hno.out t G),fun _ _=>?_⟩;rw[z];try walk_at ""
 refine⟨trivial,trivial,?_⟩;walk_at "n";refine aA fun R6 hR6=>?_;have dn:decide (Str.ofString "none"=Str.ofString "long")=false:=by decide
 walk_at "";walk_at "n";walk_at "";exact n7.of eH.refl (k'.out _)
abbrev G6:List Str:=["_law_works_here","_law_beat_here","_law_lengths","_law_name","_law_length","_law_kinds","_law_group","_law_total","_law_many"]
def acx:gV G6 ["_law_works_here","_law_beat_here"] (aB (top 57)):=aZ
def Tr {f:Addr} (g:G3 K mg "_law_due" (top 57) ["_law_works_here","_law_beat_here"] f fd) (B:Bl mg) (u:Oc P w K mg base 2 "_law_groups" (top 56) ["_law_works_here"] Xl) (L:Oc P w K mg base 10 "_law_some" (top 54) ["_law_works_here","_law_beat_here","_law_many","_law_places"] (GZ 9)):Oc P w K mg base 11 "_law_due" (top 57) ["_law_works_here","_law_beat_here"] Xw:=by
 refine c6 g acx ?_;rintro _ A _ s H _ _ H3 Q hr ⟨W,eG,rfl,hW,hb,k0,k1,k2⟩;have hu1:=t6.u1 hr;refine⟨_,(aj (aF 2 acx.nd jE)
   (aj (aW D_ rfl (bF (aJ GX (v3 0) ao)) (bO (n:=3) rfl (aG (aC 3 acx.nd) (aG (aC 4 acx.nd) (aG (aC 5 acx.nd) bB)))) (au (gM hu1 (v3 2) (v3 3) (v3 4))))
   (aj (aW D_ rfl (cD (aU u hr rfl (aa (v3 0) ak))) (aC 6 acx.nd) (aj (aF 7 acx.nd (aM (vR rfl) rfl B.sum_ vU (aa (bR rfl (b6 57 G6 ["_law_name","_law_lengths"] 1 [2]) (bF (v3 6)) (fun cl pins s H C0 fp=>⟨(aC 0 (n5 ["_law_name","_law_lengths"])),cP,(bT hu1 (v3 1) (v3 0))⟩)) ak)))
    (au (bc (aR mO (v3 7) (v3 1)) (au (aL (bA (aa cN (aa (v3 6) (aa (v3 7) ak)))))) aO))))
   (aj (aW D_ rfl (o4 rfl B.range_ (aa ao (aa (aH bf (aM bZ rfl B.len_ cg (aa (aJ GX (v3 0) ao) ak)) ao) ak))) (aC 8 acx.nd) (au (bc (cW (aU L hr rfl (aa (v3 0) (aa (v3 1) (aa (v3 8) (aa (bh ak) ak)))))) (au (aL (bA (aa cN (aa (v3 8) ak))))) aO)))
   (au (aL (bA (aa cN ak)))))))),?_⟩
 walk_at "q";walk_at "h";have M:=nT.mk k0;have F:=nT.mk k1;have G:=nT.mk k2;clear k0 k1 k2;have r8:=hW.r8;have t8:=hW.t8;have l:=nT.mk hW;clear hW;walk_at "s";intro pl V;have s0:eH H3 (fY H3 pl (.dct (dV (fun n=>T.int (lnW W n)) []))):=eH.new V;have gl:fY H3 pl (.dct (dV (fun n=>T.int (lnW W n)) [])) pl=some (.dct (dV (fun n=>T.int (lnW W n)) [])):=aq;rw[show (.dct []:O3)=.dct (dV (fun n=>T.int (lnW W n)) []) from rfl];generalize fY H3 pl (.dct (dV (fun n=>T.int (lnW W n)) []))=H5 at s0 gl ⊢;walk_at "n";refine aA fun R1 hR1=>?_;walk_at "";refine aV tkT W.tasks (fun A Z H=>∃v3 J I C y r:Option T,Z=[some W.enc,some (.int eG),some (.ref pl),v3,J,I,C,y,r]/\eH H3 H/\H pl=some (.dct (dV (fun n=>T.int (lnW W n)) (A.map (·.1))))) ⟨_,_,_,_,_,_,rfl,s0,gl⟩ ?_ ?_;rotate_left
 ·rintro A ⟨x,ln,ks⟩ B Z H N e ⟨v3,J,I,C,y,r,rfl,v,gl⟩ R;walk_at "t";have hA:A.length<9:=by have:=T_ List.length e;rw[d_,j_] at this;omega
  have D:x∉A.map (·.1):=fun z=>by have:=l.out.nd;rw[e,z_,J_,aae] at this;exact this.2.2 x z x l_ rfl
  have hl:lnW W x=ln:=G4 (t:=(x,ln,ks)) l.out (by rw[e];simp);have hp3:=GJ (g:=fun n=>T.int (lnW W n)) (g':=fun n=>T.int (lnW W n)) D fun _ _=>rfl;rw[hl] at hp3;have ldl:(dV (fun n=>T.int (lnW W n)) (A.map (·.1))).length=A.length:=by unfold dV;rw[g_,g_]
  have d:nT (∀v3 J I,N [some W.enc,some (.int eG),some (.ref pl),v3,J,I,C,y,r] (fY H pl (.dct (dV (fun n=>T.int (lnW W n)) (A.map (·.1)++[x]))))):=⟨fun v3 J I=>R _ _ ⟨_,_,_,_,_,_,rfl,jr v V,by rw[aq,z_];rfl⟩⟩;clear R e M F G hR1 hl D v;simp only[tkT];walk_at "";exact⟨trivial,by omega,d.out _ _ _⟩
 rintro Z H5 ⟨v3,J,I,C,y,r,rfl,v,gl⟩;walk_at "t";clear s0 V;walk_at "n";refine aA fun R2 hR2=>?_;walk_at "";refine⟨W,rfl,l.out,fun H6 pg s6 gg=>?_⟩;have gl6:=s6 _ _ gl;have sb6:=v.trans s6;clear gl s6 v;try walk_at ""
 have g8:=zm l.out;refine aV sT (j7 W) (fun A Z H=>∃C y:Option T,Z=[some W.enc,some (.int eG),some (.ref pl),v3,J,I,C,y,r]/\eH H6 H/\∀x∈A,¬eG<bG W.tasks x) ⟨_,_,rfl,eH.refl,(fun _ h=>nomatch h)⟩ ?_ ?_;rotate_left
 ·rintro A g B Z H N e ⟨C,y,rfl,v,a⟩ R;refine⟨.inl (v _ _ gg),?_⟩;have O:g∈j7 W:=by rw[e];simp
  have X:nT (∀x∈g,aP x (dV (fun n=>T.int (lnW W n)) (W.tasks.map (·.1)))=some (T.int (lnW W x))):=⟨fun x D=>by
   obtain⟨t,_,rfl⟩:=ada.mp O
   exact rB (KJ D)⟩
  have gll:g.length<=8:=by obtain⟨t,_,rfl⟩:=ada.mp O;exact R_ (Zc _ _) (by rw[g_];exact t8)
  have U:=Lg l.out O;have gl':=v _ _ gl6;have d:nT (¬eG<bG W.tasks g->∀C y H',eH H6 H'->N [some W.enc,some (.int eG),some (.ref pl),v3,J,I,C,y,r] H'):=⟨fun hg C y H' s'=>R _ _ ⟨_,_,rfl,s',fun x D=>by
   rcases u_.mp D with D | D
   ·
    exact a x D
   ·
    rw[i_.mp D];exact hg⟩⟩
  have S:nT (eG<bG W.tasks g->Q (lgT W g) H3):=⟨fun hg=>M.out g (uM e a hg)⟩;clear R e M F G hR2 O a;refine aA fun R3 hR3=>?_;simp only[sT];walk_at "";walk_at "c";refine bK T.str (fun x=>T.int (lnW W x)) g [some (.ref pl)] trivial (by omega) ?c1 ?c2
  case c1 =>
   intro x D Q' hq
   have lk:=X.out x D
   clear X d S hR3
   walk_at ""
   try exact hq
  intro pi hpi;have e1:ints3 (g.map fun x=>T.int (lnW W x))=some (g.map (lnW W)):=by rw[<- gB,Zh];rfl
  rw[e1,f9,U];have s7:=v.trans (eH.new (o:=.lst (g.map fun x=>T.int (lnW W x))) hpi);generalize fY H pi (.lst (g.map fun x=>T.int (lnW W x)))=H7 at s7 ⊢;clear e1 U X gl' hpi;try walk_at ""
  walk_at "n";walk_at "";by_cases c:eG<bG W.tasks g
  ·have k:=nT.mk (S.out c);clear S d;simp only[c,aao,if_true];try walk_at ""
   exact⟨by decide,n7.of (sb6.trans s7) k.out⟩
  have k:=nT.mk (d.out c);clear S d;simp only[c,ZL,y_,Zb];exact k.out _ _ _ s7
 rintro Z H7 ⟨C,y,rfl,v,a⟩;refine⟨.inl (v _ _ gg),?_⟩;have hl:=nT.mk (uL a);have s7:=sb6.trans v;clear a gg gl6 sb6 v M;walk_at "n";refine aA fun R3 hR3=>?_;walk_at "";refine⟨trivial,by omega,?_⟩;rw[show dM 1 ((W.row.length:Int)+1 - 1).toNat=(List.range W.row.length).map (fun (j:Nat)=>T.int ((j+1:Nat):Int)) by
  unfold dM
  rw[show ((W.row.length:Int)+1 - 1).toNat=W.row.length by omega]
  exact ZM fun j _=>T_ T.int (by omega)]
 refine aV (fun (j:Nat)=>T.int ((j+1:Nat):Int)) (List.range W.row.length) (fun A Z H=>∃r:Option T,Z=[some W.enc,some (.int eG),some (.ref pl),v3,J,I,C,y,r]/\eH H7 H/\∀j,j<=A.length->¬Can W j eG) ⟨_,rfl,eH.refl,fun j hj=>by rw[Nat.le_zero.mp hj];exact Xx⟩ ?_ ?_
 ·rintro Z H ⟨r,rfl,s8,a⟩;walk_at "t";rw[C_] at a;have k:=nT.mk (G.out hl.out a);clear F G a hl;walk_at "n";walk_at "";exact⟨by decide,n7.of (s7.trans s8) k.out⟩
 rintro A m B Z H N e ⟨r,rfl,s8,a⟩ R;walk_at "t";have hA:A.length<W.row.length:=by have:=T_ List.length e;simp only[d_,j_,C_] at this;omega
 have hj:m=A.length:=by
  have h1:(List.range W.row.length)[A.length]?=some m:=by rw[e,Q_ (m_ _)];simp
  rw[Zg hA] at h1;exact (F_ h1).symm
 subst hj;have d:nT (¬Can W (A.length+1) eG->∀H',eH H7 H'->∀r,N [some W.enc,some (.int eG),some (.ref pl),v3,J,I,C,y,r] H'):=⟨fun hn H' e r=>R _ _ ⟨_,rfl,e,fun j hj=>by
  rw[d_,v_] at hj
  rcases Nat.lt_or_eq_of_le hj with q | q
  ·
   exact a j (by omega)
  ·
   rw[q];exact hn⟩⟩
 have S:nT (Can W (A.length+1) eG->Q (.tup [.str "told",.int ((A.length+1:Nat):Int)]) H3):=⟨fun hc=>F.out _ hl.out (by omega) hc fun j hj=>a j (by omega)⟩;clear R e F G a hR3 hl;walk_at "";refine⟨by decide,fun p hp=>?_⟩;refine zj (m:=8) (ps:=[]) l.out (by omega) aq (Zx _) (by simp;omega) fun b Y=>?_;have hc:=Y.trans (Lf (eG:=eG) (many:=A.length+1) l.out hb);cases b with
 |true =>
  have k:=nT.mk (S.out (hc.mp rfl))
  clear S d hc Y
  try simp only[eX,if_true]
  try walk_at ""
  exact⟨by decide,n7.of ((s7.trans s8).trans (eH.new hp)) k.out⟩
 |false =>
  have k:=nT.mk (d.out fun z=>G_ (hc.mpr z))
  clear S d hc Y
  simp only[eX,y_,Zb]
  exact k.out _ (s8.trans (eH.new hp)) _
abbrev jQ:List Str:=["_law_found"]
def G7:gV jQ jQ (aB (top 50)):=aZ
def G8 {f:Addr} (g:G3 K mg "_law_whole" (top 50) jQ f a) (B:Bl mg):Oc P w K mg base 1 "_law_whole" (top 50) jQ Xr:=by
 refine c6 g G7 ?_;rintro _ _ _ _ _ _ _ _ _ _ ⟨i,rfl,b⟩;refine⟨_,(au (aL (vO (aM jk rfl B.isinstance_ cH (aa (v3 0) (aa (mQ rfl B.int_ vV) ak))) (vN (PX (aM jk rfl B.isinstance_ cH (aa (v3 0) (aa (mQ rfl B.bool_ Jh) ak)))))))),?_⟩;walk_at "q";walk_at "";exact n7.of eH.refl b
abbrev G9:List Str:=["_law_works_here","_law_beat_here","_law_told_here","e"]
def acC:gV G9 ["_law_works_here","_law_beat_here"] (aB (top 58)):=aZ
def Lh {f:Addr} (g:G3 K mg "_law_told" (top 58) ["_law_works_here","_law_beat_here"] f J) (B:Bl mg) (e:afq K mg "TooLong" C_TooLong) (j:afq K mg "NoRoom" C_NoRoom) (U:mroIn K C_TooLong (.ref C_TooLong)=some true) (R:mroIn K C_NoRoom (.ref C_TooLong)=some false) (RN:mroIn K C_NoRoom (.ref C_NoRoom)=some true) (M:aeQ K C_TooLong) (f1:findIn K (.ref C_TooLong) "tasks"=some none) (Z:findIn K (.ref C_TooLong) "length"=some none) (a:aed P w K mg base 8 "fewest_stands" (top 37) ["works","beat"] (Xq C_TooLong C_NoRoom)):Oc P w K mg base 9 "_law_told" (top 58) ["_law_works_here","_law_beat_here"] Xv:=by
 refine c6 g acC ?_;rintro _ _ _ s _ _ _ H3 Q Y ⟨W,eG,rfl,V,N,G,F⟩;refine⟨_,(aj (aF 2 acC.nd (bA (aa cN ak)))
   (aj (Ka (ade.cons e rfl (fun o=>(au (aF 2 acC.nd (bA (aa cN (aa (Fw (K:=K) rfl (v3 3)) (aa (Fw (K:=K) rfl (v3 3)) ak))))))) (HdN.as (i:=3) acC.nd rfl rfl) (ade.cons j rfl (fun o=>(au (aF 2 acC.nd (bA (aa cN ak))))) HdN.no ade.nil)) (by simp) rfl rfl (fun xe pn H0 E3 O=>(au (aF 2 acC.nd (bA (aa cN (aa (Fv a O (Y.mono (by decide)) rfl (aa (v3 0) (aa (v3 1) ak))) ak)))))))
   (au (aL (v3 2))))),?_⟩
 walk_at "q";walk_at "h";have m:=nT.mk N;have l:=nT.mk G;have k:=nT.mk F;clear N G F;walk_at "s";refine⟨by decide,?_⟩;walk_at "n";refine aA fun R1 y=>?_;have key:∀(t:T) (x:lO),n7 Q t x->R1 { nx:=fun _ H'=>n7 Q T.non H',rt:=n7 Q} [some W.enc,some (T.int eG),some t,none] x:=by intro t x c;have v:=nT.mk c;clear c m l k;walk_at "n";walk_at "";exact v.out
 have b:=nT.mk key;clear key y;walk_at "";refine⟨W,eG,rfl,V,fun g L=>Or.inl ⟨U,fun o d X=>?_⟩,fun n q r u I=>?_,fun q r=>Or.inr ⟨R,Or.inl ⟨RN,?_⟩⟩⟩
 ·obtain⟨h0,q⟩:=X;cases d with
  |none=>exact absurd q (by unfold fsT;simp)
  |some p =>
  obtain⟨_,r,u⟩:=q;have D:hpX H3 o C_TooLong (fsT W g) (some p) o=some (.exc C_TooLong (some p)):=aq;have z:hpX H3 o C_TooLong (fsT W g) (some p) p=some (.xdt (fsT W g)):=(aD (Ne.symm u)).trans aq;have C:eH H3 (hpX H3 o C_TooLong (fsT W g) (some p)):=(eH.new r).trans (eH.new (by rw[aD u];exact h0));generalize hpX H3 o C_TooLong (fsT W g) (some p)=x at D z C ⊢;have c:=nT.mk (b.out (lgT W g) x (n7.of C (m.out g L)));clear b m l k C L;walk_at "";refine⟨o,C_TooLong,p,_,_,rfl,D,z,M,f1,rfl,o,C_TooLong,p,_,_,rfl,D,z,M,Z,rfl,by decide,?_⟩;exact c.out
 ·have c:=nT.mk (b.out (toT W eG n) H3 (n7.of eH.refl (l.out n q r u I)));clear b m l k q u I;try walk_at ""
  exact⟨by decide,c.out⟩
 have c:=nT.mk (b.out noT H3 (n7.of eH.refl (k.out q r)));clear b m l k q r;show _;simp only[Wx];walk_at "";exact⟨by decide,c.out⟩
abbrev gZ:List Str:=["works","beat","many","dealing"]
def ab4:gV gZ ["works","beat"] (aB (top 37)):=aZ
def kE {f:Addr} (g:G3 K mg "fewest_stands" (top 37) ["works","beat"] f R) (B:Bl mg) (d:afv K mg "NoRoom" C_NoRoom) (b:Oc P w K mg base 7 "dealing_to" (top 35) ["works","beat","many"] Xi) (a:aed P w K mg base 5 "check_groups" (top 36) ["works","beat"] (Xp C_TooLong)):aed P w K mg base 8 "fewest_stands" (top 37) ["works","beat"] (Xq C_TooLong C_NoRoom):=by
 refine⟨f,R,g,?_⟩;refine fnX g.fn ab4 (fun ts H Q E h=>?_) (fun cdv A outer s H E ts H3 Q E3 V h M=>?_)
 ·obtain⟨W,eG,rfl,_⟩:=h;rfl
 obtain⟨W,eG,rfl,G,Y,L,J⟩:=h;refine⟨_,(aj (bC (Fv a M (V.mono (by decide)) rfl (aa (v3 0) (aa (v3 1) ak))))
   (aj (aW PassesOwn.leaving rfl (cA rfl B.range_ (aa (aH bf (aM bZ rfl B.len_ cg (aa (aJ GX (v3 0) ao) ak)) ao) ak)) (aC 2 ab4.nd) (aj (aF 3 ab4.nd (aU b V rfl (aa (v3 0) (aa (v3 1) (aa (v3 2) ak)))))
    (au (bc (aR Rj (v3 3) BL) (au (aL (bA (aa (v3 2) (aa (v3 3) ak))))) aO))))
   (au (Aj d M rfl rfl)))),?_⟩
 walk_at "q";walk_at "h";have t:=nT.mk L;have n:=nT.mk J;have D:=nT.mk Y;clear L J Y;have r8:=G.r8;have u:=nT.mk G;clear G;walk_at "s";refine⟨W,eG,rfl,u.out,fun y=>?_,fun g hg=>⟨H3,eH.refl,D.out g hg⟩⟩;have O:=nT.mk y;clear y D;walk_at "n";refine aA fun R1 I=>?_;walk_at "";refine⟨trivial,by omega,by omega,?_⟩;rw[show (W.row.length:Int)+1=((W.row.length+1:Nat):Int) by omega,m9];refine aV (fun (j:Nat)=>T.int (j:Int)) (List.range (W.row.length+1)) (fun A Z H=>∃(F v3:Option T),Z=[some W.enc,some (.int eG),F,v3]/\H=H3/\∀j,j<A.length->¬Can W j eG) ⟨_,_,rfl,rfl,fun j p=>absurd p (abp _)⟩ ?_ ?_
 ·rintro Z H ⟨F,v3,rfl,rfl,c⟩;walk_at "t";rw[C_] at c;have k:=nT.mk (n.out O.out fun j p=>c j (by omega));clear t n c;walk_at "n";walk_at "";exact⟨H,eH.refl,k.out⟩
 rintro A m B Z H N e ⟨F,v3,rfl,rfl,c⟩ S;walk_at "t";have hA:A.length<W.row.length+1:=by have:=T_ List.length e;simp only[d_,j_,C_] at this;omega
 have p:m=A.length:=by
  have X:(List.range (W.row.length+1))[A.length]?=some m:=by rw[e,Q_ (m_ _)];simp
  rw[Zg hA] at X;exact (F_ X).symm
 subst p;have o:nT (¬Can W A.length eG->∀v3,N [some W.enc,some (.int eG),some (.int (A.length:Int)),v3] H):=⟨fun l v3=>S _ _ ⟨_,_,rfl,rfl,fun j p=>by
  rw[d_,v_] at p
  rcases Nat.lt_or_eq_of_le (Nat.le_of_lt_succ p) with q | q
  ·
   exact c j q
  ·
   rw[q];exact l⟩⟩
 have k:=nT.mk fun x=>t.out A.length O.out (by omega) x c;have x:=nT.mk (zb (eG:=eG) u.out (show A.length<=W.row.length by omega));clear S e t n c I;walk_at "s";refine⟨W,eG,A.length,rfl,u.out,by omega,?_⟩;dsimp only;walk_at "n";unfold dtT;cases C:dH (top2 W - 1) (wys W eG A.length) with
 |none =>
  have l:=o.out fun z=>by
   obtain⟨v,U⟩:=x.out.mpr z
   rw[C] at U
   cases U
  have r:=nT.mk l
  clear l o k x C
  walk_at ""
  exact r.out _
 |some v =>
  have l:=k.out (x.out.mp ⟨v,C⟩)
  unfold dtT at l
  rw[C] at l
  have r:=nT.mk l
  clear l
  clear o k x C
  walk_at ""
  exact⟨by decide,n7.of eH.refl r.out⟩
def Tt:Sp3:=fun ts H Q=>∃W:Wk,ts=[W.enc]/\v6 W/\∀p,H p=none->Q (.ref p) (fY H p (.lst ((lkW ["with"] W).map orT)))
def Tu:Sp3:=fun ts H Q=>∃(x:T) (L:List (Str × Str)) (s:Str),ts=[x,.str s]/\((∃a,x=.ref a/\H a=some (.lst (L.map orT)))\/x=.tup (L.map orT))/\L.length<=100 /\
 ∀(p:Addr) (kvs:List (Str × T)),H p=none->(∀z,(aP z kvs).isSome=true↔RT (fun a b=>(a,b)∈L) s z)->Q (.ref p) (fY H p (.dct kvs))
def Tv:Sp3:=fun ts H Q=>∃(W:Wk) (t:Str),ts=[W.enc,.str t]/\v6 W/\∀(p:Addr) (kvs:List (Str × T)),H p=none->(∀z,(aP z kvs).isSome=true↔RT (lkR ["with"] W) t z)->Q (.ref p) (fY H p (.dct kvs))
def Tw:Sp3:=fun ts H Q=>∃(W:Wk) (t:Str),ts=[W.enc,.str t]/\v6 W/\∀(p:Addr) (kvs:List (Str × T)),H p=none->(∀z,(aP z kvs).isSome=true↔RT (lkR ["with"] W) z t)->Q (.ref p) (fY H p (.dct kvs))
def Xz:Sp3:=fun ts H Q=>∃(W:Wk) (a b:Addr) (d c:List (Str × T)),ts=[W.enc,.ref a,.ref b]/\v6 W/\H a=some (.dct d)/\H b=some (.dct c)/\Q (sT ((W.tasks.map (·.1)).filter fun x=>(aP x d).isSome&&(aP x c).isSome)) H
def XC:Sp3:=fun ts H Q=>∃(W:Wk) (a b:Addr) (d c:List (Str × T)),ts=[W.enc,.ref a,.ref b]/\v6 W/\H a=some (.dct d)/\H b=some (.dct c)/\Q (sT ((W.tasks.map (·.1)).filter fun x=>(aP x d).isSome&&!(aP x c).isSome)) H
def Tz:Sp3:=fun ts H Q=>∃(W:Wk) (t:Str),ts=[W.enc,.str t]/\v6 W/\Q (sT (bx W t)) H
def XD:Sp3:=fun ts H Q=>∃W:Wk,ts=[W.enc]/\v6 W/\Q (.tup ((j7 W).map sT)) H
def XF:Sp3:=fun ts H Q=>∃(W:Wk) (t:Str),ts=[W.enc,.str t]/\v6 W/\Q (sT (jq W t)) H
abbrev nG:List Str:=["works","links","word","one","other"]
def ab5:gV nG ["works"] (aB (top 2)):=aZ
def uN {f:Addr} (g:G3 K mg "links_of" (top 2) ["works"] f x) (B:Bl mg):Oc P w K mg base 1 "links_of" (top 2) ["works"] Tt:=by
 refine c6 g ab5 ?_;rintro _ A _ _ H _ _ H3 _ J ⟨⟨tk,c,prs,j⟩,rfl,t,k⟩;have l:=t6.u30 J;refine⟨_,(aj (aF 1 ab5.nd (bH qp rfl B.list_ lM (aa (aJ GX (v3 0) ao) ak)))
   (aj (aW D_ rfl (bF (aJ GX (v3 0) ao)) (bO (n:=3) rfl (aG (aC 2 ab5.nd) (aG (aC 3 ab5.nd) (aG (aC 4 ab5.nd) bB)))) (au (bc (aR (cF l) (v3 2) cN) (aj (bC (dj H_ O_ P_ bu (v3 1) (aa (bA (aa (v3 3) (aa (v3 4) ak))) ak)))
     (au (bC (dj H_ O_ P_ bu (v3 1) (aa (bA (aa (v3 4) (aa (v3 3) ak))) ak))))) aO)))
   (au (aL (v3 1))))),?_⟩
 walk_at "q";walk_at "h";have v:c.length<=28:=t.os;have z:prs.length<=12:=t.ps;walk_at "";intro p G;refine aV prT prs (fun A Z H=>∃(m v3 u:Option T),Z=[some (T.tup [T.tup (tk.map tkT),T.tup (c.map orT),T.tup (prs.map prT),T.tup (j.map T.str)]),some (.ref p),m,v3,u]/\H=fY H3 p (.lst ((c++A.flatMap (lkP ["with"])).map orT))) ⟨none,none,none,rfl,by simp⟩ ?_ ?_
 ·rintro Z H ⟨m,v3,u,rfl,rfl⟩;walk_at "t";walk_at "";exact n7.of eH.refl (k p G)
 rintro A ⟨w,a,b⟩ B Z H N e ⟨m,v3,u,rfl,rfl⟩ y;have D:=qU ["with"] A;have L:A.length<=12:=by have:=T_ List.length e;simp only[d_,j_] at this;omega
 have o:(c++A.flatMap (lkP ["with"])).length<=52:=by rw[d_];omega
 have d:N [some (T.tup [T.tup (tk.map tkT),T.tup (c.map orT),T.tup (prs.map prT),T.tup (j.map T.str)]),some (.ref p),some (.str w),some (.str a),some (.str b)] (fY H3 p (.lst ((c++A.flatMap (lkP ["with"])).map orT++(lkP ["with"] (w,a,b)).map orT))):=y _ _ ⟨_,_,_,rfl,by rw[List.flatMap_append,<- Zt,z_];simp⟩;generalize c++A.flatMap (lkP ["with"])=F at d o;replace d:=nT.mk d;walk_at "t";clear y e k t D;simp only[prT];walk_at "";walk_at "t";by_cases r:w="with"
 ·subst r;have q:lkP ["with"] ("with",a,b)=[(a,b),(b,a)]:=by unfold lkP;simp
  rw[q] at d;try simp only[aao,if_true]
  refine⟨⟨trivial,trivial⟩,by omega,by omega,⟨trivial,trivial⟩,by omega,by simp;omega,?_⟩;have C:=d.out;simp only[J_,aaA,orT] at C;rw[Zt];exact C
 have q:lkP ["with"] (w,a,b)=[]:=by unfold lkP;simp [r]
 rw[q,aaA,W_] at d;simp only[r,ZL,y_,Zb];exact d.out
abbrev iB:List Str:=["works","beat","group","length"]
def ab_:gV iB ["works","beat"] (aB (top 36)):=aZ
def lH {f:Addr} (g:G3 K mg "check_groups" (top 36) ["works","beat"] f C) (B:Bl mg) (d:afr P w K mg base "TooLong" C_TooLong ["tasks","length"]) (a:Oc P w K mg base 4 "groups_of" (top 9) ["works"] XD) (b:Oc P w K mg base 1 "load_of" (top 20) ["works","tasks"] WL):aed P w K mg base 5 "check_groups" (top 36) ["works","beat"] (Xp C_TooLong):=by
 refine⟨f,C,g,?_⟩;refine fnX g.fn ab_ (fun ts H Q E h=>?_) (fun I A outer s H E ts H3 Q G u h F=>?_)
 ·obtain⟨W,eG,rfl,_⟩:=h;rfl
 obtain⟨W,eG,rfl,t,y,v⟩:=h;refine⟨_,(au (aW PassesOwn.leaving rfl (bF (aU a u rfl (aa (v3 0) ak))) (aC 2 ab_.nd) (aj (aF 3 ab_.nd (aU b u rfl (aa (v3 0) (aa (v3 2) ak))))
    (au (bc (aR mO (v3 3) (v3 1)) (au (Ak d F (u.mono (by decide)) rfl rfl (aa (v3 2) (aa (v3 3) ak)))) aO))))),?_⟩
 walk_at "q";walk_at "h";have o:=nT.mk y;have n:=nT.mk v;clear y v;have J:=zm t;walk_at "";refine⟨W,rfl,t,?_⟩;try dsimp only
 refine aV sT (j7 W) (fun A Z H=>∃(m v3:Option T),Z=[some W.enc,some (.int eG),m,v3]/\H=H3/\∀x∈A,¬eG<bG W.tasks x) ⟨_,_,rfl,rfl,(fun _ h=>nomatch h)⟩ ?_ ?_
 ·rintro Z H ⟨m,v3,rfl,rfl,j⟩;exact⟨trivial,n7.of eH.refl (o.out (uL j))⟩
 rintro A g B Z H N e ⟨m,v3,rfl,rfl,j⟩ D;walk_at "t";have z:=Kp W.tasks g;have k:nT (¬eG<bG W.tasks g->∀m v3,N [some W.enc,some (.int eG),m,v3] H):=⟨fun r m v3=>D _ _ ⟨_,_,rfl,rfl,fun x p=>by
  rcases u_.mp p with p | p
  ·
   exact j x p
  ·
   rw[i_.mp p];exact r⟩⟩
 have q:nT (eG<bG W.tasks g->G C_TooLong (fsT W g) H):=⟨fun r=>n.out g (uM e j r)⟩;clear D e o n j;walk_at "";refine⟨W,g,rfl,t.t8,?_⟩;rw[z];clear z;walk_at "";by_cases c:eG<bG W.tasks g
 ·have l:=nT.mk (q.out c);clear q k;simp only[c,aao,if_true];try walk_at ""
  exact⟨trivial,H,eH.refl,l.out⟩
 have l:=nT.mk (k.out c);clear q k;simp only[c,ZL,y_,Zb];exact l.out _ _
abbrev fc:List Str:=["works","tasks"]
def xn:gV fc fc (aB (top 20)):=aZ
def xq {f:Addr} (g:G3 K mg "load_of" (top 20) fc f j) (B:Bl mg):Oc P w K mg base 1 "load_of" (top 20) fc WL:=by
 refine c6 g xn ?_;rintro _ _ _ s H _ _ H3 Q v ⟨⟨tk,a,prs,c⟩,ns,rfl,l,k⟩;have b:=t6.u31 v;refine⟨_,(au (aL (aM (vR rfl) rfl B.sum_ vU (aa (bR rfl (b6 20 fc ["name","length","kinds","tasks"] 3 [1]) (bF (aJ GX (v3 0) ao)) (fun y m s H z C=>⟨(bO (n:=3) rfl (aG (aC 0 (n5 ["name","length","kinds","tasks"])) (aG (aC 1 (n5 ["name","length","kinds","tasks"])) (aG (aC 2 (n5 ["name","length","kinds","tasks"])) bB)))),(eV (aR (jA b) (v3 0) (v3 3) rfl)),(v3 1)⟩)) ak)))),?_⟩;walk_at "q";walk_at "h";have o:Q (.int (ld tk ns)) H3:=k;clear k;replace l:tk.length<=8:=l;walk_at "";walk_at "c";refine Dy (fun t:Str × Int × List Str=>.str t.1) (fun t=>.int t.2.1) (fun t=>.tup (t.2.2.map T.str)) (fun t=>.int t.2.1) (fun t=>di false (.str t.1) (ns.map T.str)) tk [some (.tup (ns.map T.str))] trivial (by omega) (fun t u r d=>?_) (fun t u _ r d=>d) ?_
 ·clear o;walk_at "";exact⟨rfl,cR ns,by first | trivial | exact d⟩
 intro p q;have e:ints3 ((tk.filter (fun t=>di false (.str t.1) (ns.map T.str))).map (fun t=>T.int t.2.1))=some ((tk.filter (fun t=>di false (.str t.1) (ns.map T.str))).map (·.2.1)):=by rw[<- gB,Zh];rfl
 rw[e,f9];exact n7.of (eH.new q) o
abbrev pY:List Str:=["links","start","found","grown","one","other"]
def abZ:gV pY ["links","start"] (aB (top 3)):=aZ
def xu {f:Addr} (g:G3 K mg "reached" (top 3) ["links","start"] f fd) (B:Bl mg):Oc P w K mg base 1 "reached" (top 3) ["links","start"] Tu:=by
 refine c6 g abZ ?_;rintro _ A _ _ H _ _ H3 _ hr ⟨x,L,u,rfl,hx,hL,k⟩;have M:=t6.u1 hr;refine⟨_,(aj (aF 2 abZ.nd (CT (v3 1) cJ))
   (aj (aF 3 abZ.nd cJ)
   (aj (jy D_ (cW (v3 3)) (aj (aF 3 abZ.nd cJ)
    (au (aW D_ rfl (Js 0) (bO (n:=2) rfl (aG (aC 4 abZ.nd) (aG (aC 5 abZ.nd) bB))) (au (bc (PW3.pt (eN (gO M (v3 4) (v3 2)) (dW (pA M (v3 5) (v3 2))))) (aj (gM M (v3 2) (v3 5) cJ)
      (au (aF 3 abZ.nd cJ))) aO))))))
   (au (aL (v3 2)))))),?_⟩
 walk_at "q";walk_at "h";walk_at "";intro p hp;walk_at "t";rw[RZ];refine⟨fun m Z H=>∃(F:List Str) (g:Bool) (I C:Option T),Z=[some x,some (.str u),some (.ref p),some (.bl g),I,C]/\H=fY H3 p (.dct (dF F))/\u∈F/\F.Nodup/\(∀z∈F,RT (fun a b=>(a,b)∈L) u z)/\(g=false->∀a b,(a,b)∈L->a∈F->b∈F)/\m=2*(L.length+1 - F.length)+(if g then 1 else 0),
  ⟨_,[u],true,none,none,rfl,rfl,l_,by simp,(fun z J=>by rw[i_.mp J];exact .refl),(fun z=>nomatch z),rfl⟩,?_⟩
 have d:∀F:List Str,F.Nodup->(∀z∈F,RT (fun a b=>(a,b)∈L) u z)->F.length<=L.length+1:=fun F V hF=>by
  have:=qT (l:=F) (m:=u::L.map (·.2)) V fun z J=>by
   cases hF z J with
   |refl=>exact l_
   |step _ r=>exact q_ _ (A_.mpr ⟨_,r,rfl⟩)
  simpa using this
 rintro m Z H ⟨F,g,I,C,rfl,rfl,hs,V,hR,hg,rfl⟩;walk_at "";cases g with
 |false=>simp only[y_,Zb];refine n7.of eH.refl (k p _ hp fun z=>?_);rw[lW,n_];exact⟨hR z,fun h=>WD hs (hg rfl) h⟩
 |true =>
  try simp only[if_true]
  have W:(∃a,x=.ref a/\fY H3 p (.dct (dF F)) a=some (.lst (L.map orT)))\/x=.tup (L.map orT):=by
   rcases hx with ⟨a,rfl,e⟩ | e
   ·
    exact .inl ⟨a,rfl,by rw[aD (bz e hp)];exact e⟩
   ·
    exact .inr e
  refine FT W fun still R=>?_
  have v:∀c,still (fY H3 p (.dct (dF c))):=by
   rcases R with rfl | ⟨a,rfl,e⟩
   ·
    exact fun _=>trivial
   ·
    have X:a≠p:=fun z=>by subst z;rw[aq] at e;cases e
    rw[aD X] at e
    exact fun c=>.inl (by rw[aD X];exact e)
  refine aV orT L (fun A Z H=>∃(c:List Str) (g':Bool) (I C:Option T),Z=[some x,some (.str u),some (.ref p),some (.bl g'),I,C]/\H=fY H3 p (.dct (dF c))/\u∈c/\c.Nodup/\(∀z∈c,RT (fun a b=>(a,b)∈L) u z)/\(g'=false->c=F/\∀o∈A,o.1∈F->o.2∈F)/\(g'=true->F.length<c.length)) ⟨F,false,I,C,rfl,rfl,hs,V,hR,fun _=>⟨rfl,(fun _ h=>nomatch h)⟩,(fun z=>nomatch z)⟩ ?_ ?_
  ·
   rintro Z H ⟨c,g',I,C,rfl,rfl,t,q,j,Y,U⟩
   refine⟨v c,?_⟩
   have b1:=d F V hR
   have b2:=d c q j
   cases g' with
   |true =>
    have:=U rfl
    exact⟨_,by simp only[if_true];omega,c,true,I,C,rfl,rfl,t,q,j,(fun z=>nomatch z),rfl⟩
   |false =>
    obtain⟨e,hc⟩:=Y rfl
    subst e
    exact⟨_,by simp,c,false,I,C,rfl,rfl,t,q,j,fun _ a b D y=>hc (a,b) D y,rfl⟩
  ·
   rintro A ⟨a,b⟩ B Z H N e ⟨c,g',I,C,rfl,rfl,t,q,j,Y,U⟩ hN
   refine⟨v c,?_⟩
   have D:(a,b)∈L:=by rw[e];simp
   have b2:=d c q j
   have l1:=lW a c
   have l2:=lW b c
   have l3:=RW c
   have no:¬(a∈c/\b∉c)->N [some x,some (.str u),some (.ref p),some (.bl g'),some (.str a),some (.str b)] (fY H3 p (.dct (dF c))):=fun hno=>hN _ _ ⟨c,g',_,_,rfl,rfl,t,q,j,fun hg'=>by
    obtain⟨e1,hc⟩:=Y hg'
    subst e1
    refine⟨rfl,fun o S=>?_⟩
    rcases u_.mp S with S | S
    ·
     exact hc o S
    ·
     rw[i_.mp S]
     intro y
     exact Classical.byContradiction fun G=>hno ⟨y,G⟩,U⟩
   have O:a∈c->b∉c->N [some x,some (.str u),some (.ref p),some (.bl true),some (.str a),some (.str b)] (fY H3 p (.dct (put3 b (T.bl true) (dF c)))):=fun y G=>by
    rw[RV G]
    refine hN _ _ ⟨c++[b],true,_,_,rfl,rfl,U_ _ t,fM q G,fun z J=>?_,(fun z=>nomatch z),fun _=>?_⟩
    ·
     rcases u_.mp J with J | J
     ·
      exact j z J
     ·
      rw[i_.mp J]
      exact .step (j a y) D
    ·
     rw[d_,v_]
     cases g' with
     |true=>have:=U rfl;omega
     |false=>obtain⟨e1,_⟩:=Y rfl;subst e1;omega
   replace no:=nT.mk no
   replace O:=nT.mk O
   clear hN Y U v R d k hx W hg hR j V q hs t e D
   simp only[orT]
   walk_at ""
   walk_at "t"
   by_cases y:a∈c
   ·
    simp only[y,aao,if_true]
    by_cases G:b∈c
    ·
     simp only[G,aao,aaU,y_,Zb]
     exact no.out fun z=>z.2 G
    ·
     simp only[G,ZL,aaL,if_true]
     exact⟨by omega,O.out y G⟩
   ·
    simp only[y,ZL,y_,Zb]
    exact no.out fun z=>y z.1
abbrev iC:List Str:=["works","task"]
def Ay:gV iC iC (aB (top 4)):=aZ
def Az {f:Addr} (g:G3 K mg "led_to" (top 4) iC f i) (B:Bl mg) (c:Oc P w K mg base 1 "reached" (top 3) ["links","start"] Tu) (b:Oc P w K mg base 1 "links_of" (top 2) ["works"] Tt):Oc P w K mg base 2 "led_to" (top 4) iC Tv:=by
 refine c6 g Ay ?_;rintro _ _ _ _ _ _ _ _ _ l ⟨W,t,rfl,j,k⟩;refine⟨_,(au (aL (aU c l rfl (aa (aU b l rfl (aa (v3 0) ak)) (aa (v3 1) ak))))),?_⟩;walk_at "q";walk_at "";refine⟨W,rfl,j,fun q m=>?_⟩;try dsimp only
 refine⟨_,lkW ["with"] W,t,rfl,.inl ⟨q,rfl,aq⟩,R_ (yM j) (by decide),fun p kvs d n=>?_⟩;obtain⟨u,d⟩:=cM d;refine n7.of (fun a o e=>?_) (k p kvs d n);by_cases h:a=p
 ·subst h;rw[aq] at e ⊢;exact e
 rw[aD h] at e ⊢;rw[aD (bz e m)];exact e
abbrev dU:List Str:=["works","task"]
def uO:gV dU dU (aB (top 5)):=aZ
def uP {f:Addr} (g:G3 K mg "led_from" (top 5) dU f C) (B:Bl mg) (d:Oc P w K mg base 1 "reached" (top 3) ["links","start"] Tu) (c:Oc P w K mg base 1 "links_of" (top 2) ["works"] Tt):Oc P w K mg base 2 "led_from" (top 5) dU Tw:=by
 refine c6 g uO ?_;rintro _ A _ s H _ _ H3 _ m ⟨W,t,rfl,F,k⟩;refine⟨_,(au (aL (aU d m rfl (aa (bR rfl (b6 5 dU ["one","other"] 2 []) (cD (aU c m rfl (aa (v3 0) ak))) (fun M G s H U S=>⟨(bO (n:=2) rfl (aG (aC 0 (n5 ["one","other"])) (aG (aC 1 (n5 ["one","other"])) bB))),cP,(bA (aa (v3 1) (aa (v3 0) ak)))⟩)) (aa (v3 1) ak))))),?_⟩;walk_at "q";walk_at "h";have R:=yM (ws:=["with"]) F;walk_at "";refine⟨W,rfl,F,fun q I=>?_⟩;try dsimp only
 rw[MJ,aq,yu];walk_at "c";refine gC orT (lkW ["with"] W) (fun A y Z H=>H=fY H3 q (.lst ((lkW ["with"] W).map orT))/\y=(A.map swp).map orT/\∃u x:Option T,Z=[u,x]) ⟨rfl,rfl,none,none,rfl⟩ ?_ ?_
 ·rintro y Z H ⟨rfl,rfl,u,x,rfl⟩;refine⟨.inl aq,by rw[g_,g_];omega,fun r m=>?_⟩;obtain⟨n0,v⟩:=cM m;refine⟨_,(lkW ["with"] W).map swp,t,rfl,.inl ⟨r,rfl,aq⟩,by rw[g_];omega,fun p kvs l J=>?_⟩;obtain⟨V,l⟩:=cM l;obtain⟨X,l⟩:=cM l;refine n7.of (fun a o e=>?_) (k p kvs l fun z=>(J z).trans Sd);by_cases h:a=p
  ·subst h;rw[aq] at e ⊢;exact e
  rw[aD h] at e ⊢;rw[aD (bz e v),aD (bz e I)];exact e
 rintro A ⟨a,b⟩ B y Z H N e ⟨rfl,rfl,u,x,rfl⟩ D;have O:A.length<=52:=by have:=T_ List.length e;simp only[d_,j_] at this;omega
 refine⟨.inl aq,?_⟩;have j:=D (((A.map swp).map orT)++[orT (b,a)]) [some (.str a),some (.str b)] _ ⟨rfl,by rw[z_,z_];rfl,_,_,rfl⟩;replace j:=nT.mk j;clear D k e;simp only[orT] at j ⊢;walk_at "";exact⟨trivial,by omega,by omega,j.out⟩
abbrev fj:List Str:=["works","found","other"]
def xx:gV fj fj (aB (top 6)):=aZ
def xF {f:Addr} (g:G3 K mg "in_both" (top 6) fj f o) (B:Bl mg):Oc P w K mg base 1 "in_both" (top 6) fj Xz:=by
 refine c6 g xx ?_;rintro _ _ _ s H _ _ _ _ G ⟨⟨tk,l,prs,m⟩,a,b,c,j,rfl,D,U,R,k⟩;have d:=t6.u1 G;refine⟨_,(au (aL (bH cX rfl B.tuple_ cj (aa (bR rfl (b6 6 fj ["task","found","other"] 1 [1,2]) (bF (aJ GX (v3 0) ao)) (fun J q s H O L=>⟨(aC 0 (n5 ["task","found","other"])),(eV (PW3.pt (eN (gO d (aJ GX (v3 0) ao) (v3 1)) (dW (gO d (aJ GX (v3 0) ao) (v3 2)))))),(aJ GX (v3 0) ao)⟩)) ak)))),?_⟩;walk_at "q";walk_at "h";have M:tk.length<=8:=D.t8;walk_at "";walk_at "c";refine gR tkT (fun t=>T.str t.1) (fun t=>(aP t.1 c).isSome&&(aP t.1 j).isSome) tk [some (.ref a),some (.ref b)] trivial (by omega) (fun t F u n=>?_) (fun t F I u n=>?_) (fun p r=>?_)
 ·obtain⟨nm,v,S⟩:=t;simp only[tkT];dsimp only at n;cases y:(aP nm c).isSome <;> cases C:(aP nm j).isSome <;> simp only[y,C,Bool.and_true,Bool.and_false,aaU,aaL,abC,abK] at n <;> walk_at ""
 ·simp only[tkT];walk_at "";try exact n
 walk_at "";refine n7.of (eH.new r) ?_;have e:(tk.filter fun t=>(aP t.1 c).isSome&&(aP t.1 j).isSome).map (fun t=>T.str t.1)=((tk.map (·.1)).filter fun x=>(aP x c).isSome&&(aP x j).isSome).map T.str:=by rw[List.filter_map,Zh];rfl
 rw[e];exact k
abbrev dB:List Str:=["works","task"]
def uQ:gV dB dB (aB (top 8)):=aZ
def uR {f:Addr} (g:G3 K mg "group_of" (top 8) dB f r) (B:Bl mg) (c:Oc P w K mg base 1 "in_both" (top 6) ["works","found","other"] Xz) (d:Oc P w K mg base 2 "led_to" (top 4) dB Tv) (b:Oc P w K mg base 2 "led_from" (top 5) dB Tw):Oc P w K mg base 3 "group_of" (top 8) dB Tz:=by
 refine c6 g uQ ?_;rintro _ _ _ _ _ _ _ _ _ m ⟨W,t,rfl,i,k⟩;refine⟨_,(au (aL (aU c m rfl (aa (v3 0) (aa (aU d m rfl (aa (v3 0) (aa (v3 1) ak))) (aa (aU b m rfl (aa (v3 0) (aa (v3 1) ak))) ak)))))),?_⟩;walk_at "q";walk_at "";refine⟨W,t,rfl,i,fun p v z j=>?_⟩;try dsimp only
 refine⟨W,t,rfl,i,fun q u y l=>?_⟩;obtain⟨C,n⟩:=cM y;try dsimp only
 refine⟨W,p,q,v,u,rfl,i,by rw[aD (Ne.symm C)];exact aq,aq,?_⟩;refine n7.of (fun a o e=>by rw[aD (bz e n),aD (bz e z)];exact e) ?_;rw[show (W.tasks.map (·.1)).filter (fun x=>(aP x v).isSome&&(aP x u).isSome)=bx W t from ?_]
 ·exact k
 unfold bx;refine ZS fun x F=>?_;rw[Zk,Zi,@n_ _ (Classical.propDecidable _),j x,l x]
abbrev bY:List Str:=["works","found","other"]
def jR:gV bY bY (aB (top 7)):=aZ
def jT {f:Addr} (g:G3 K mg "in_first_alone" (top 7) bY f o) (B:Bl mg):Oc P w K mg base 1 "in_first_alone" (top 7) bY XC:=by
 refine c6 g jR ?_;rintro _ _ _ s H _ _ _ _ G ⟨⟨tk,l,prs,m⟩,a,b,c,j,rfl,D,U,R,k⟩;have d:=t6.u1 G;refine⟨_,(au (aL (bH cX rfl B.tuple_ cj (aa (bR rfl (b6 7 bY ["task","found","other"] 1 [1,2]) (bF (aJ GX (v3 0) ao)) (fun J q s H O L=>⟨(aC 0 (n5 ["task","found","other"])),(eV (PW3.pt (eN (gO d (aJ GX (v3 0) ao) (v3 1)) (dW (pA d (aJ GX (v3 0) ao) (v3 2)))))),(aJ GX (v3 0) ao)⟩)) ak)))),?_⟩;walk_at "q";walk_at "h";have M:tk.length<=8:=D.t8;walk_at "";walk_at "c";refine gR tkT (fun t=>T.str t.1) (fun t=>(aP t.1 c).isSome&&!(aP t.1 j).isSome) tk [some (.ref a),some (.ref b)] trivial (by omega) (fun t F u n=>?_) (fun t F I u n=>?_) (fun p r=>?_)
 ·obtain⟨nm,v,S⟩:=t;simp only[tkT];dsimp only at n;cases y:(aP nm c).isSome <;> cases C:(aP nm j).isSome <;> simp only[y,C,Bool.and_true,Bool.and_false,aaU,aaL,abC,abK] at n <;> walk_at ""
 ·simp only[tkT];walk_at "";try exact n
 walk_at "";refine n7.of (eH.new r) ?_;have e:(tk.filter fun t=>(aP t.1 c).isSome&&!(aP t.1 j).isSome).map (fun t=>T.str t.1)=((tk.map (·.1)).filter fun x=>(aP x c).isSome&&!(aP x j).isSome).map T.str:=by rw[List.filter_map,Zh];rfl
 rw[e];exact k
abbrev dC:List Str:=["works","task"]
def uT:gV dC dC (aB (top 10)):=aZ
def uU {f:Addr} (g:G3 K mg "ahead_of" (top 10) dC f r) (B:Bl mg) (b:Oc P w K mg base 1 "in_first_alone" (top 7) ["works","found","other"] XC) (c:Oc P w K mg base 2 "led_from" (top 5) dC Tw) (d:Oc P w K mg base 2 "led_to" (top 4) dC Tv):Oc P w K mg base 3 "ahead_of" (top 10) dC XF:=by
 refine c6 g uT ?_;rintro _ _ _ _ _ _ _ _ _ m ⟨W,t,rfl,i,k⟩;refine⟨_,(au (aL (aU b m rfl (aa (v3 0) (aa (aU c m rfl (aa (v3 0) (aa (v3 1) ak))) (aa (aU d m rfl (aa (v3 0) (aa (v3 1) ak))) ak)))))),?_⟩;walk_at "q";walk_at "";refine⟨W,t,rfl,i,fun p v z j=>?_⟩;try dsimp only
 refine⟨W,t,rfl,i,fun q u y l=>?_⟩;obtain⟨C,n⟩:=cM y;try dsimp only
 refine⟨W,p,q,v,u,rfl,i,by rw[aD (Ne.symm C)];exact aq,aq,?_⟩;refine n7.of (fun a o e=>by rw[aD (bz e n),aD (bz e z)];exact e) ?_;rw[show (W.tasks.map (·.1)).filter (fun x=>(aP x v).isSome&&!(aP x u).isSome)=jq W t from ?_]
 ·exact k
 unfold jq;refine ZS fun x F=>?_;rw[Zk,Zi,@n_ _ (Classical.propDecidable _),j x,abv,<- Bool.not_eq_true,l x]
abbrev lB:List Str:=["works","groups","task","group"]
def acb:gV lB ["works"] (aB (top 9)):=aZ
def rC {f:Addr} (g:G3 K mg "groups_of" (top 9) ["works"] f u) (B:Bl mg) (d:Oc P w K mg base 3 "group_of" (top 8) ["works","task"] Tz):Oc P w K mg base 4 "groups_of" (top 9) ["works"] XD:=by
 refine c6 g acb ?_;rintro _ A _ _ H _ _ H3 _ D ⟨⟨tk,a,prs,b⟩,rfl,x,k⟩;have l:=t6.u30 D;refine⟨_,(aj (aF 1 acb.nd (bh ak))
   (aj (aW D_ rfl (bF (aJ GX (v3 0) ao)) (aC 2 acb.nd) (aj (aF 3 acb.nd (aU d D rfl (aa (v3 0) (aa (aJ GX (v3 2) ao) ak))))
    (au (bc (aR (cF l) (aJ GX (v3 3) ao) (aJ GX (v3 2) ao)) (au (bC (dj H_ O_ P_ bu (v3 1) (aa (v3 3) ak)))) aO))))
   (au (aL (bH cX rfl B.tuple_ cj (aa (v3 1) ak)))))),?_⟩
 walk_at "q";walk_at "h";have O:tk.length<=8:=x.t8;walk_at "";refine⟨by omega,fun p J=>?_⟩;refine aV tkT tk (fun A Z H=>∃(j v3:Option T),Z=[some (T.tup [T.tup (tk.map tkT),T.tup (a.map orT),T.tup (prs.map prT),T.tup (b.map T.str)]),some (.ref p),j,v3]/\H=fY H3 p (.lst ((((A.map (·.1)).filter fun t=>decide ((bx ⟨tk,a,prs,b⟩ t).head?=some t)).map (bx ⟨tk,a,prs,b⟩)).map sT))) ⟨none,none,rfl,rfl⟩ ?_ ?_
 ·rintro Z H ⟨j,v3,rfl,rfl⟩;walk_at "t";walk_at "";exact n7.of (eH.new J) k
 rintro A ⟨nm,L,R⟩ B Z H N e ⟨j,v3,rfl,rfl⟩ v;have G:A.length<=8:=by have:=T_ List.length e;simp only[d_,j_] at this;omega
 have C:nm∈(⟨tk,a,prs,b⟩:Wk).tasks.map (·.1):=by show nm∈tk.map (·.1);rw[e];simp
 have m:=j8 C;have o:(((A.map (·.1)).filter fun t=>decide ((bx ⟨tk,a,prs,b⟩ t).head?=some t)).map (bx ⟨tk,a,prs,b⟩)).length<=8:=by rw[g_];exact R_ (Zc _ _) (by rw[g_];exact G)
 have c:∀j v3,N [some (T.tup [T.tup (tk.map tkT),T.tup (a.map orT),T.tup (prs.map prT),T.tup (b.map T.str)]),some (.ref p),j,v3] (fY H3 p (.lst ((((A.map (·.1)).filter fun t=>decide ((bx ⟨tk,a,prs,b⟩ t).head?=some t)).map (bx ⟨tk,a,prs,b⟩)).map sT++(if (bx ⟨tk,a,prs,b⟩ nm).head?=some nm then [sT (bx ⟨tk,a,prs,b⟩ nm)] else [])))):=fun j v3=>by
  refine v _ _ ⟨j,v3,rfl,?_⟩;rw[z_,ZG,z_,z_];by_cases h:(bx ⟨tk,a,prs,b⟩ nm).head?=some nm
  ·simp [h]
  simp [h]
 generalize (((A.map (·.1)).filter fun t=>decide ((bx ⟨tk,a,prs,b⟩ t).head?=some t)).map (bx ⟨tk,a,prs,b⟩))=I at c o;replace c:=nT.mk c;walk_at "t";clear v e k;simp only[tkT];walk_at "";refine⟨⟨tk,a,prs,b⟩,nm,rfl,x,?_⟩;cases F:bx ⟨tk,a,prs,b⟩ nm with
 |nil=>rw[F] at m;cases m
 |cons y r =>
 rw[F] at c;clear m C;simp only[sT,J_] at c ⊢;walk_at "";by_cases q:y=nm
 ·simp only[q,aao,if_true,List.head?_cons] at c ⊢;exact⟨⟨trivial,trivial⟩,by omega,c.out _ _⟩
 have n:¬some y=some nm:=fun z=>q (F_ z);simp only[q,n,ZL,y_,Zb,List.head?_cons,W_] at c ⊢;exact c.out _ _
abbrev kI:List Str:=["_law_works_here","_law_names","_law_led","_law_name","_law_one","_law_other","_law_word_here","_law_found","_law_waiting","_law_known","_law_here"]
def xr:gV kI ["_law_works_here"] (aB (top 55)):=aZ
def xG {f:Addr} (g:G3 K mg "_law_chained" (top 55) ["_law_works_here"] f fd) (B:Bl mg):Oc P w K mg base 1 "_law_chained" (top 55) ["_law_works_here"] Xk:=by
 refine c6 g xr ?_;rintro _ A _ s H _ _ H3 _ hr ⟨W,rfl,hW,kk⟩;have hu30:=t6.u30 hr;have hu31:=t6.u31 hr;have U:=t6.u1 hr;refine⟨_,(aj (jz (i:=1) rfl xr.nd (b6 55 kI ["_law_task_here"] 1 []) (bF (aJ GX (v3 0) ao)) (fun cl pins s H C0 fp=>⟨(aC 0 (n5 ["_law_task_here"])),cP,(aJ GX (v3 0) ao)⟩))
   (aj (aF 2 xr.nd jE)
   (aj (aW D_ rfl (cD (v3 1)) (aC 3 xr.nd) (au (gM U (v3 2) (v3 3) (bh ak))))
   (aj (aW D_ rfl (bF (aJ GX (v3 0) ao)) (bO (n:=2) rfl (aG (aC 4 xr.nd) (aG (aC 5 xr.nd) bB))) (au (bC (dj H_ O_ P_ bu (bT U (v3 2) (v3 4)) (aa (v3 5) ak)))))
   (aj (aW D_ rfl (bF (aJ GX (v3 0) ao)) (bO (n:=3) rfl (aG (aC 6 xr.nd) (aG (aC 4 xr.nd) (aG (aC 5 xr.nd) bB)))) (au (bc (aR (cF hu30) (v3 6) cN) (aj (bC (dj H_ O_ P_ bu (bT U (v3 2) (v3 4)) (aa (v3 5) ak)))
     (au (bC (dj H_ O_ P_ bu (bT U (v3 2) (v3 5)) (aa (v3 4) ak))))) aO)))
   (aj (aF 7 xr.nd jE)
   (aj (aW D_ rfl (cD (v3 1)) (aC 3 xr.nd) (aj (aF 8 xr.nd (bH qp rfl B.list_ lM (aa (bT U (v3 2) (v3 3)) ak)))
    (aj (aF 9 xr.nd (bh ak))
    (aj (jy D_ (aR (fP hu30) (v3 8) (bh ak)) (aj (aF 10 xr.nd (wF H_ PySem.F.slot_list_pop PySem.F.type_list_pop Sg (v3 8)))
     (au (bc (aR (jB hu31) (v3 10) (v3 9) rfl) (aj (bC (dj H_ O_ P_ bu (v3 9) (aa (v3 10) ak)))
      (au (bC (dj H_ PySem.F.slot_list_extend PySem.F.type_list_extend zW (v3 8) (aa (bT U (v3 2) (v3 10)) ak))))) aO))))
    (au (gM U (v3 7) (v3 3) (v3 9)))))))
   (au (aL (v3 7)))))))))),?_⟩
 walk_at "q";walk_at "h";have k':=nT.mk kk;clear kk;have t8:=hW.t8;have o28:=hW.os;have p12:=hW.ps;have nl:(nm W).length=W.tasks.length:=cY W;have J:=nT.mk hW;clear hW;walk_at "s";walk_at "c";refine bK tkT (fun t=>T.str t.1) W.tasks [] trivial (by omega) ?c1 ?c2
 case c1 =>
  intro t ht Q' hq
  clear k'
  simp only[tkT]
  walk_at ""
  try exact hq
 intro pn hpn;have e1:W.tasks.map (fun t=>T.str t.1)=(nm W).map T.str:=by unfold nm;rw[Zh];rfl
 rw[e1];have sb0:eH H3 (fY H3 pn (.lst ((nm W).map T.str))):=eH.new hpn;have X:fY H3 pn (.lst ((nm W).map T.str)) pn=some (.lst ((nm W).map T.str)):=aq;generalize fY H3 pn (.lst ((nm W).map T.str))=H4 at sb0 X ⊢;clear e1 hpn;walk_at "n";walk_at "s";intro M hpd;have l0:Ldg H4 (fY H4 M (.dct [])) M [] (fun _=>0) (fun _=>[]):=⟨eH.new hpd,aq,(fun _ h=>nomatch h),(fun _ h=>nomatch h),(fun _ h=>nomatch h),hpd⟩;generalize fY H4 M (.dct [])=H5 at l0 ⊢;clear hpd;walk_at "n";refine aA fun R2 hR2=>?_;have gn5:=l0.sb _ _ X;walk_at "";refine aV T.str (nm W) (fun A Z H=>∃(S:Str->Addr) (v3 R O I V C G c:Option T),Z=[some W.enc,some (.ref pn),some (.ref M),v3,R,O,I,V,C,G,c]/\Ldg H4 H M A S (fun _=>[])) ⟨_,_,_,_,_,_,_,_,_,rfl,l0⟩ ?_ ?_;rotate_left
 ·rintro A n B Z H N e ⟨S,v3,R,O,I,V,C,G,c,rfl,d⟩ Y;refine⟨.inl (d.sb _ _ X),?_⟩;have hnA:n∉A:=fun z=>by have:=J.out.nd;unfold nm at e;rw[e,aae] at this;exact this.2.2 n z n l_ rfl
  have hAl:A.length<9:=by have:=T_ List.length e;rw[nl,d_,j_] at this;omega
  have dcg:=d.dc;have lgl:(dG S A).length=A.length:=g_ _;have k:=nT.mk Y;clear Y e k' hR2;walk_at "";refine⟨by decide,fun p hp=>?_⟩;have np:M≠p:=bz dcg hp;have l2:=(d.more (eH.new (o:=.lst []) hp)).put (K:=[]) hnA aq (fun m u=>bz (d.at_ m u) hp) (cu d.sb hp);have g2:fY H p (.lst []) M=some (.dct (dG S A)):=by rw[aD np];exact dcg
  walk_at "";refine⟨by omega,k.out _ _ ⟨atN n p S,_,_,_,_,_,_,_,_,rfl,?_⟩⟩;rw[show (fun _=>[]:Str->List Str)=atN n [] fun _=>[] from by funext m;unfold atN;split <;> rfl];exact l2
 rintro Z H ⟨S,v3,R,O,I,V,C,G,c,rfl,d⟩;refine⟨.inl (d.sb _ _ X),?_⟩;clear l0 gn5;walk_at "n";refine aA fun R3 hR3=>?_;walk_at "";refine aV orT W.orders (fun A Z H=>∃(L:Str->List Str) (v3 R O I V C G c:Option T),Z=[some W.enc,some (.ref pn),some (.ref M),v3,R,O,I,V,C,G,c]/\Ldg H4 H M (nm W) S L/\(∀n x,x∈L n↔(n,x)∈A)/\∀n,(L n).length<=A.length) ⟨_,_,_,_,_,_,_,_,_,rfl,d,(fun n x=>by simp),fun n=>Zx _⟩ ?_ ?_;rotate_left
 ·rintro A ⟨a,b⟩ B Z H N e ⟨L,v3,R,O,I,V,C,G,c,rfl,d,hL,hl⟩ Y;walk_at "t";have hA:A.length<29:=by have:=T_ List.length e;rw[d_,j_] at this;omega
  have u:a≠b/\a∈nm W/\b∈nm W:=J.out.oo (a,b) (by rw[e];simp);have dcg:=d.dc;have lk:=gW (g:=S) u.2.1;have ga:=d.at_ a u.2.1;have hla:=hl a;have l2:=d.app u.2.1 b;have k:nT (N [some W.enc,some (.ref pn),some (.ref M),v3,some (.str a),some (.str b),I,V,C,G,c] (fY H (S a) (.lst ((L a).map T.str++[T.str b])))):=⟨Y _ _ ⟨_,_,_,_,_,_,_,_,_,rfl,l2,fun n x=>by
   rw[u_,i_,aay,<- hL]
   unfold atN
   split
   ·
    rename_i z;subst z;rw[u_,i_];exact or_congr_right ⟨fun q=>⟨rfl,q⟩,fun q=>q.2⟩
   ·
    rename_i z;exact⟨.inl,fun q=>q.resolve_right fun q=>z q.1⟩,fun n=>by
   rw[d_,v_]
   have:=hl n
   unfold atN
   split
   ·
    rw[d_,v_];omega
   ·
    omega⟩⟩
  clear Y e k' hR3 hL hl l2 u;simp only[orT];walk_at "";exact⟨trivial,⟨trivial,trivial⟩,by omega,k.out⟩
 rintro Z H ⟨L,v3,R,O,I,V,C,G,c,rfl,lg1,hL,hl⟩;walk_at "t";clear d;walk_at "n";refine aA fun R4 hR4=>?_;walk_at "";refine aV prT W.pairs (fun A Z H=>∃(L:Str->List Str) (v3 R O I V C G c:Option T),Z=[some W.enc,some (.ref pn),some (.ref M),v3,R,O,I,V,C,G,c]/\Ldg H4 H M (nm W) S L/\(∀n x,x∈L n↔(n,x)∈W.orders++A.flatMap (lkP ["with"]))/\∀n,(L n).length<=W.orders.length+2*A.length) ⟨_,_,_,_,_,_,_,_,_,rfl,lg1,(fun n x=>by rw[hL];simp),fun n=>by have:=hl n;simp;omega⟩ ?_ ?_;rotate_left
 ·rintro A ⟨wd,a,b⟩ B Z H N e ⟨L,v3,R,O,I,V,C,G,c,rfl,d,hL,hl⟩ Y;walk_at "t";have hA:A.length<13:=by have:=T_ List.length e;rw[d_,j_] at this;omega
  have u:a≠b/\a∈nm W/\b∈nm W:=(J.out.pp (wd,a,b) (by rw[e];simp)).2;have dcg:=d.dc;have lk:=gW (g:=S) u.2.1;have lk2:=gW (g:=S) u.2.2;have ga:=d.at_ a u.2.1;have hla:=hl a;have hlb:=hl b;by_cases c1:wd="with"
  ·subst c1;have l2:=d.app u.2.1 b;have gb:=l2.at_ b u.2.2;rw[eQ (Ne.symm u.1)] at gb;have dcg2:=l2.dc;have l3:=l2.app u.2.2 a;rw[eQ (Ne.symm u.1)] at l3;have k:nT (N [some W.enc,some (.ref pn),some (.ref M),v3,some (.str a),some (.str b),some (.str "with"),V,C,G,c] (fY (fY H (S a) (.lst ((L a).map T.str++[T.str b]))) (S b) (.lst ((L b).map T.str++[T.str a])))):=⟨Y _ _ ⟨_,_,_,_,_,_,_,_,_,rfl,l3,fun n x=>by
    rw[List.flatMap_append,<- Zt,u_,<- hL,List.flatMap_singleton,Xj,aay,aay]
    unfold atN
    by_cases z:n=b
    ·
     subst z
     rw[if_pos rfl,u_,i_]
     exact or_congr_right ⟨fun q=>.inr ⟨rfl,q⟩,fun q=>q.elim (fun q=>absurd q.1.symm u.1) fun q=>q.2⟩
    ·
     rw[if_neg z]
     by_cases z2:n=a
     ·
      subst z2
      rw[if_pos rfl,u_,i_]
      exact or_congr_right ⟨fun q=>.inl ⟨rfl,q⟩,fun q=>q.elim (fun q=>q.2) fun q=>absurd q.1 z⟩
     ·
      rw[if_neg z2]
      exact⟨.inl,fun q=>q.resolve_right fun q=>q.elim (fun q=>z2 q.1) fun q=>z q.1⟩,fun n=>by
    rw[d_,v_]
    have:=hl n
    unfold atN
    split
    ·
     rw[d_,v_];omega
    ·
     split
     ·
      rw[d_,v_];omega
     ·
      omega⟩⟩
   clear Y e k' hR4 hL hl l2 l3 u d;simp only[prT];walk_at "";exact⟨trivial,⟨trivial,trivial⟩,by omega,⟨trivial,trivial⟩,by omega,k.out⟩
  have k:nT (N [some W.enc,some (.ref pn),some (.ref M),v3,some (.str a),some (.str b),some (.str wd),V,C,G,c] H):=⟨Y _ _ ⟨_,_,_,_,_,_,_,_,_,rfl,d,fun n x=>by
   rw[List.flatMap_append,<- Zt,u_,<- hL,List.flatMap_singleton]
   unfold lkP
   rw[if_neg (by simpa using c1)]
   simp,fun n=>by
   rw[d_,v_]
   have:=hl n
   omega⟩⟩
  clear Y e k' hR4 hL hl u d;simp only[prT];walk_at "";try simp only[c1,ZL,y_,Zb]
  exact⟨trivial,k.out⟩
 rintro Z Hx ⟨L,v3,R,O,I,V,C,G,c,rfl,d,hL2,hl2⟩;walk_at "t";clear lg1 hL hl;have hLk:nT (∀n x,x∈L n↔lkR ["with"] W n x):=⟨hL2⟩;have hLl:∀n,(L n).length<=52:=fun n=>by have:=hl2 n;omega
 clear hL2 hl2;walk_at "n";walk_at "s";intro pf hpf;have l0:Ldg Hx (fY Hx pf (.dct [])) pf [] (fun _=>0) (fun _=>[]):=⟨eH.new hpf,aq,(fun _ h=>nomatch h),(fun _ h=>nomatch h),(fun _ h=>nomatch h),hpf⟩;generalize fY Hx pf (.dct [])=H6 at l0 ⊢;clear hpf;have gnx:=d.sb _ _ X;have dcx:=d.dc;have atx:=nT.mk d.at_;have sbx:=(sb0.trans d.sb);clear d X sb0;walk_at "n";refine aA fun R6 hR6=>?_;have gn6:=l0.sb _ _ gnx;walk_at "";refine aV T.str (nm W) (fun A Z H=>∃(kd:Str->Addr) (K:Str->List Str) (v3 R O I C G c:Option T),Z=[some W.enc,some (.ref pn),some (.ref M),v3,R,O,I,some (.ref pf),C,G,c]/\Ldg Hx H pf A kd K/\∀n∈A,∀x,x∈K n↔Ld1 W n x) ⟨_,_,_,_,_,_,_,_,_,rfl,l0,(fun _ h=>nomatch h)⟩ ?_ ?_
 ·rintro Z H ⟨kd,K2,v3,R,O,I,C,G,c,rfl,l,hK⟩;refine⟨.inl (l.sb _ _ gnx),?_⟩;have fin:=nT.mk (k'.out H pf kd K2 (sbx.trans l.sb) l.dc l.at_ hK);clear k' l hK;walk_at "n";walk_at "";exact n7.of eH.refl fin.out
 rintro A t B Z Hb N e ⟨kd,K2,v3,R,O,I,C,G,c,rfl,l,hK⟩ Y;refine⟨.inl (l.sb _ _ gnx),?_⟩;have ht:t∈nm W:=by rw[e];simp
 have hnA:t∉A:=fun z=>by have:=J.out.nd;unfold nm at e;rw[e,aae] at this;exact this.2.2 t z t l_ rfl
 have hAl:A.length<9:=by have:=T_ List.length e;rw[nl,d_,j_] at this;omega
 have gd:=l.sb _ _ dcx;have lk:=gW (g:=S) ht;have ga:=l.sb _ _ (atx.out t ht);have lt:=hLl t;have k:nT (∀(H2:lO) (j:List Str) (D pk:Addr) (c:Option T),eH Hb H2->Hb pk=none->H2 pk=some (.lst (j.map T.str))->(∀x,x∈j↔Ld1 W t x)->N [some W.enc,some (.ref pn),some (.ref M),some (.str t),R,O,I,some (.ref pf),some (.ref D),some (.ref pk),c] (fY H2 pf (.dct (put3 t (T.ref pk) (dG kd A))))):=⟨fun H2 j D pk c s2 hk gk hks=>Y _ _ ⟨atN t pk kd,atN t j K2,_,_,_,_,_,_,_,rfl,(l.more s2).put hnA gk (fun m u=>bz (l.at_ m u) hk) (cu l.sb hk),fun n hn x=>by
  rcases u_.mp hn with hn | hn
  ·
   rw[show atN t j K2 n=K2 n from eQ fun z=>hnA (z▸hn)];exact hK n hn x
  ·
   rw[i_.mp hn,d7];exact hks x⟩⟩
 clear Y e k' hR6 hK l0 gn6;walk_at "s";intro D hpw;walk_at "n";walk_at "s";refine⟨by decide,fun pk hpk=>?_⟩;have hk0:=cM hpk;have sw:eH Hb (fY (fY Hb D (.lst ((L t).map T.str))) pk (.lst (([]:List Str).map T.str))):=(eH.new hpw).trans (eH.new hpk);have gw:fY (fY Hb D (.lst ((L t).map T.str))) pk (.lst (([]:List Str).map T.str)) D=some (.lst ((L t).map T.str)):=by rw[aD (Ne.symm hk0.1)];exact aq
 have gk:fY (fY Hb D (.lst ((L t).map T.str))) pk (.lst (([]:List Str).map T.str)) pk=some (.lst (([]:List Str).map T.str)):=aq;rw[show (.lst []:O3)=.lst (([]:List Str).map T.str) from rfl];generalize fY (fY Hb D (.lst ((L t).map T.str))) pk (.lst (([]:List Str).map T.str))=H7 at sw gw gk ⊢;clear hpk;walk_at "n";refine aA fun R9 hR9=>?_;have gt0:Gth W t (L t) []:=⟨fun x h=>⟨x,(hLk.out t x).mp (h.resolve_right (by simp)),.refl⟩,fun x h=>.inl ((hLk.out t x).mpr h),(fun _ _ h=>nomatch h),aaY⟩;have kle:nT (∀ws j,Gth W t ws j->j.length<=8):=⟨fun ws j g=>by
  have:=qT (l:=j) (m:=nm W) g.nd fun x hx=>by
   obtain⟨y,h1,h2⟩:=g.fr x (.inr hx)
   cases h2 with
   |refl=>exact (zf J.out h1).2
   |step _ h=>exact (zf J.out h).2
  omega⟩
 walk_at "";refine⟨fun m Z H=>∃(ws j:List Str) (c:Option T),Z=[some W.enc,some (.ref pn),some (.ref M),some (.str t),R,O,I,some (.ref pf),some (.ref D),some (.ref pk),c]/\eH Hb H/\H D=some (.lst (ws.map T.str))/\H pk=some (.lst (j.map T.str))/\Gth W t ws j/\ws.length<=52*(j.length+1)/\m=(9 - j.length)*100+ws.length,⟨_,L t,[],_,rfl,sw,gw,gk,gt0,by simp;exact lt,rfl⟩,?_⟩;rintro m Z H ⟨ws,j,c,rfl,sb,gw,gk,gt,hwl,rfl⟩;have k8:=kle.out ws j gt;have dr:=sb _ _ gd;clear gt0 sw;walk_at "";refine⟨by decide,fun p hp=>?_⟩;have np:D≠p:=bz gw hp;have gw1:fY H p (.lst []) D=some (.lst (ws.map T.str)):=by rw[aD np];exact gw
 have gk1:fY H p (.lst []) pk=_ := upa gk hp;have sb1:eH Hb (fY H p (.lst [])):=sb.trans (eH.new hp);have gp1:fY H p (.lst []) p=some (.lst []):=aq;generalize fY H p (.lst [])=H8 at gw1 gk1 sb1 gp1 ⊢;clear gw gk sb dr hp;have plw:=cR ws;have plk:=cR j;have pln:([]:List T).all (pl 20)=true:=rfl;rcases List.eq_nil_or_concat ws with r | ⟨v,x,r⟩
 ·have x3:decide (ws.map T.str=[])=true:=by rw[r];rfl
  rw[r] at gt;have fin:=nT.mk (k.out H8 j D pk c sb1 hk0.2 gk1 gt.fin);have gf:=sb1 _ _ l.dc;have lgl:(dG kd A).length=A.length:=g_ _;clear gt k kle hLk r atx;walk_at "";walk_at "n";walk_at "";exact⟨trivial,trivial,trivial,by omega,fin.out⟩
 have x1:(ws.map T.str)[ws.length - 1]?=some (T.str x):=by rw[r];simp
 have x2:(ws.map T.str).dropLast=v.map T.str:=by rw[r];simp
 have x3:decide (ws.map T.str=[])=false:=by rw[r];simp
 have xl:nT (ws.length=v.length+1):=⟨by rw[r];simp⟩;have plx:pl 20 (T.str x)=true:=rfl;rw[r,List.concat_eq_append] at gt;have hxn:x∈nm W:=by
  obtain⟨y,h1,h2⟩:=gt.fr x (.inl (by simp));cases h2 with
  |refl=>exact (zf J.out h1).2
  |step _ h=>exact (zf J.out h).2
 have npk:D≠pk:=Ne.symm hk0.1;have sb2:eH Hb (fY H8 D (.lst (v.map T.str))):=jr sb1 hpw;by_cases hx:x∈j
 ·have x4:di true (T.str x) (j.map T.str)=false:=by unfold di;rw[if_pos rfl,Bool.not_eq_false',n_];exact A_.mpr ⟨x,hx,rfl⟩
  have g2:=nT.mk (gt.old hx);have sb3:=nT.mk sb2;clear gt k kle hLk r atx hx sb2 hxn;walk_at "";have xl':=xl.out;refine⟨trivial,trivial,trivial,⟨trivial,trivial⟩,trivial,trivial,_,?_,v,j,_,rfl,sb3.out,rfl,rfl,g2.out,by omega,rfl⟩;omega
 have x4:di true (T.str x) (j.map T.str)=true:=by unfold di;rw[if_pos rfl,abv,aat];intro z;obtain⟨y,hy,e⟩:=A_.mp z;cases e;exact hx hy
 have g2:=nT.mk (gt.new hx (hLk.out x));have sb3:eH Hb (fY (fY H8 D (.lst (v.map T.str))) pk (.lst (j.map T.str++[T.str x]))):=jr sb2 hk0.2;have gdx:=sb3 _ _ gd;have lkx:=gW (g:=S) hxn;have gax:=sb3 _ _ (l.sb _ _ (atx.out x hxn));have gwx:fY (fY H8 D (.lst (v.map T.str))) pk (.lst (j.map T.str++[T.str x])) D=some (.lst (v.map T.str)):=by rw[aD npk];exact aq
 have lx:=hLl x;have sb4:=nT.mk (jr (o:=.lst (v.map T.str++(L x).map T.str)) sb3 hpw);have k7:=(kle.out _ _ g2.out);rw[d_,v_] at k7;clear gt k kle hLk r atx hx sb2 hxn sb3;walk_at "";have xl':=xl.out;refine⟨trivial,trivial,trivial,⟨trivial,trivial⟩,trivial,trivial,⟨trivial,trivial⟩,by omega,⟨trivial,trivial⟩,by omega,_,?_,v++L x,j++[x],_,rfl,sb4.out,by rw[z_],by rw[z_];rfl,g2.out,?_,rfl⟩
 ·rw[d_,d_,v_];omega
 rw[d_,d_,v_];omega
abbrev jU:List Str:=["_law_works_here","_law_names","_law_led","_law_groups_here","_law_name","_law_group"]
def ace:gV jU ["_law_works_here"] (aB (top 56)):=aZ
def Ba {f:Addr} (g:G3 K mg "_law_groups" (top 56) ["_law_works_here"] f fd) (B:Bl mg) (b:Oc P w K mg base 1 "_law_chained" (top 55) ["_law_works_here"] Xk):Oc P w K mg base 2 "_law_groups" (top 56) ["_law_works_here"] Xl:=by
 refine c6 g ace ?_;rintro _ A _ s H _ _ H3 _ hr ⟨W,rfl,hW,kk⟩;have l:=t6.u30 hr;have m:=t6.u31 hr;have X:=t6.u1 hr;refine⟨_,(aj (jz (i:=1) rfl ace.nd (b6 56 jU ["_law_task_here"] 1 []) (bF (aJ GX (v3 0) ao)) (fun cl S s H C0 fp=>⟨(aC 0 (n5 ["_law_task_here"])),cP,(aJ GX (v3 0) ao)⟩))
   (aj (aF 2 ace.nd (aU b hr rfl (aa (v3 0) ak)))
   (aj (aF 3 ace.nd (bh ak))
   (aj (aW D_ rfl (cD (v3 1)) (aC 4 ace.nd) (aj (jz (i:=5) rfl ace.nd (b6 56 jU ["_law_other","_law_name","_law_led"] 1 [4,2]) (cD (v3 1)) (fun cl S s H C0 fp=>⟨(aC 0 (n5 ["_law_other","_law_name","_law_led"])),(eV (PW3.pt (iZ (aR (cF l) (v3 0) (v3 1)) (jf (PW3.pt (eN (aR (jA m) (v3 0) (bT X (v3 2) (v3 1)) rfl) (dW (aR (jA m) (v3 1) (bT X (v3 2) (v3 0)) rfl)))))))),(v3 0)⟩))
    (au (bc (aR (cF l) (aJ GX (v3 5) ao) (v3 4)) (au (bC (dj H_ O_ P_ bu (v3 3) (aa (bH cX rfl B.tuple_ cj (aa (v3 5) ak)) ak)))) aO))))
   (au (aL (v3 3))))))),?_⟩
 walk_at "q";walk_at "h";have k':=nT.mk kk;clear kk;have t8:=hW.t8;have nl:(nm W).length=W.tasks.length:=cY W;have hW':=nT.mk hW;clear hW;walk_at "s";walk_at "c";refine bK tkT (fun t=>T.str t.1) W.tasks [] trivial (by omega) ?c1 ?O
 case c1 =>
  intro t M Q' F
  clear k'
  simp only[tkT]
  walk_at ""
  try exact F
 intro G L;have e1:W.tasks.map (fun t=>T.str t.1)=(nm W).map T.str:=by unfold nm;rw[Zh];rfl
 rw[e1];have v:eH H3 (fY H3 G (.lst ((nm W).map T.str))):=eH.new L;have d:fY H3 G (.lst ((nm W).map T.str)) G=some (.lst ((nm W).map T.str)):=aq;generalize fY H3 G (.lst ((nm W).map T.str))=H4 at v d ⊢;clear e1 L;walk_at "n";walk_at "s";refine⟨W,rfl,hW'.out,fun q pf kd C I gf U hK=>?_⟩;try dsimp only
 walk_at "n";walk_at "s";refine⟨by decide,fun j o=>?_⟩;have h0:=cu (v.trans I) o;have u:eH q (fY q j (.lst [])):=eH.new o;have n:fY q j (.lst []) j=some (.lst ((([]:List Str).map (bx W)).map sT)):=aq;generalize fY q j (.lst [])=H6 at u n ⊢;walk_at "n";refine aA fun R3 hR3=>?_;have gn6:=u _ _ (I _ _ d);walk_at "";refine aV T.str (nm W) (fun A Z H=>∃(J D:Option T),Z=[some W.enc,some (.ref G),some (.ref pf),some (.ref j),J,D]/\eH q H/\H j=some (.lst (((A.filter fun t=>decide ((bx W t).head?=some t)).map (bx W)).map sT))) ⟨_,_,rfl,u,n⟩ ?_ ?_
 ·rintro Z H ⟨J,D,rfl,k,n⟩;refine⟨.inl (k _ _ (I _ _ d)),?_⟩;have fin:=nT.mk (k'.out H j ((v.trans I).trans k) n);clear k';walk_at "n";walk_at "";exact n7.of eH.refl fin.out
 rintro A t B Z H N e ⟨J,D,rfl,k,n⟩ hN;refine⟨.inl (k _ _ (I _ _ d)),?_⟩;have M:t∈nm W:=by rw[e];simp
 have hAl:A.length<9:=by have:=T_ List.length e;rw[nl,d_,j_] at this;omega
 have hfl:((A.filter fun t=>decide ((bx W t).head?=some t)).map (bx W)).length<=A.length:=by rw[g_];exact Zc _ _
 have gd:=k _ _ gf;have gn:=k _ _ (I _ _ d);have lkt:=gW (g:=kd) M;have gat:=k _ _ (U t M);have c:nT (∀J D H',eH q H'->H' j=some (.lst (((A.filter fun t=>decide ((bx W t).head?=some t)).map (bx W)).map sT++if (bx W t).head?=some t then [sT (bx W t)] else []))->N [some W.enc,some (.ref G),some (.ref pf),some (.ref j),J,D] H'):=⟨fun J D H' s' g'=>hN _ _ ⟨_,_,rfl,s',by
  rw[g',ZG,z_,z_]
  by_cases h:(bx W t).head?=some t
  ·
   simp [h]
  ·
   simp [h]⟩⟩
 have R:=j8 (W:=W) M;clear hN e k' hR3;refine aA fun R4 V=>?_;walk_at "";walk_at "c";refine gR T.str T.str (fun x=>decide (x=t)||(decide (x∈C t)&&decide (t∈C x))) (nm W) [some (.str t),some (.ref pf)] (.inl gn) (by omega) (fun x hx Q' F=>?_) (fun x hx hpx Q' F=>?_) (fun p1 p=>?_)
 ·have lkx:=gW (g:=kd) hx;have gax:=k _ _ (U x hx);have m1:=jP (x:=x) (xs:=C t);have m2:=jP (x:=t) (xs:=C x);have p1:=cR (C t);have p2:=cR (C x);have q1:pl 20 (T.str x)=true:=rfl;have q2:pl 20 (T.str t)=true:=rfl;have a:=nT.mk F;clear F c V hK U R;walk_at "";by_cases c1:x=t
  ·have Y:decide (x=t)=true:=L_ c1;rw[Y,Bool.true_or] at a;simp only[Y,if_true];exact a.out
  have Y:decide (x=t)=false:=I_ c1;rw[Y,Bool.false_or] at a;simp only[Y,y_,Zb];by_cases O:x∈C t
  ·rw[L_ O,abC] at a;simp only[O,aao,if_true];exact⟨trivial,trivial,trivial,trivial,a.out⟩
  rw[I_ O,abK] at a;simp only[O,ZL,y_,Zb];exact⟨trivial,trivial,a.out⟩
 ·clear c V hK U R;walk_at "";try exact F
 rw[Lb hK M];clear hK U;have np:j≠p1:=bz n p;have s1:eH q (fY H p1 (.lst ((bx W t).map T.str))):=k.trans (eH.new p);have g1:fY H p1 (.lst ((bx W t).map T.str)) p1=some (.lst ((bx W t).map T.str)):=aq;have g2:fY H p1 (.lst ((bx W t).map T.str)) j=some (.lst (((A.filter fun t=>decide ((bx W t).head?=some t)).map (bx W)).map sT)):=by rw[aD np];exact n
 generalize fY H p1 (.lst ((bx W t).map T.str))=H7 at s1 g1 g2 ⊢;generalize (A.filter fun t=>decide ((bx W t).head?=some t)).map (bx W)=cur at *;clear gd gn gat n p lkt;walk_at "n";cases eg:bx W t with
 |nil=>rw[eg] at R;cases R
 |cons y r =>
 rw[eg] at c g1;clear R;simp only[sT,J_,List.head?_cons] at c g1;walk_at "";by_cases hy:y=t
 ·rw[if_pos (L_ hy)];refine⟨⟨trivial,trivial⟩,by omega,c.out _ _ _ (jr s1 o) ?_⟩;rw[aq,if_pos (by rw[hy])]
 rw[if_neg (jF hy)];exact c.out _ _ _ s1 (by rw[g2,if_neg fun z=>hy (F_ z),W_])
abbrev kJ:List Str:=["self","tasks","length"]
def xH:gV kJ kJ (aB (ab8 13 0)):=aZ
def xJ {f:Addr} (F:Fun K "__init__" "TooLong.__init__" (ab8 13 0) f d):acv P w K mg base CX0 1 f d kJ (wY K ["tasks","length"]):=by
 refine F.ok xH (fun vs H Q E ⟨e,g,C,c,m,l,_⟩=>by rw[m];simp [l]) fun q A outer s H vs Q E r h=>?_;refine⟨_,rJ (Wr (pv 0) (pv 1) rfl) (xO (Ws (pv 0) (pv 2) rfl)),?_⟩;obtain⟨e,g,C,c,rfl,o,n,S,j,k⟩:=h
 match g,o with
 |[y,z],_ =>
 refine⟨y,rfl,V.ref e,rfl,e,C,c,true,rfl,n,S,j "tasks" (by simp),fun i b a=>?_⟩;refine⟨z,rfl,V.ref e,rfl,e,C,c,true,i,[("tasks",y)],rfl,aY,(aK a).trans aY,(by decide:1<1000),S,j "length" (by simp),?_⟩;have p:dY "length" z [("tasks",y)]=[(("tasks":Str),y),(("length":Str),z)]:=by unfold dY;rw[if_neg (by decide)];rfl
 rw[p,Fp (Ne.symm a),Hv];exact k i b a
abbrev Ha:List Str:=["_law_works_here","_law_beat_here","_law_many","_law_places","_law_stand"]
def adL:gV Ha ["_law_works_here","_law_beat_here","_law_many","_law_places"] (aB (top 54)):=aZ
def eY {f:Addr} (g:G3 K mg "_law_some" (top 54) ["_law_works_here","_law_beat_here","_law_many","_law_places"] f S) (B:Bl mg) (l:Oc P w K mg base 1 "_law_may" (top 53) ["_law_works_here","_law_beat_here","_law_places","_law_stand"] Xo) (j:Oc P w K mg base (n+1) "_law_some" (top 54) ["_law_works_here","_law_beat_here","_law_many","_law_places"] (GZ m)):Oc P w K mg base (n+2) "_law_some" (top 54) ["_law_works_here","_law_beat_here","_law_many","_law_places"] (GZ (m+1)):=by
 refine c6 g adL ?_;rintro _ A _ s H _ _ H3 Q L ⟨W,eG,many,q,ps,rfl,y,k,Y,hl1,hl2,U⟩;have x:=t6.u30 L;refine⟨_,(aj (bc (aR (cF x) (aM bZ rfl B.len_ cg (aa (v3 3) ak)) (aM bZ rfl B.len_ cg (aa (aJ GX (v3 0) ao) ak))) (au (aL cJ)) aO)
   (aj (aW D_ rfl (cA rfl B.range_ (aa (v3 2) ak)) (aC 4 adL.nd) (au (bc (PW3.pt (eN (cW (aU l (L.mono (Nat.le_add_left 1 n)) rfl (aa (v3 0) (aa (v3 1) (aa (v3 3) (aa (v3 4) ak)))))) (dW (cW (Do j (L.mono (m_ _)) rfl (aa (v3 0) (aa (v3 1) (aa (v3 2) (aa (aH bf (v3 3) (bh (aa (v3 4) ak))) ak))))))))) (au (aL cJ)) aO)))
   (au (aL cJ)))),?_⟩
 walk_at "q";walk_at "h";have C:=nT.mk U;clear U;have t8:=y.t8;have r8:=y.r8;walk_at "s";by_cases G:ps.length=W.tasks.length
 ·rw[if_pos (L_ (by rw[G]))];exact n7.of eH.refl (C.out true ⟨fun _=>GP G,fun _=>rfl⟩)
 rw[if_neg (jF (by omega))];have p:ps.length<W.tasks.length:=by omega
 have a:=nT.mk (GQ (eG:=eG) (many:=many) p);obtain⟨m,rfl⟩:∃m',m=m'+1:=⟨m - 1,by omega⟩;have t:=nT.mk y;clear y G;walk_at "n";refine aA fun R1 I=>?_;walk_at "";refine⟨trivial,by omega,by omega,?_⟩;rw[m9];refine aV (fun (i:Nat)=>T.int (i:Int)) (List.range many) (fun A Z H=>∃(J:Option T),Z=[some W.enc,some (.int eG),some (.int (many:Int)),some (.ref q),J]/\eH H3 H/\∀i,i<A.length->¬(Mym W eG ps i/\Way W eG many (ps++[i]))) ⟨_,rfl,eH.refl,fun i h=>absurd h (abp _)⟩ ?_ ?_
 ·rintro Z H ⟨J,rfl,r,d⟩;walk_at "t";rw[C_] at d;walk_at "n";walk_at "";exact n7.of r (C.out false ⟨fun z=>(nomatch z),fun z=>by
   obtain⟨i,D,h2⟩:=a.out.mp z
   exact absurd h2 (d i D)⟩)
 rintro A c B Z H N e ⟨J,rfl,r,d⟩ X;walk_at "t";have R:A.length<many:=by have:=T_ List.length e;simp only[d_,j_,C_] at this;omega
 have hc:c=A.length:=by
  have D:(List.range many)[A.length]?=some c:=by rw[e,Q_ (m_ _)];simp
  rw[Zg R] at D;exact (F_ D).symm
 subst hc;have O:=r _ _ Y;have V:nT (¬(Mym W eG ps A.length/\Way W eG many (ps++[A.length]))->∀H',eH H3 H'->N [some W.enc,some (.int eG),some (.int (many:Int)),some (.ref q),some (.int (A.length:Int))] H'):=⟨fun z H' s'=>X _ _ ⟨_,rfl,s',fun i hi=>by
  rw[d_,v_] at hi
  by_cases h:i<A.length
  ·
   exact d i h
  ·
   rw[show i=A.length by omega];exact z⟩⟩
 have fT:nT (Mym W eG ps A.length/\Way W eG many (ps++[A.length])->∀H',eH H3 H'->n7 Q (.bl true) H'):=⟨fun z H' s'=>n7.of s' (C.out true ⟨fun _=>a.out.mpr ⟨_,R,z⟩,fun _=>rfl⟩)⟩;clear X e C I d a;walk_at "";refine⟨W,eG,q,ps,A.length,rfl,t.out,O,p,by omega,fun b o=>?_⟩;cases b with
 |false=>simp only[eX,y_,Zb];exact V.out (fun z=>G_ (o.mpr z.1)) H r
 |true =>
  have F:=o.mp rfl
  clear o
  try simp only[eX,if_true]
  walk_at ""
  refine⟨by decide,fun p1 u=>?_⟩
  rw[aD (bz O u),O,jl]
  refine⟨by rw[g_,v_];omega,fun p2 M=>?_⟩
  rw[show ps.map ni++[T.int (A.length:Int)]=(ps++[A.length]).map ni by rw[z_];rfl]
  have v:eH H3 (fY (fY H p1 (.lst [T.int (A.length:Int)])) p2 (.lst ((ps++[A.length]).map ni))):=r.trans ((eH.new u).trans (eH.new M))
  refine zj t.out k aq (by rw[d_,v_];omega) (by rw[d_,v_];omega) fun b o=>?_
  cases b with
  |false =>
   simp only[eX,y_,Zb]
   exact V.out (fun z=>G_ (o.mpr z.2)) _ v
  |true =>
   try simp only[eX,if_true]
   exact fT.out ⟨F,o.mp rfl⟩ _ v
def XH {f:Addr} (g:G3 K mg "_law_some" (top 54) ["_law_works_here","_law_beat_here","_law_many","_law_places"] f a):Oc P w K mg base 1 "_law_some" (top 54) ["_law_works_here","_law_beat_here","_law_many","_law_places"] (GZ 0) :=
 ⟨f,a,g,⟨fun _ _ _ _ h=>by obtain⟨_,_,_,_,_,h,_⟩:=h;exact h.elim,fun _ _ _ _ _ _ _ _ _ _ _ _ _ h=>by obtain⟨_,_,_,_,_,h,_⟩:=h;exact h.elim⟩⟩
abbrev NZ:List Str:=["_law_works_here","_law_beat_here","_law_places","_law_stand","_law_tasks","_law_orders","_law_pairs","_law_row","_law_k","_law_name","_law_length","_law_kinds","_law_place","_law_at","_law_one","_law_other","_law_word_here"]
def Z5:gV NZ ["_law_works_here","_law_beat_here","_law_places","_law_stand"] (aB (top 53)):=aZ
def TF {f:Addr} (g:G3 K mg "_law_may" (top 53) ["_law_works_here","_law_beat_here","_law_places","_law_stand"] f fd) (B:Bl mg):Oc P w K mg base 1 "_law_may" (top 53) ["_law_works_here","_law_beat_here","_law_places","_law_stand"] Xo:=by
 refine c6 g Z5 ?_;rintro _ A _ s H _ _ H3 Q hr ⟨W,eG,q,ps,j,rfl,hW,hq,hpl,hj,kk⟩;have J:=t6.u30 hr;have hu31:=t6.u31 hr;have D:=t6.u1 hr;refine⟨_,(aj (ig (v3 0) (bO (n:=4) rfl (aG (aC 4 Z5.nd) (aG (aC 5 Z5.nd) (aG (aC 6 Z5.nd) (aG (aC 7 Z5.nd) bB))))))
   (aj (aF 8 Z5.nd (aM bZ rfl B.len_ cg (aa (v3 2) ak)))
   (aj (ig (aJ GX (v3 4) (v3 8)) (bO (n:=3) rfl (aG (aC 9 Z5.nd) (aG (aC 10 Z5.nd) (aG (aC 11 Z5.nd) bB)))))
   (aj (bc (PW3.pt (eN (aR (fP J) (v3 11) (bA ak)) (dW (aR (jB hu31) (aJ GX (v3 7) (v3 3)) (v3 11) rfl)))) (au (aL cJ)) aO)
   (aj (aF 12 Z5.nd jE)
   (aj (aW D_ rfl (cA rfl B.range_ (aa (v3 8) ak)) (aC 13 Z5.nd) (aj (gM D (v3 12) (aJ GX (aJ GX (v3 4) (v3 13)) ao) (aJ GX (v3 2) (v3 13)))
    (au (bc (aR (cF J) (aJ GX (v3 2) (v3 13)) (v3 3)) (au (aF 10 Z5.nd (aH bf (v3 10) (aJ GX (aJ GX (v3 4) (v3 13)) ao)))) aO))))
   (aj (gM D (v3 12) (v3 9) (v3 3))
   (aj (bc (aR mO (v3 10) (v3 1)) (au (aL cJ)) aO)
   (aj (aW D_ rfl (bF (v3 5)) (bO (n:=2) rfl (aG (aC 14 Z5.nd) (aG (aC 15 Z5.nd) bB))) (au (bc (PW3.pt (eN (gO D (v3 14) (v3 12)) (eN (gO D (v3 15) (v3 12)) (dW (aR mO (bT D (v3 12) (v3 14)) (bT D (v3 12) (v3 15))))))) (au (aL cJ)) aO)))
   (aj (aW D_ rfl (bF (v3 6)) (bO (n:=3) rfl (aG (aC 16 Z5.nd) (aG (aC 14 Z5.nd) (aG (aC 15 Z5.nd) bB)))) (au (bc (PW3.pt (eN (gO D (v3 14) (v3 12)) (eN (gO D (v3 15) (v3 12)) (dW (aR (fP J) (d9 (cF J) (bT D (v3 12) (v3 14)) (bT D (v3 12) (v3 15))) (d9 (cF J) (v3 16) cN)))))) (au (aL cJ)) aO)))
   (au (aL cJ)))))))))))),?_⟩
 walk_at "q";walk_at "h";have k':=nT.mk kk;clear kk;have t8:=hW.t8;have r8:=hW.r8;obtain⟨⟨x,ln,S⟩,ht⟩:∃t,W.tasks[ps.length]?=some t:=⟨_,e_ hpl⟩;have hat:=NP ht;have hW':=nT.mk hW;clear hW;walk_at "s";walk_at "t";walk_at "n";walk_at "s";walk_at "n";refine aA fun R2 hR2=>?_;simp only[tkT] at hat
 walk_at "";walk_at "t";simp only[sT];walk_at "n";have i2:=cR S;have em:=Sw (x:=W.row.getD j "") (xs:=S);have x0:=xg hj;have fF:nT (¬Mym W eG ps j->n7 Q (.bl false) H3):=⟨fun z=>n7.of eH.refl (k'.out false ⟨fun q=>(nomatch q),fun h=>absurd h z⟩)⟩;have hk0:nT (Mym W eG ps j->iU S (W.row.getD j "")=true):=⟨fun m=>m.kin _ ht⟩;refine aA fun R3 hR3=>?_
 suffices key:iU S (W.row.getD j "")=true->R3 { nx:=fun _ H'=>n7 Q T.non H',rt:=n7 Q} [some W.enc,some (.int eG),some (.ref q),some (.int (j:Int)),some (.tup (W.tasks.map tkT)),some (.tup (W.orders.map orT)),some (.tup (W.pairs.map prT)),some (.tup (W.row.map T.str)),some (.int (ps.length:Int)),some (.str x),some (.int ln),some (.tup (S.map T.str)),none,none,none,none,none] H3 by
  have X:=nT.mk key;clear key hR3 k';unfold iU at X hk0;generalize W.row.getD j ""=kd at *;walk_at "";refine⟨by decide,trivial,rfl,?_⟩;by_cases c:S=[]
  ·rw[if_neg (by simp [c])];exact X.out (by simp [c])
  rw[if_pos (by simp [c])];refine⟨rfl,trivial,?_⟩;by_cases R:kd∈S
  ·rw[if_neg (by simp [R])];exact X.out (by simp [R])
  rw[if_pos (by simp [R])];exact fF.out fun m=>by have:=hk0.out m;simp [c,R] at this
 intro hmay;have hM:nT (ldF (W.tasks.take (ps.length+1)) (fS (nm W) (ps++[j])) j<=eG->(∀o∈W.orders,o.1∈(nm W).take (ps.length+1)->o.2∈(nm W).take (ps.length+1)->fS (nm W) (ps++[j]) o.1<=fS (nm W) (ps++[j]) o.2)->(∀p∈W.pairs,p.2.1∈(nm W).take (ps.length+1)->p.2.2∈(nm W).take (ps.length+1)->(fS (nm W) (ps++[j]) p.2.1=fS (nm W) (ps++[j]) p.2.2↔p.1="with"))->Mym W eG ps j):=⟨fun a b c=>⟨fun t h=>by rw[ht] at h;cases h;exact hmay,a,b,c⟩⟩;have M:nT (Mym W eG ps j->ldF (W.tasks.take (ps.length+1)) (fS (nm W) (ps++[j])) j<=eG/\(∀o∈W.orders,o.1∈(nm W).take (ps.length+1)->o.2∈(nm W).take (ps.length+1)->fS (nm W) (ps++[j]) o.1<=fS (nm W) (ps++[j]) o.2)/\(∀p∈W.pairs,p.2.1∈(nm W).take (ps.length+1)->p.2.2∈(nm W).take (ps.length+1)->(fS (nm W) (ps++[j]) p.2.1=fS (nm W) (ps++[j]) p.2.2↔p.1="with"))):=⟨fun m=>⟨m.ld,m.ord,m.pai⟩⟩;have hFi:nT (∀i t,i<ps.length->W.tasks[i]?=some t->fS (nm W) (ps++[j]) t.1=ps.getD i 0):=⟨fun i t hi h=>by
  rw[jt (ns:=nm W) hW'.out.nd (i:=i) (by rw[d_];omega) (iz h),h_,h_,Zn hi]⟩
 have hFk:fS (nm W) (ps++[j]) x=j:=by rw[jt (ns:=nm W) hW'.out.nd (i:=ps.length) (by rw[d_];simp) (iz ht),h_,Q_ (m_ _)];simp
 generalize fS (nm W) (ps++[j])=F at hM M hFi hFk;have hFk':=nT.mk hFk;have ht':=nT.mk ht;clear hk0 hmay i2 em x0 hat hFk ht;walk_at "n";walk_at "s";intro I hpd;have nqd:q≠I:=bz hq hpd;have e0:nT (fY H3 I (.dct [])=fY H3 I (.dct (dN ((nm W).take ([]:List Nat).length) F))):=⟨rfl⟩;have el:nT (ln=ln+ldF (W.tasks.take ([]:List Nat).length) F j):=⟨by show ln=ln+0;omega⟩;walk_at "n";refine aA fun R5 hR5=>?_;walk_at "";refine⟨trivial,by omega,by omega,?_⟩;rw[m9];refine aV (fun (i:Nat)=>T.int (i:Int)) (List.range ps.length) (fun A Z H=>∃(d r u k:Option T),Z=[some W.enc,some (.int eG),some (.ref q),some (.int (j:Int)),some (.tup (W.tasks.map tkT)),some (.tup (W.orders.map orT)),some (.tup (W.pairs.map prT)),some (.tup (W.row.map T.str)),some (.int (ps.length:Int)),some (.str x),some (.int (ln+ldF (W.tasks.take A.length) F j)),some (.tup (S.map T.str)),some (.ref I),d,r,u,k]/\H=fY H3 I (.dct (dN ((nm W).take A.length) F))) ⟨_,_,_,_,by rw[<- el.out],e0.out⟩ ?_ ?_;rotate_left
 ·rintro A c B Z H N e ⟨d,r,u,k,rfl,rfl⟩ hN;walk_at "t";have hA:A.length<ps.length:=by have:=T_ List.length e;simp only[d_,j_,C_] at this;omega
  have hc:c=A.length:=by
   have h1:(List.range ps.length)[A.length]?=some c:=by rw[e,Q_ (m_ _)];simp
   rw[Zg hA] at h1;exact (F_ h1).symm
  obtain⟨⟨y,lm,kt⟩,hy⟩:∃t,W.tasks[A.length]?=some t:=⟨_,e_ (by omega)⟩;have v:=NP hy;have C:=Xn hA;have hFy:=hFi.out _ _ hA hy;have hyn:y∉(nm W).take A.length:=fun z=>by obtain⟨i,hi,h⟩:=nF z;have G:=iz hy;have:=(abP (l:=nm W) (by rw[cY];omega) hW'.out.nd).mp (h.trans G.symm);omega
  have etk:(nm W).take (A.length+1)=(nm W).take A.length++[y]:=by
   have hl:A.length<(nm W).length:=by rw[cY];omega
   have G:=iz hy;rw[e_ hl] at G;rw[ZD hl,F_ G]
  have ett:W.tasks.take (A.length+1)=W.tasks.take A.length++[(y,lm,kt)]:=by
   have hl:A.length<W.tasks.length:=by omega
   have G:=hy;rw[e_ hl] at G;rw[ZD hl,F_ G]
  have p1:put3 y (T.int ((ps.getD A.length 0:Nat):Int)) (dN ((nm W).take A.length) F)=dN ((nm W).take (A.length+1)) F:=by
   rw[w6 hyn,etk];refine uK fun n hn=>?_;unfold fu;split
   ·rename_i z;rw[z];exact hFy.symm
   rfl
  have dl:=qW ((nm W).take A.length) F;rw[Z0] at dl;have V:ldF (W.tasks.take (A.length+1)) F j=ldF (W.tasks.take A.length) F j+if ps.getD A.length 0=j then lm else 0:=by rw[ett,iy,hFy]
  have Y:nT (∀r u k,N [some W.enc,some (.int eG),some (.ref q),some (.int (j:Int)),some (.tup (W.tasks.map tkT)),some (.tup (W.orders.map orT)),some (.tup (W.pairs.map prT)),some (.tup (W.row.map T.str)),some (.int (ps.length:Int)),some (.str x),some (.int (ln+ldF (W.tasks.take (A.length+1)) F j)),some (.tup (S.map T.str)),some (.ref I),some (.int (c:Int)),r,u,k] (fY H3 I (.dct (dN ((nm W).take (A.length+1)) F)))):=⟨fun r u k=>hN _ _ ⟨_,r,u,k,by rw[d_];rfl,by rw[d_];rfl⟩⟩;rw[V] at Y;have gq:fY H3 I (.dct (dN ((nm W).take A.length) F)) q=some (.lst (ps.map ni)):=by rw[aD nqd];exact hq
  have gq2:∀o,fY (fY H3 I (.dct (dN ((nm W).take A.length) F))) I o q=some (.lst (ps.map ni)):=fun o=>by rw[aD nqd];exact gq
  subst hc;clear hN e k' hR5 hM M hFi V ett etk hyn fF e0 el;simp only[tkT] at v;generalize ps.getD A.length 0=pv at *;generalize ldF (W.tasks.take A.length) F j=LV at *;walk_at "";refine⟨by omega,?_⟩;by_cases O:pv=j
  ·rw[if_pos (L_ (by rw[O])),Int.add_assoc];rw[if_pos O] at Y;exact Y.out _ _ _
  rw[if_neg (jF (by omega))];rw[if_neg O,Int.add_zero] at Y;exact Y.out _ _ _
 rintro Z H ⟨d,r,u,k,rfl,rfl⟩;walk_at "t";rw[C_];have hxn:x∉(nm W).take ps.length:=fun z=>by obtain⟨i,hi,h⟩:=nF z;have G:=iz ht'.out;have:=(abP (l:=nm W) (by rw[cY];omega) hW'.out.nd).mp (h.trans G.symm);omega
 have p1:put3 x (T.int (j:Int)) (dN ((nm W).take ps.length) F)=dN ((nm W).take (ps.length+1)) F:=by
  have hl:ps.length<(nm W).length:=by rw[cY];omega
  have G:=iz ht'.out;rw[e_ hl] at G;rw[w6 hxn,ZD hl,F_ G];refine uK fun n hn=>?_;unfold fu;split
  ·rename_i z;rw[z];exact hFk'.out.symm
  rfl
 have V:ln+ldF (W.tasks.take ps.length) F j=ldF (W.tasks.take (ps.length+1)) F j:=by have G:=ht'.out;rw[e_ hpl] at G;rw[ZD hpl,F_ G,iy,if_pos hFk'.out];exact Int.add_comm _ _
 rw[V];have dl:=qW ((nm W).take ps.length) F;rw[Z0] at dl;generalize ldF (W.tasks.take (ps.length+1)) F j=LL at *;clear V hxn hFi e0 el hq;walk_at "n";walk_at "s";refine⟨by omega,?_⟩;have gd:fY H3 I (.dct (dN ((nm W).take (ps.length+1)) F)) I=some (.dct (dN ((nm W).take (ps.length+1)) F)):=aq;have sb:eH H3 (fY H3 I (.dct (dN ((nm W).take (ps.length+1)) F))):=eH.new hpd;generalize fY H3 I (.dct (dN ((nm W).take (ps.length+1)) F))=H4 at gd sb ⊢;generalize (nm W).take (ps.length+1)=L at *;clear p1 dl;have fF4:nT (¬Mym W eG ps j->n7 Q (.bl false) H4):=⟨fun z=>n7.of sb (k'.out false ⟨fun q=>(nomatch q),fun h=>absurd h z⟩)⟩;have fT4:nT (Mym W eG ps j->n7 Q (.bl true) H4):=⟨fun z=>n7.of sb (k'.out true ⟨fun _=>z,fun _=>rfl⟩)⟩;clear k' fF;walk_at "n";walk_at "s";by_cases cl:eG<LL
 ·rw[if_pos (L_ cl)];exact fF4.out fun m=>absurd (M.out m).1 (by omega)
 rw[if_neg (jF cl)];have cl':=nT.mk (show LL<=eG by omega);clear cl;walk_at "n";refine aA fun R8 hR8=>?_;walk_at "";refine aV orT W.orders (fun A Z H=>∃(d r u k:Option T),Z=[some W.enc,some (.int eG),some (.ref q),some (.int (j:Int)),some (.tup (W.tasks.map tkT)),some (.tup (W.orders.map orT)),some (.tup (W.pairs.map prT)),some (.tup (W.row.map T.str)),some (.int (ps.length:Int)),some (.str x),some (.int LL),some (.tup (S.map T.str)),some (.ref I),d,r,u,k]/\H=H4/\∀o∈A,o.1∈L->o.2∈L->F o.1<=F o.2) ⟨_,_,_,_,rfl,rfl,(fun _ h=>nomatch h)⟩ ?_ ?_;rotate_left
 ·rintro A ⟨v,C⟩ B Z H N e ⟨d,r,u,k,rfl,rfl,hA⟩ hN;walk_at "t";have hm:(v,C)∈W.orders:=by rw[e];simp
  have fN:nT ((v∈L->C∈L->F v<=F C)->∀d k,N [some W.enc,some (.int eG),some (.ref q),some (.int (j:Int)),some (.tup (W.tasks.map tkT)),some (.tup (W.orders.map orT)),some (.tup (W.pairs.map prT)),some (.tup (W.row.map T.str)),some (.int (ps.length:Int)),some (.str x),some (.int LL),some (.tup (S.map T.str)),some (.ref I),d,some (.str v),some (.str C),k] H):=⟨fun z d k=>hN _ _ ⟨d,_,_,k,rfl,rfl,fun o U=>by
   rcases u_.mp U with U | U
   ·
    exact hA o U
   ·
    rw[i_.mp U];exact z⟩⟩
  have fB:nT (v∈L->C∈L->F C<F v->n7 Q (.bl false) H):=⟨fun h1 G h3=>fF4.out fun m=>by have:=(M.out m).2.1 _ hm h1 G;exact absurd this (by show ¬F v<=F C;omega)⟩;clear hN e hR8 hM M hm hA fF4 fT4;simp only[orT];by_cases m1:v∈L
  ·have l1:=dX (f:=F) m1;by_cases m2:C∈L
   ·have l2:=dX (f:=F) m2;walk_at "";simp only[aaH,if_true];walk_at "t";by_cases O:F C<F v
    ·rw[if_pos (L_ (by omega))];exact fB.out m1 m2 O
    rw[if_neg (jF (by omega))];exact fN.out (fun _ _=>by omega) _ _
   have l2:=pQ (f:=F) m2;walk_at "";simp only[aaH,aaZ,if_true,y_,Zb];exact⟨trivial,fN.out (fun _ z=>absurd z m2) _ _⟩
  have l1:=pQ (f:=F) m1;walk_at "";simp only[aaZ,y_,Zb];exact⟨trivial,fN.out (fun z=>absurd z m1) _ _⟩
 rintro Z H ⟨d,r,u,k,rfl,rfl,hO⟩;walk_at "t";have hO':=nT.mk hO;clear hO;walk_at "n";refine aA fun R9 hR9=>?_;walk_at "";refine aV prT W.pairs (fun A Z H'=>∃(d r u k:Option T),Z=[some W.enc,some (.int eG),some (.ref q),some (.int (j:Int)),some (.tup (W.tasks.map tkT)),some (.tup (W.orders.map orT)),some (.tup (W.pairs.map prT)),some (.tup (W.row.map T.str)),some (.int (ps.length:Int)),some (.str x),some (.int LL),some (.tup (S.map T.str)),some (.ref I),d,r,u,k]/\H'=H/\∀p∈A,p.2.1∈L->p.2.2∈L->(F p.2.1=F p.2.2↔p.1="with")) ⟨_,_,_,_,rfl,rfl,(fun _ h=>nomatch h)⟩ ?_ ?_;rotate_left
 ·rintro A ⟨wd,v,C⟩ B Z H' N e ⟨d,r,u,k,rfl,rfl,hA⟩ hN;walk_at "t";have hm:(wd,v,C)∈W.pairs:=by rw[e];simp
  have fN:nT ((v∈L->C∈L->(F v=F C↔wd="with"))->∀d,N [some W.enc,some (.int eG),some (.ref q),some (.int (j:Int)),some (.tup (W.tasks.map tkT)),some (.tup (W.orders.map orT)),some (.tup (W.pairs.map prT)),some (.tup (W.row.map T.str)),some (.int (ps.length:Int)),some (.str x),some (.int LL),some (.tup (S.map T.str)),some (.ref I),d,some (.str v),some (.str C),some (.str wd)] H'):=⟨fun z d=>hN _ _ ⟨d,_,_,_,rfl,rfl,fun o U=>by
   rcases u_.mp U with U | U
   ·
    exact hA o U
   ·
    rw[i_.mp U];exact z⟩⟩
  have fB:nT (v∈L->C∈L->¬(F v=F C↔wd="with")->n7 Q (.bl false) H'):=⟨fun h1 G h3=>fF4.out fun m=>h3 ((M.out m).2.2 _ hm h1 G)⟩;clear hN e hR9 hM M hm hA fF4 fT4 hO';simp only[prT];by_cases m1:v∈L
  ·have l1:=dX (f:=F) m1;by_cases m2:C∈L
   ·have l2:=dX (f:=F) m2;have ec:decide (((F v:Nat):Int)=((F C:Nat):Int))=decide (F v=F C):=by rw[aau];omega
    walk_at "";simp only[aaH,if_true];walk_at "t";by_cases O:F v=F C <;> by_cases R:wd="with"
    ·rw[if_neg (by simp [O,R])];exact fN.out (fun _ _=>⟨fun _=>R,fun _=>O⟩) _
    ·rw[if_pos (by simp [O,R])];exact fB.out m1 m2 fun z=>R (z.mp O)
    ·rw[if_pos (by simp [O,R])];exact fB.out m1 m2 fun z=>O (z.mpr R)
    rw[if_neg (by simp [O,R])];exact fN.out (fun _ _=>⟨fun z=>absurd z O,fun z=>absurd z R⟩) _
   have l2:=pQ (f:=F) m2;walk_at "";simp only[aaH,aaZ,if_true,y_,Zb];exact⟨trivial,fN.out (fun _ z=>absurd z m2) _⟩
  have l1:=pQ (f:=F) m1;walk_at "";simp only[aaZ,y_,Zb];exact⟨trivial,fN.out (fun z=>absurd z m1) _⟩
 rintro Z H' ⟨d,r,u,k,rfl,rfl,hP⟩;walk_at "t";walk_at "n";walk_at "";exact fT4.out (hM.out cl'.out hO'.out hP)
abbrev zq:List Str:=["_law_works_here","_law_cell_here","_law_row","_law_at"]
def acA:gV zq ["_law_works_here","_law_cell_here"] (aB (top 49)):=aZ
def Hf {f:Addr} (g:G3 K mg "_law_moved" (top 49) ["_law_works_here","_law_cell_here"] f u) (B:Bl mg):Oc P w K mg base 1 "_law_moved" (top 49) ["_law_works_here","_law_cell_here"] Xm:=by
 refine c6 g acA ?_;rintro _ _ _ s _ _ ts H3 Q I ⟨W,c,rfl,y,v⟩;have d:=t6.u30 I;refine⟨_,(aj (aF 2 acA.nd (aJ GX (v3 0) ao))
   (aj (aF 3 acA.nd (aH aX (aH bj (v3 1) ao) (aM bZ rfl B.len_ cg (aa (v3 2) ak))))
   (aj (bc (aR (cF d) (aH aX (v3 1) ao) ao) (aj (aF 2 acA.nd (aH bf (j4 (v3 2) (dZ (v3 3)) fK) (j4 (v3 2) fK (dZ (v3 3)))))
    (au (bc (aR (cF d) (aH aX (aH bj (v3 1) ao) ao) ao) (au (aF 2 acA.nd (JF (v3 2) (dZ (wA ao))))) aO))) aO)
   (au (aL (aH bf (j4 (v3 0) fK (dZ ao)) (bA (aa (v3 2) ak)))))))),?_⟩
 walk_at "q";walk_at "h";have q:=nT.mk v;clear v;have O:=y.r8;have S:=y.r1;have b:∀(r:List Str) (Z:List (Option T)),r.length=W.row.length->(∀x∈r,x∈W.row)->n7 Q (.tup ([.tup (W.tasks.map tkT),.tup (W.orders.map orT),.tup (W.pairs.map prT)]++[.tup (r.map T.str)])) H3:=fun r _ L D=>n7.of eH.refl (q.out r L D);walk_at "s";walk_at "n";have R:=X_ (c / 8) (show (W.row.length:Int)≠0 by omega);have M:=S_ (c / 8) (show (0:Int)<(W.row.length:Int) by omega);obtain⟨j,N⟩:∃j:Nat,c / 8%(W.row.length:Int)=(j:Int):=⟨(c / 8%(W.row.length:Int)).toNat,by omega⟩;have V:Cj (c / 8) (W.row.length:Int):=⟨by omega,aaJ (abg _) (by omega)⟩;walk_at "s";refine⟨⟨by decide,by decide +kernel⟩,by omega,?_⟩;walk_at "n";refine aA fun R2 o=>?_;have key:∀(r:List Str),r.length=W.row.length->(∀x∈r,x∈W.row)->R2 { nx:=fun _ H'=>n7 Q T.non H',rt:=n7 Q} [some W.enc,some (T.int c),some (T.tup (r.map T.str)),some (T.int (j:Int))] H3:=by intro r l m;have f:=b r [] l m;have C:=nT.mk f;clear f b q l m;walk_at "n";rw[show W.enc=T.tup [.tup (W.tasks.map tkT),.tup (W.orders.map orT),.tup (W.pairs.map prT),.tup (W.row.map T.str)] from rfl];walk_at "";rw[show ∀ts:List T,fZ ts none (some 3)=ts.take 3 from fun ts=>qu (k:=3)];exact⟨by decide,by simp,C.out⟩
 have a:=nT.mk key;clear key o b q;walk_at "";refine⟨by decide,?_⟩;by_cases t:c%4=1
 ·rw[if_pos (L_ t)];rw[tu,qu,<- List.map_drop,<- List.map_take,<- z_];have p:∀x∈W.row.drop j++W.row.take j,x∈W.row:=fun x e=>by
   rcases u_.mp e with e | e
   ·exact List.mem_of_mem_drop e
   exact List.mem_of_mem_take e
  have n:(W.row.drop j++W.row.take j).length=W.row.length:=by rw[d_,abx,Z0];omega
  generalize W.row.drop j++W.row.take j=r at p n ⊢;refine⟨by rw[g_,g_,abx,Z0];omega,⟨by decide,by decide +kernel⟩,by decide,?_⟩;by_cases z:c / 4%2=1
  ·rw[if_pos (L_ z),<- aby];exact⟨trivial,a.out r.reverse (by rw[aaa];exact n) fun x e=>p x (List.mem_reverse.mp e)⟩
  rw[if_neg (jF z)];exact a.out r n p
 rw[if_neg (jF t)];exact a.out W.row rfl fun _ h=>h
abbrev Hg:List Str:=["_law_script","_law_k","_law_first","_law_cell_here","_law_number","_law_found","_law_j"]
def acd:gV Hg ["_law_script","_law_k"] (aB (top 39)):=aZ
def Lj {f:Addr} (g:G3 K mg "_law_cell" (top 39) ["_law_script","_law_k"] f fd) (B:Bl mg):Oc P w K mg base 1 "_law_cell" (top 39) ["_law_script","_law_k"] Gy:=by
 refine c6 g acd ?_;rintro _ _ _ s H _ _ H3 _ hr ⟨a,ns,k,rfl,J,hl,hk,kk⟩;have F:=t6.u30 hr;refine⟨_,(aj (aF 2 acd.nd (aJ GX (aH yW (v3 0) (bh (aa ao ak))) ao))
   (aj (bc (aR (cF F) (aH aX (v3 2) ao) ao) (au (aL (aJ GX (aH yW (v3 0) (aH wD (bh (aa ao ak)) ao)) (v3 1)))) aO)
   (aj (aF 3 acd.nd (aJ GX (v3 0) (aH aX (v3 1) (aM bZ rfl B.len_ cg (aa (v3 0) ak)))))
   (aj (aF 4 acd.nd (aH aX (aH bf (aH bf (aH dh (aH aX (v3 3) ao) ao) (aH dh ao (v3 1))) ao) ao))
   (aj (aF 4 acd.nd (aH aX (aH bf (aH dh (v3 4) (v3 4)) (v3 1)) ao))
   (aj (aF 5 acd.nd ao)
   (aj (aW D_ rfl (cA rfl B.range_ (aa ao ak)) (aC 6 acd.nd) (aj (aF 4 acd.nd (aH aX (aH bf (aH dh (v3 4) ao) ao) ao))
    (au (aF 5 acd.nd (aH bf (aH dh (v3 5) ao) (v3 4))))))
   (au (aL (v3 5)))))))))),?_⟩
 walk_at "q";walk_at "h";have W:=nT.mk kk;clear kk;walk_at "s";refine⟨by decide,fun p1 j=>?_⟩;have M:a≠p1:=bz J j;walk_at "";refine⟨by omega,fun V m=>?_⟩;have R:a≠V:=bz J (cM m).2;have q:eH H3 (fY (fY H3 p1 (.lst [T.int 0])) V (.lst (ns.map T.int++[T.int 0]))):=(eH.new j).trans (eH.new m);have e1:ns.map T.int++[T.int 0]=(ns++[0]).map T.int:=by rw[z_];rfl
 obtain⟨G,u⟩:=rm (ns:=ns++[0]) (i:=0) (by rw[d_];simp);rw[e1] at q ⊢;have b:atI ((ns++[0]).map T.int) 0=some (T.int G):=u;rw[b,f9];have d:G%2≠0->1<=ns.length:=fun h=>by
  cases ns with
  |nil =>
   have z:atI (([0]:List Int).map T.int) 0=some (T.int 0):=rfl
   rw[aa2,z] at b
   cases b
   exact absurd rfl h
  |cons x r=>simp
 have I:=q _ _ J;generalize fY (fY H3 p1 (.lst [T.int 0])) V (.lst ((ns++[0]).map T.int))=H4 at q I ⊢;clear u b e1 M R j m J;walk_at "n";refine aA fun R1 U=>?_;walk_at "";refine⟨by decide,?_⟩;by_cases e:G%2=0
 ·rw[L_ e,if_pos rfl];clear U d;try walk_at ""
  refine⟨by decide,fun q1 o=>⟨⟨by decide,by decide,by decide⟩,fun q2 v=>?_⟩⟩;have n1:a≠q1:=bz I o;have n2:a≠q2:=bz I (cM v).2;rw[aD n2,aD n1,I,Gw];have e2:(List.replicate (Int.toNat 64) [T.int 0]).flatten=(List.replicate 64 (0:Int)).map T.int:=rfl;rw[e2];refine⟨by rw[g_,g_,ZJ];omega,fun q3 S=>?_⟩;obtain⟨c,ec⟩:=rm (ns:=ns++List.replicate 64 0) (i:=k) (by rw[d_,ZJ];omega);rw[CG,aq,yr,<- z_,ec,f9];exact n7.of (q.trans ((eH.new o).trans ((eH.new v).trans (eH.new S)))) (W.out c)
 rw[I_ e,if_neg G_];have h1:=d e;clear d;walk_at "n";refine aA fun R2 hR2=>?_;obtain⟨p,D⟩:=rm (ns:=ns) (i:=k%ns.length) (Nat.mod_lt _ (by omega));have C:atI (ns.map T.int) ((k:Int)%(ns.length:Int))=some (T.int p):=D;clear D;walk_at "";refine⟨by omega,?_⟩;walk_at "n";refine aA fun R3 hR3=>?_;have z0:=X_ p (show (2147483647:Int)≠0 by decide);have z1:=S_ p (show (0:Int)<2147483647 by decide);clear C;walk_at "";refine⟨by decide,.inr ⟨by decide,by decide⟩,.inl ⟨by decide,by decide⟩,by decide,?_⟩;generalize p%2147483647=z at z0 z1;have y0:=X_ (z*48271+69621*(k:Int)+7919) (show (2147483629:Int)≠0 by decide);have y1:=S_ (z*48271+69621*(k:Int)+7919) (show (0:Int)<2147483629 by decide);generalize (z*48271+69621*(k:Int)+7919)%2147483629=y at y0 y1;walk_at "n";walk_at "s";refine⟨.inl ⟨by omega,by omega⟩,by decide,?_⟩;have Y:=X_ (y*y+(k:Int)) (show (2147483587:Int)≠0 by decide);have x1:=S_ (y*y+(k:Int)) (show (0:Int)<2147483587 by decide);generalize (y*y+(k:Int))%2147483587=x at Y x1;walk_at "n";walk_at "s";walk_at "n";refine aA fun R6 L=>?_;walk_at "";refine⟨by first | trivial | decide,by decide,by decide,?_⟩;generalize dM 0 (Int.toNat 9)=ts0;refine iJ (fun r Z H=>∃(n X:Int) (O:Option T),Z=[some (.ref a),some (.int (k:Int)),some (.int G),some (.int p),some (.int n),some (.int X),O]/\0<=n/\n<2147483629/\eH H3 H) ⟨x,0,_,rfl,Y,by omega,q⟩ ?_ ?_
 ·rintro Z H ⟨n,X,O,rfl,_,_,l⟩;walk_at "t";walk_at "n";walk_at "";exact n7.of l (W.out _)
 rintro t r Z H N ⟨n,X,O,rfl,n0,n1,l⟩ hN;walk_at "t";have hM:=nT.mk hN;clear hN L W;walk_at "";refine⟨.inl ⟨by omega,by omega⟩,by decide,.inr ⟨by decide,by decide⟩,?_⟩;exact hM.out _ _ ⟨_,_,_,rfl,X_ _ (by decide),Int.lt_trans (S_ _ (by decide)) (by decide),l⟩
abbrev Hh:List Str:=["_law_cell_here","_law_letters","_law_word_here","_law_rest","_law_j"]
def acr:gV Hh ["_law_cell_here"] (aB (top 40)):=aZ
def Lk {f:Addr} (g:G3 K mg "_law_word" (top 40) ["_law_cell_here"] f u) (B:Bl mg):Oc P w K mg base 1 "_law_word" (top 40) ["_law_cell_here"] S8:=by
 refine c6 g acr ?_;rintro _ _ _ s H _ _ H3 _ _ ⟨c,rfl,v⟩;refine⟨_,(aj (aF 1 acr.nd cN)
   (aj (aF 2 acr.nd cN)
   (aj (aF 3 acr.nd (aH bj (v3 0) ao))
   (aj (aW D_ rfl (cA rfl B.range_ (aa (aH bf ao (aH aX (v3 0) ao)) ak)) (aC 4 acr.nd) (aj (aF 2 acr.nd (aH bf (v3 2) (aJ GX (v3 1) (aH aX (v3 3) ao))))
    (au (aF 3 acr.nd (aH bj (v3 3) ao)))))
   (au (aL (v3 2))))))),?_⟩
 walk_at "q";walk_at "h";have S:(mkS m7).length<=sizeLine:=by rw[dw];decide
 have D:=nT.mk v;clear v;have J:("":Str)=mkS []:=by decide +kernel
 walk_at "s";simp only[FP];walk_at "n";walk_at "s";walk_at "n";walk_at "s";refine⟨⟨by decide,by decide +kernel⟩,?_⟩;walk_at "n";refine aA fun R3 t=>?_;walk_at "";have W:=X_ c (show (8:Int)≠0 by decide);have U:=S_ c (show (0:Int)<8 by decide);refine⟨by decide,trivial,by omega,by omega,?_⟩;have k:(dM 0 (1+c%8).toNat).length=(1+c%8).toNat:=by unfold dM;rw[g_,C_]
 generalize dM 0 (1+c%8).toNat=R at k;try rw[J]
 generalize c / 8=p;refine iJ (fun r Z H=>∃(a:List Nat) (d:Int) (q:Option T),Z=[some (.int c),some (.str (mkS m7)),some (.str (mkS a)),some (.int d),q]/\(a.length:Int)+r.length=1+c%8/\(∀x∈a,97<=x/\x<=122)/\H3=H) ⟨[],p,_,rfl,by rw[k,Zu];omega,(fun _ z=>nomatch z),rfl⟩ ?_ ?_
 ·rintro Z H ⟨a,d,q,rfl,b,m,rfl⟩;walk_at "t";rw[Zu] at b;walk_at "n";walk_at "";exact n7.of eH.refl (D.out _ (Nu (by omega) (by omega) m))
 rintro x r Z H V ⟨a,d,q,rfl,b,m,rfl⟩ e;walk_at "t";rw[j_] at b;have F:=nT.mk e;have o:=nT.mk m;have C:a.length<8:=by omega
 have j:=nT.mk b;have N:=X_ d (show (26:Int)≠0 by decide);have G:=S_ d (show (0:Int)<26 by decide);have n:=FQ (d%26) N G;clear e D t b m;walk_at "";simp only[iQ,n,f9];walk_at "";rw[show (⟨#[97+(d%26).toNat]⟩:Str)=mkS [97+(d%26).toNat] from rfl];refine⟨by decide,S,by rw[dw,dw];simp only[v_];omega,⟨by decide,by decide +kernel⟩,?_⟩;rw[yL];exact F.out _ _ ⟨_,_,_,rfl,by rw[d_,v_];have:=j.out;push_cast;omega,fun y l=>by
  rcases u_.mp l with l | l
  ·
   exact o.out y l
  ·
   rw[i_.mp l];omega,rfl⟩
abbrev uV:List Str:=["_law_words","_law_letters","_law_found","_law_word_here"]
def aco:gV uV ["_law_words"] (aB (top 41)):=aZ
def Bb {f:Addr}{V:FuncData}(g:G3 K mg "_law_unlike" (top 41) ["_law_words"] f V) (B:Bl mg):Oc P w K mg base 1 "_law_unlike" (top 41) ["_law_words"] S9:=by
 refine c6 g aco ?_;rintro _ A _ s H _ _ H3 _ hr ⟨a,ws,rfl,D,hl,v,W⟩;have y:=t6.u31 hr;refine⟨_,(aj (aF 1 aco.nd cN)
   (aj (aF 2 aco.nd (bh ak))
   (aj (aW D_ rfl (cD (v3 0)) (aC 3 aco.nd) (aj (jy D_ (aR (jA y) (v3 3) (v3 2) rfl) (au (aF 3 aco.nd (aH bf (jC (v3 3) fK (dZ (wA ao))) (aJ GX (v3 1) (aH aX (aH bf (dj PySem.F.plainAttrs_str PySem.F.slot_str_index PySem.F.type_str_index Cw (v3 1) (aa (aJ GX (v3 3) (wA ao)) ak)) ao) ao))))))
    (au (bC (dj H_ O_ P_ bu (v3 2) (aa (v3 3) ak))))))
   (au (aL (v3 2)))))),?_⟩
 walk_at "q";walk_at "h";have al:(mkS m7).length<=sizeLine:=by rw[dw];decide
 have k':=nT.mk W;clear W;walk_at "s";simp only[FP];walk_at "n";walk_at "s";refine⟨by decide,fun n u=>?_⟩;have q:a≠n:=bz D u;walk_at "n";refine aA fun R2 O=>?_;have ga:fY H3 n (.lst []) a=some (.lst (ws.map T.str)):=by rw[aD q];exact D
 walk_at "";have C:=nT.mk v;clear v;refine aV T.str ws (fun A Z H=>∃(fs:List Str) (v3:Option T),Z=[some (.ref a),some (.str (mkS m7)),some (.ref n),v3]/\H=fY H3 n (.lst (fs.map T.str))/\fs.length=A.length/\Nms fs) ⟨[],_,rfl,rfl,rfl,Nms.nil⟩ ?_ ?_
 ·rintro Z H ⟨fs,v3,rfl,rfl,p,R⟩;refine⟨.inl (by rw[aD q];exact D),?_⟩;walk_at "n";walk_at "";exact n7.of eH.refl (k'.out fs p R n u)
 rintro A x B Z H N e ⟨fs,v3,rfl,rfl,p,R⟩ X;refine⟨.inl (by rw[aD q];exact D),?_⟩;have hA:A.length+1<=8:=by have:=T_ List.length e;simp only[d_,j_] at this;omega
 obtain⟨b,c,rfl,M,hs0,I⟩:=K4 (C.out x (by rw[e];simp));have J:=nT.mk X;clear X e O k' ga;have gf:fY H3 n (.lst (fs.map T.str)) n=some (.lst (fs.map T.str)):=aq;refine aA fun R3 U=>?_;walk_at "";refine Am (fun m Z H=>∃j:Nat,m+j=8/\Z=[some (.ref a),some (.str (mkS m7)),some (.ref n),some (.str (nmL b c j))]/\H=fY H3 n (.lst (fs.map T.str))/\∀i,i<j->nmL b c i∈fs) ⟨8,0,rfl,rfl,rfl,(fun _ z=>absurd z (by omega))⟩ ?_;intro m Z H hI WI TB NX k d l;obtain⟨j,hm,rfl,rfl,o⟩:=hI;have hj:j<=fs.length:=by
  rcases aa6 fs.length j with z | z
  ·exact (pig fs (fun i=>nmL b c i) (fun i i' h1 h2 h=>K3 (by omega) (by omega) h) fun i hi=>o i (by omega)).elim
  exact z
 walk_at "";refine⟨rfl,cR fs,?_⟩;split
 ·rename_i r;have S:nmL b c j∈fs:=Classical.byContradiction fun h=>absurd r (by rw[jP];simp [h]);clear l U;obtain⟨d⟩:=d;subst d;try dsimp only
  walk_at "";have Y:=K5 b c j;have md:=Nat.mod_lt (c+j) (show 0<26 by decide);have t:=RP (97+(c+j)%26) (by omega) (by omega);refine⟨by omega,by first | trivial | omega,by omega,?_⟩;rw[K6,Bs,f9,show (⟨#[97+(c+j)%26]⟩:Str)=mkS [97+(c+j)%26] from rfl,t];clear t;walk_at "";have G:=FQ ((((97+(c+j)%26 - 97:Nat):Int)+1)%26) (X_ _ (by decide)) (S_ _ (by decide));have en:((((97+(c+j)%26 - 97:Nat):Int)+1)%26).toNat=(c+(j+1))%26:=by omega
  have sn:Txt.slice (nmL b c j) none (some (-1))=mkS b:=Td b _;refine⟨by decide,al,?_⟩;rw[iQ,G,f9,en,sn,show (⟨#[97+(c+(j+1))%26]⟩:Str)=mkS [97+(c+(j+1))%26] from rfl,yL];obtain⟨k⟩:=k;subst k;refine⟨by rw[dw,dw];simp only[v_];omega,m - 1,by omega,j+1,by omega,rfl,rfl,fun i hi=>?_⟩;rcases aa6 i j with z | z
  ·exact o i z
  rw[show i=j by omega];exact S
 rename_i r;have L:nmL b c j∉fs:=fun h=>r (by rw[jP];simp [h]);clear d k;obtain⟨l⟩:=l;subst l;walk_at "n";try dsimp only
 walk_at "";refine⟨⟨trivial,trivial⟩,by omega,J.out _ _ ⟨fs++[nmL b c j],some _,rfl,?_,by rw[d_,d_,p];rfl,R.snoc (Tc M I) L⟩⟩;rw[z_];rfl
abbrev Hi:List Str:=["_law_cell_here","_law_words","_law_k"]
def acV:gV Hi ["_law_cell_here"] (aB (top 42)):=aZ
def Ln {f:Addr} (g:G3 K mg "_law_pool" (top 42) ["_law_cell_here"] f C) (B:Bl mg) (d:Oc P w K mg base 1 "_law_word" (top 40) ["_law_cell_here"] S8) (a:Oc P w K mg base 1 "_law_unlike" (top 41) ["_law_words"] S9):Oc P w K mg base 2 "_law_pool" (top 42) ["_law_cell_here"] W6:=by
 refine c6 g acV ?_;rintro _ _ _ s H _ _ H3 _ G ⟨c,rfl,D⟩;refine⟨_,(aj (aF 1 acV.nd (bh ak))
   (aj (aW D_ rfl (cA rfl B.range_ (aa ao ak)) (aC 2 acV.nd) (aj (bC (dj H_ O_ P_ bu (v3 1) (aa (aU d G rfl (aa (aH aX (v3 0) (aH dh ao (aH jh ao ao))) ak)) ak)))
    (au (aF 0 acV.nd (aH bj (v3 0) (aH dh ao (aH jh ao ao)))))))
   (au (aL (aU a G rfl (aa (v3 1) ak)))))),?_⟩
 walk_at "q";walk_at "h";have I:=nT.mk D;clear D;walk_at "s";refine⟨by decide,fun k t=>?_⟩;walk_at "n";refine aA fun Y q=>?_;walk_at "";refine⟨trivial,by decide,by decide,?_⟩;have v:(dM 0 (Int.toNat 8)).length=8:=by unfold dM;rw[g_,C_];rfl
 generalize dM 0 (Int.toNat 8)=U at v;refine iJ (fun r Z H=>∃(ws:List Str) (c:Int) (n:Option T),Z=[some (.int c),some (.ref k),n]/\H=fY H3 k (.lst (ws.map T.str))/\ws.length+r.length=8/\∀x∈ws,isNm x) ⟨[],c,_,rfl,rfl,by rw[v];rfl,(fun _ z=>nomatch z)⟩ ?_ ?_
 ·rintro Z H ⟨ws,c,n,rfl,rfl,m,u⟩;walk_at "t";rw[Zu] at m;walk_at "n";walk_at "";refine⟨k,ws,rfl,aq,by omega,u,fun us X J p O=>?_⟩;refine n7.of ?_ (I.out us (by omega) J p (cM O).2);intro b o j;by_cases e:b=p
  ·subst e;rw[aq] at j ⊢;exact j
  rw[aD e] at j ⊢;rw[aD (bz j t)];exact j
 rintro x r Z H N ⟨ws,c,n,rfl,rfl,m,u⟩ F;walk_at "t";rw[j_] at m;have L:=nT.mk F;clear F q I;have M:fY H3 k (.lst (ws.map T.str)) k=some (.lst (ws.map T.str)):=aq;walk_at "";refine⟨⟨trivial,trivial⟩,⟨by decide,by decide,by decide⟩,.inl ⟨by decide,by decide⟩,by decide,_,rfl,fun y V=>?_⟩;dsimp only;rw[M,CJ];refine⟨by rw[g_];omega,⟨by decide,by decide,by decide⟩,.inl ⟨by decide,by decide⟩,⟨by decide,by decide +kernel⟩,L.out _ _ ⟨ws++[y],_,_,rfl,?_,by rw[d_,v_];omega,fun z l=>?_⟩⟩
 ·rw[z_];exact qj
 rcases u_.mp l with l | l
 ·exact u z l
 rw[i_.mp l];exact V
abbrev Hj:List Str:=["_law_cell_here","_law_row","_law_pool_here","_law_unit","_law_stand","_law_turn","_law_some_here","_law_rest","_law_k","_law_other","_law_at","_law_digit","_law_length"]
def XN:gV Hj ["_law_cell_here","_law_row","_law_pool_here","_law_unit"] (aB (top 43)):=aZ
def Lp {f:Addr} (g:G3 K mg "_law_task" (top 43) ["_law_cell_here","_law_row","_law_pool_here","_law_unit"] f fd) (B:Bl mg) (F:Oc P w K mg base 1 "_law_word" (top 40) ["_law_cell_here"] S8):Oc P w K mg base 2 "_law_task" (top 43) ["_law_cell_here","_law_row","_law_pool_here","_law_unit"] W7:=by
 refine c6 g XN ?_;rintro _ _ _ s H _ _ H3 Q hr ⟨c,Y,pp,a,e,d,rfl,L,r1,r8,hrn,hpp,p8,hpn,u1,u2,kk⟩;have hu30:=t6.u30 hr;have hu31:=t6.u31 hr;refine⟨_,(aj (aF 4 XN.nd (aH aX (v3 0) (aM bZ rfl B.len_ cg (aa (v3 1) ak))))
   (aj (aF 5 XN.nd (aH aX (aH bj (v3 0) (aM bZ rfl B.len_ cg (aa (v3 1) ak))) ao))
   (aj (aF 0 XN.nd (aH bj (v3 0) (aH dh ao (aM bZ rfl B.len_ cg (aa (v3 1) ak)))))
   (aj (aF 6 XN.nd (bh ak))
   (aj (bc (aR (cF hu30) (aH aX (v3 0) ao) ao) (aj (aF 6 XN.nd (bh (aa (aJ GX (v3 1) (v3 4)) ak)))
    (aj (aF 7 XN.nd (aH bj (v3 0) ao))
    (aj (aW D_ rfl (cA rfl B.range_ (aa ao ak)) (aC 8 XN.nd) (aj (aF 9 XN.nd (aJ GX (aH bf (v3 2) (bh (aa (aJ GX (v3 1) (v3 4)) ak))) (aH aX (v3 7) ao)))
     (aj (aF 7 XN.nd (aH bj (v3 7) ao))
     (au (bc (aR (jB hu31) (v3 9) (v3 6) rfl) (au (bC (dj H_ O_ P_ bu (v3 6) (aa (v3 9) ak)))) aO)))))
    (aj (aF 10 XN.nd (aH aX (aH aX (v3 7) ao) (aM bZ rfl B.len_ cg (aa (v3 6) ak))))
    (au (aF 6 XN.nd (aH bf (jC (v3 6) (dZ (v3 10)) fK) (jC (v3 6) fK (dZ (v3 10)))))))))) aO)
   (aj (aF 0 XN.nd (aH bj (v3 0) (aH dh (aH dh ao ao) ao)))
   (aj (aF 11 XN.nd (aH bf ao (aH aX (aH bj (v3 0) ao) ao)))
   (aj (aF 12 XN.nd (aJ GX (bh (aa (v3 11) (aa (aH bf (aH dh (v3 3) (v3 11)) (aH aX (aH bj (v3 0) ao) ao)) (aa (aH bf ao (aH aX (aH bj (v3 0) ao) (aH vP (aH jh ao ao) ao))) ak)))) (aH aX (v3 0) ao)))
   (au (aL (bA (aa (v3 4) (aa (v3 5) (aa (v3 12) (aa (bH cX rfl B.tuple_ cj (aa (v3 6) ak)) (aa (aU F hr rfl (aa (aH bj (v3 0) (aH dh ao (aH jh ao ao))) ak)) ak)))))))))))))))),?_⟩
 walk_at "q";walk_at "h";have k':=nT.mk kk;clear kk;have hrn':=nT.mk hrn;have hpn':=nT.mk hpn;clear hrn hpn;walk_at "s";have b0:=X_ c (show (a.length:Int)≠0 by omega);have b1:=S_ c (show (0:Int)<(a.length:Int) by omega);refine⟨by omega,?_⟩;obtain⟨s,hs⟩:∃s:Nat,c%(a.length:Int)=(s:Int):=⟨(c%(a.length:Int)).toNat,by omega⟩;rw[hs] at b0 b1 ⊢;have D:s<a.length:=by omega
 have lg:(a.length:Int).natAbs.log2<9000:=aaJ (abg _) (by omega);have lg8:(8*(a.length:Int)).natAbs.log2<9000:=aaJ (abg _) (by omega);clear hs;walk_at "n";walk_at "s";refine⟨⟨by omega,lg⟩,by decide,?_⟩;have t0:=X_ (c / (a.length:Int)) (show (8:Int)≠0 by decide);have t1:=S_ (c / (a.length:Int)) (show (0:Int)<8 by decide);generalize c / (a.length:Int)%8=tn at t0 t1;walk_at "n";walk_at "s";refine⟨.inl ⟨by decide,by decide⟩,⟨by omega,lg8⟩,?_⟩;generalize c / (8*(a.length:Int))=c2;walk_at "n";walk_at "s";refine⟨by decide,fun p0 v=>?_⟩;walk_at "n";refine aA fun R4 hR4=>?_;have key:nT (∀(p:Addr) (V:List Str) (v7 W X v10:Option T) (G:lO),eH H3 G->G p=some (.lst (V.map T.str))->Nms V->V.length<=4->(V=[]\/a.getD s ""∈V)->R4 { nx:=fun x H'=>n7 Q T.non H',rt:=n7 Q} [some (.int c2),some (.ref Y),some (.ref pp),some (.int d),some (.int (s:Int)),some (.int tn),some (.ref p),v7,W,X,v10,none,none] G):=by
  refine⟨fun p V v7 W X v10 G t gp R hk4 hks=>?_⟩;clear L hpp v;walk_at "n";refine aA fun R5 hR5=>?_;walk_at "";refine⟨.inl ⟨by decide,by decide⟩,.inl ⟨by decide,by decide⟩,⟨by decide,by decide +kernel⟩,?_⟩;generalize c2 / (4*729*4)=l;walk_at "n";walk_at "s";refine⟨⟨by decide,by decide +kernel⟩,by decide,?_⟩;have d0:=X_ (l / 3) (show (9:Int)≠0 by decide);have d1:=S_ (l / 3) (show (0:Int)<9 by decide);generalize l / 3%9=dg at d0 d1;walk_at "n";walk_at "s";refine⟨.inr ⟨by omega,by omega⟩,⟨by decide,by decide +kernel⟩,by decide,⟨by decide,by decide +kernel⟩,⟨by decide,by decide,by decide⟩,by decide +kernel,by decide,fun M k=>⟨by decide,?_⟩⟩;have i0:=X_ l (show (3:Int)≠0 by decide);have i1:=S_ l (show (0:Int)<3 by decide);have e0:=X_ (l / 27) (show (2:Int)≠0 by decide);have e1:=S_ (l / 27) (show (0:Int)<2 by decide);have f0:=X_ (l / 3) (show ((10:Int)^Int.toNat 60 - 1)≠0 by decide +kernel);have f1:=S_ (l / 3) (show (0:Int)<(10:Int)^Int.toNat 60 - 1 by decide +kernel);have m1:d*(1+dg)<=10^57*9:=Int.mul_le_mul u2 (by omega) (by omega) (by decide +kernel);have m0:1*1<=d*(1+dg):=Int.mul_le_mul u1 (by omega) (by decide) (by omega);have p60:(10:Int)^Int.toNat 60=10^60:=rfl;rw[p60] at f0 f1 ⊢;have sb7:=t.trans (eH.new (o:=.lst [T.int (1+dg),T.int (d*(1+dg)+l / 27%2),T.int (1+l / 3%(10^60 - 1))]) k);have gp7:fY G M (.lst [T.int (1+dg),T.int (d*(1+dg)+l / 27%2),T.int (1+l / 3%(10^60 - 1))]) p=_ := upa gp k;generalize fY G M (.lst [T.int (1+dg),T.int (d*(1+dg)+l / 27%2),T.int (1+l / 3%(10^60 - 1))])=H5 at sb7 gp7 ⊢;generalize d*(1+dg)=ud at *;generalize l / 27%2=e27 at *;generalize l / 3%(10^60 - 1)=e3 at *;obtain⟨q,J,l1,l2⟩:∃q:Int,atI [T.int (1+dg),T.int (ud+e27),T.int (1+e3)] (l%3)=some (T.int q)/\1<=q/\q<10^60:=by
   rcases (show l%3=0\/l%3=1\/l%3=2 by omega) with h | h | h
   ·rw[h];exact⟨_,rfl,by omega,by omega⟩
   ·rw[h];exact⟨_,rfl,by omega,by omega⟩
   rw[h];exact⟨_,rfl,by omega,by omega⟩
  rw[J,f9];clear J gp t k;walk_at "n";walk_at "";refine⟨⟨by decide,by decide,by decide⟩,.inl ⟨by decide,by decide⟩,⟨by decide +kernel,by decide +kernel⟩,_,rfl,fun y hy=>⟨by decide,?_⟩⟩;exact n7.of sb7 (k'.out s tn q V y D t0 t1 l1 l2 R hk4 hks hy)
 have m:fY H3 p0 (.lst []) Y=_ := upa L v;have u:fY H3 p0 (.lst []) p0=some (.lst (([]:List Str).map T.str)):=aq;have C:eH H3 (fY H3 p0 (.lst [])):=eH.new v;generalize fY H3 p0 (.lst [])=G at m u C ⊢;clear v hR4 k';walk_at "";refine⟨by decide,?_⟩;by_cases h4:c2%4=1
 ·rw[L_ h4,if_pos rfl];try rw[m,yr]
  rw[lZ D,f9];refine⟨by decide,fun pf hpf=>⟨⟨by decide,by decide +kernel⟩,by first | trivial | decide,by decide,by decide,?_⟩⟩;have f0:=cu C hpf;have rl:(dM 0 (Int.toNat 3)).length=3:=by unfold dM;rw[g_,C_];rfl
  generalize dM 0 (Int.toNat 3)=ts0 at rl;have hxs:=hrn'.out _ (getD_memS D);have hx':=nT.mk hxs;clear hxs;refine iJ (fun r Z H=>∃(fs:List Str) (rest:Int) (W X:Option T),Z=[some (.int c2),some (.ref Y),some (.ref pp),some (.int d),some (.int (s:Int)),some (.int tn),some (.ref pf),some (.int rest),W,X,none,none,none]/\eH H3 H/\H pf=some (.lst (fs.map T.str))/\Nms fs/\fs.length+r.length<=4/\a.getD s ""∈fs) ⟨[a.getD s ""],c2 / 4,_,_,rfl,C.trans (eH.new hpf),aq,Nms.nil.snoc hx'.out (fun z=>nomatch z),by rw[rl];exact m_ 4,i_.mpr rfl⟩ ?_ ?_
  ·rintro Z H ⟨fs,rest,W,X,rfl,t,S,R,hl,hm⟩;walk_at "t";clear m u;walk_at "";have fl:1<=fs.length:=List.length_pos_of_mem hm;have a0:=X_ (rest%4) (show (fs.length:Int)≠0 by omega);have a1:=S_ (rest%4) (show (0:Int)<(fs.length:Int) by omega);obtain⟨j,hj⟩:∃j:Nat,rest%4%(fs.length:Int)=(j:Int):=⟨(rest%4%(fs.length:Int)).toNat,by omega⟩;refine⟨by decide,by omega,fun M k=>?_⟩;rw[hj,aD (bz S k),S,MF,tu,qu];intro q2 n;have n12:M≠q2:=bz aq n;rw[Cz,aD n12,aq,aq,jl];refine⟨by rw[abx,Z0,g_];omega,fun q3 hq3=>?_⟩;have pm:(fs.drop j++fs.take j).Perm fs:=List.perm_append_comm.trans (by rw[List.take_append_drop]);refine key.out q3 (fs.drop j++fs.take j) _ _ _ _ _ (t.trans ((eH.new k).trans ((eH.new n).trans (eH.new hq3)))) (by rw[aq,z_,List.map_drop,List.map_take]) ⟨fun x hx=>R.nm x (pm.mem_iff.mp hx),pm.nodup_iff.mpr R.nd⟩ (by rw[pm.length_eq];simpa using hl) (.inr (pm.mem_iff.mpr hm))
  rintro x r Z H N ⟨fs,rest,W,X,rfl,t,S,R,hl,hm⟩ hN;walk_at "t";rw[j_] at hl;have hM:=nT.mk hN;clear hN m u key;have m:=t _ _ L;have U:=t _ _ hpp;walk_at "s";try rw[lZ D,f9]
  refine⟨by decide,fun M k=>?_⟩;rw[aD (bz U k),U,jl];refine⟨by rw[g_,v_];omega,fun q2 n=>?_⟩;have O:=t.trans ((eH.new (o:=.lst [T.str (a.getD s "")]) k).trans (eH.new (o:=.lst (e.map T.str++[T.str (a.getD s "")])) n));have gf5:fY (fY H M (.lst [T.str (a.getD s "")])) q2 (.lst (e.map T.str++[T.str (a.getD s "")])) pf=some (.lst (fs.map T.str)):=by rw[aD (bz (eH.new k _ _ S) n),aD (bz S k)];exact S
  have h0:=X_ rest (show (9:Int)≠0 by decide);have h1:=S_ rest (show (0:Int)<9 by decide);obtain⟨j,hj⟩:∃j:Nat,rest%9=(j:Int):=⟨(rest%9).toNat,by omega⟩;have hat:atI (e.map T.str++[T.str (a.getD s "")]) (j:Int)=some (T.str ((e++[a.getD s ""]).getD j "")):=by have:=lZ (ns:=e++[a.getD s ""]) (i:=j) (by rw[d_,v_];omega);rw[z_] at this;exact this
  have I:isNm ((e++[a.getD s ""]).getD j ""):=by
   have:=getD_memS (ns:=e++[a.getD s ""]) (i:=j) (by rw[d_,v_];omega);rcases u_.mp this with z | z
   ·exact hpn'.out _ z
   rw[i_.mp z];exact hx'.out
  refine⟨by decide,?_⟩;rw[hj,CG,aq,yr,hat,f9];generalize fY (fY H M (.lst [T.str (a.getD s "")])) q2 (.lst (e.map T.str++[T.str (a.getD s "")]))=H5 at O gf5 ⊢;generalize (e++[a.getD s ""]).getD j ""=oth at I ⊢;clear hat k n m U t S;walk_at "n";walk_at "";refine⟨⟨by decide,by decide +kernel⟩,rfl,cR fs,?_⟩;split
  ·rename_i hm1;have hni:=(Wz jK (x:=oth)).mp hm1;try walk_at ""
   refine⟨⟨trivial,trivial⟩,by omega,hM.out _ _ ⟨fs++[oth],_,_,_,rfl,?_,?_,R.snoc I hni,by rw[d_,v_];omega,U_ _ hm⟩⟩
   ·intro b o hb;rw[aD (bz hb f0)];exact O b o hb
   rw[aq,z_];rfl
  exact hM.out _ _ ⟨fs,_,_,_,rfl,O,gf5,R,by omega,hm⟩
 rw[I_ h4,if_neg G_];exact key.out p0 [] _ _ _ _ G C u Nms.nil (by decide) (.inl rfl)
abbrev rD:List Str:=["_law_script","_law_names","_law_some_here","_law_rank","_law_base","_law_ahead","_law_beside","_law_orders","_law_pairs","_law_p","_law_q","_law_one","_law_other","_law_word_here"]
def R7:gV rD ["_law_script","_law_names","_law_some_here"] (aB (top 44)):=aZ
def Hk {f:Addr} (g:G3 K mg "_law_links" (top 44) ["_law_script","_law_names","_law_some_here"] f fd) (B:Bl mg) (r:Oc P w K mg base 1 "_law_cell" (top 39) ["_law_script","_law_k"] Gy):Oc P w K mg base 2 "_law_links" (top 44) ["_law_script","_law_names","_law_some_here"] W8:=by
 refine c6 g R7 ?_;rintro _ A _ s H _ _ H3 _ hr ⟨a,pn,ps,sc,ns,c,rfl,ha,hsc,hpn,hnn,hn8,hps,hsl,kk⟩;have I:=t6.u30 hr;have hu31:=t6.u31 hr;refine⟨_,(aj (aF 3 R7.nd (aM JZ rfl B.sorted_ j6 (aa (bR rfl (b6 44 rD ["_law_k","_law_some_here"] 1 [2]) (cA rfl B.range_ (aa (aM bZ rfl B.len_ cg (aa (v3 1) ak)) ak)) (fun cl pins s H C0 fp=>⟨(aC 0 (n5 ["_law_k","_law_some_here"])),cP,(bA (aa (aJ GX (aJ GX (v3 1) (v3 0)) ao) (aa (aJ GX (aJ GX (v3 1) (v3 0)) ao) (aa (v3 0) ak))))⟩)) ak)))
   (aj (aF 4 R7.nd (aJ GX (bh (aa ao (aa ao (aa ao ak)))) (aH aX (aH bj (aU r hr rfl (aa (v3 0) (aa ao ak))) ao) ao)))
   (aj (aF 5 R7.nd (aU r hr rfl (aa (v3 0) (aa ao ak))))
   (aj (aF 6 R7.nd (aU r hr rfl (aa (v3 0) (aa ao ak))))
   (aj (aF 7 R7.nd (bh ak))
   (aj (aF 8 R7.nd (bh ak))
   (aj (aW D_ rfl (cA rfl B.range_ (aa (aM bZ rfl B.len_ cg (aa (v3 3) ak)) ak)) (aC 9 R7.nd) (au (aW D_ rfl (o4 rfl B.range_ (aa (aH bf (v3 9) ao) (aa (aM bZ rfl B.len_ cg (aa (v3 3) ak)) ak))) (aC 10 R7.nd) (aj (aF 11 R7.nd (aJ GX (v3 1) (aJ GX (aJ GX (v3 3) (v3 9)) ao)))
     (aj (aF 12 R7.nd (aJ GX (v3 1) (aJ GX (aJ GX (v3 3) (v3 10)) ao)))
     (aj (bc (aR (cF I) (aH aX (v3 5) (v3 4)) ao) (au (bC (dj H_ O_ P_ bu (v3 7) (aa (bA (aa (v3 11) (aa (v3 12) ak))) ak)))) aO)
     (aj (aF 13 R7.nd (aJ GX (bh (aa cN (aa cN ak))) (bH yp rfl B.int_ vV (aa (d9 (cF I) (aJ GX (aJ GX (v3 3) (v3 9)) ao) (aJ GX (aJ GX (v3 3) (v3 10)) ao)) ak))))
     (aj (bc (aR (jA hu31) (aH aX (v3 6) ao) (bA (aa ao (aa ao ak))) rfl) (au (bC (dj H_ O_ P_ bu (v3 8) (aa (bA (aa (v3 13) (aa (v3 11) (aa (v3 12) ak)))) ak)))) aO)
     (aj (bc (aR (jA hu31) (aH aX (v3 6) ao) (bA (aa ao (aa ao ak))) rfl) (au (bC (dj H_ O_ P_ bu (v3 8) (aa (bA (aa (v3 13) (aa (v3 12) (aa (v3 11) ak)))) ak)))) aO)
     (aj (aF 5 R7.nd (aH bj (v3 5) (v3 4)))
     (au (aF 6 R7.nd (aH bj (v3 6) ao)))))))))))))
   (aj (bc (aR (cF I) (aH aX (v3 5) ao) ao) (au (bC (wF H_ PySem.F.slot_list_reverse PySem.F.type_list_reverse Gx (v3 7)))) aO)
   (aj (bc (aR (cF I) (aH aX (v3 6) ao) ao) (au (bC (wF H_ PySem.F.slot_list_reverse PySem.F.type_list_reverse Gx (v3 8)))) aO)
   (au (aL (bA (aa (bH cX rfl B.tuple_ cj (aa (v3 7) ak)) (aa (bH cX rfl B.tuple_ cj (aa (jC (v3 8) fK (dZ ao)) ak)) ak)))))))))))))),?_⟩
 walk_at "q";walk_at "h";have k':=nT.mk kk;clear kk;refine aA fun R0 hR0=>?_;walk_at "";refine⟨trivial,by omega,by omega,?_⟩;rw[m9];walk_at "c";refine bK (fun (k:Nat)=>T.int (k:Int)) (fun k=>trT ((((c.map (·.1)).getD k 0:Nat):Int),(c.map (·.2.1)).getD k 0,(k:Int))) (List.range ns.length) [some (.ref ps)] trivial (by rw[C_];omega) (fun k hk Q' hq=>?_) (fun p1 hp1=>?_)
 ·have hk':k<c.length:=by have:=Zf.mp hk;omega
  have x1:atI (c.map tk5) (k:Int)=some (.tup [.int ((c[k]).1:Int),.int (c[k]).2.1,.int (c[k]).2.2.1,sT (c[k]).2.2.2.1,.str (c[k]).2.2.2.2]):=cB (by rw[B_,e_ hk'];rfl);have y1:(c.map (·.1)).getD k 0=(c[k]).1:=by rw[h_,B_,e_ hk'];rfl
  have y2:(c.map (·.2.1)).getD k 0=(c[k]).2.1:=by rw[h_,B_,e_ hk'];rfl
  rw[y1,y2] at hq;generalize c[k]=tk at x1 hq;have hq':=nT.mk hq;clear hq k' hR0 y1 y2;walk_at "";exact⟨by decide,hq'.out⟩
 refine⟨(List.range ns.length).map fun k=>((((c.map (·.1)).getD k 0:Nat):Int),(c.map (·.2.1)).getD k 0,(k:Int)),by rw[Zh];rfl,by rw[g_,C_];omega,fun us hperm hpw pk hpk=>?_⟩;obtain⟨ul,U,hx1,hx2⟩:=Te hsl hperm hpw;have sb:eH H3 (fY (fY H3 p1 (.lst ((List.range ns.length).map fun k=>trT ((((c.map (·.1)).getD k 0:Nat):Int),(c.map (·.2.1)).getD k 0,(k:Int))))) pk (.lst (us.map trT))):=(eH.new hp1).trans (eH.new hpk);have S:fY (fY H3 p1 (.lst ((List.range ns.length).map fun k=>trT ((((c.map (·.1)).getD k 0:Nat):Int),(c.map (·.2.1)).getD k 0,(k:Int))))) pk (.lst (us.map trT)) pk=some (.lst (us.map trT)):=aq;generalize fY (fY H3 p1 (.lst ((List.range ns.length).map fun k=>trT ((((c.map (·.1)).getD k 0:Nat):Int),(c.map (·.2.1)).getD k 0,(k:Int))))) pk (.lst (us.map trT))=H4 at sb S ⊢;clear hperm hpw hpk hp1;have x:=nT.mk hx1;have hx2':=nT.mk hx2;clear hx1 hx2;walk_at "n";walk_at "s";refine⟨by decide,fun q1 y=>?_⟩;have v:=sb.trans (eH.new (o:=.lst [T.int 2,T.int 4,T.int 8]) y);have W:fY H4 q1 (.lst [T.int 2,T.int 4,T.int 8]) pk=_ := upa S y;have V:fY H4 q1 (.lst [T.int 2,T.int 4,T.int 8]) q1=some (.lst [T.int 2,T.int 4,T.int 8]):=aq;generalize fY H4 q1 (.lst [T.int 2,T.int 4,T.int 8])=H5 at v W V ⊢;clear sb S y;refine⟨a,sc,0,rfl,v _ _ ha,hsc,by decide,fun c0=>?_⟩;dsimp only;obtain⟨bs,eb,hbs⟩:∃bs:Int,atI [T.int 2,T.int 4,T.int 8] (c0 / 2048%3)=some (T.int bs)/\(bs=2\/bs=4\/bs=8):=by
  have i0:=X_ (c0 / 2048) (show (3:Int)≠0 by decide);have i1:=S_ (c0 / 2048) (show (0:Int)<3 by decide);rcases (show c0 / 2048%3=0\/c0 / 2048%3=1\/c0 / 2048%3=2 by omega) with h | h | h
  ·rw[h];exact⟨2,rfl,.inl rfl⟩
  ·rw[h];exact⟨4,rfl,.inr (.inl rfl)⟩
  rw[h];exact⟨8,rfl,.inr (.inr rfl)⟩
 walk_at "";refine⟨⟨by decide,by decide +kernel⟩,by decide,?_⟩;have lgb:bs.natAbs.log2<9000:=aaJ (abg _) (by omega);clear eb V;walk_at "n";walk_at "s";refine⟨a,sc,12,rfl,v _ _ ha,hsc,by decide,fun c1=>?_⟩;walk_at "n";walk_at "s";refine⟨a,sc,13,rfl,v _ _ ha,hsc,by decide,fun c2=>?_⟩;walk_at "n";walk_at "s";refine⟨by decide,fun J D=>?_⟩;walk_at "n";walk_at "s";refine⟨by decide,fun pq G=>?_⟩;have Y:LkH H3 (fY (fY H5 J (.lst [])) pq (.lst [])) pk J pq us [] [] :=
  ⟨(v.trans (eH.new D)).trans (eH.new G),eH.new G _ _ (eH.new D _ _ W),by rw[aD (bz aq G)];exact aq,aq,cu v D,cu (v.trans (eH.new D)) G,bz W D,bz (eH.new D _ _ W) G,bz aq G⟩
 generalize fY (fY H5 J (.lst [])) pq (.lst [])=H6 at Y ⊢;clear v W D G;walk_at "n";refine aA fun R6 hR6=>?_;have gk0:=Y.k;walk_at "";refine⟨by first | trivial | omega,by omega,by omega,?_⟩;try rw[ul]
 rw[m9];have C:∃b:Nat->Str,∀p<ns.length,ns[U p]?=some (b p):=⟨fun p=>ns.getD (U p) "",fun p hp=>by
  have:=(x.out p hp).1
  dsimp only
  rw[h_,e_ this]
  rfl⟩
 obtain⟨b,C⟩:=C;obtain⟨L,hwd⟩:∃L:Nat->Nat->Str,∀p q,L p q=if (c.map (·.1)).getD (U p) 0=(c.map (·.1)).getD (U q) 0 then "with" else "apart":=⟨_,fun _ _=>rfl⟩
 have hwd':=nT.mk hwd;clear hwd;have hinj:nT (∀i j,i<ns.length->j<ns.length->b i=b j->i=j):=⟨fun i j hi hj e=>by
  have h1:=C i hi
  have h2:=C j hj
  rw[e,<- h2] at h1
  have e2:=(abP (x.out i hi).1 hnn.nd).mp h1
  rcases Nat.lt_trichotomy i j with z | z | z
  ·
   exact absurd e2 (hx2'.out i j z hj).1
  ·
   exact z
  ·
   exact absurd e2.symm (hx2'.out j i z hi).1⟩
 refine aV (fun (k:Nat)=>T.int (k:Int)) (List.range ns.length) (fun A Z H=>∃(O:List (Str × Str)) (P:List (Str × Str × Str)) (ah be:Int) (v9 m d n l:Option T),Z=[some (.ref a),some (.ref pn),some (.ref ps),some (.ref pk),some (.int bs),some (.int ah),some (.int be),some (.ref J),some (.ref pq),v9,m,d,n,l]/\LkH H3 H pk J pq us O P/\Lk1 b L ns.length A.length 0 O P) ⟨[],[],_,_,_,_,_,_,_,rfl,Y,⟨aaY,(fun _ z=>nomatch z),aaY,(fun _ z=>nomatch z),Zx _,Zx _⟩⟩ ?_ ?_
 ·rintro Z H ⟨O,P,ah,be,v9,m,d,n,l,rfl,t,X⟩;walk_at "t";have S:=t.k;have go:=t.o;have gp:=t.p;clear Y gk0;walk_at "n";walk_at "s";refine⟨by decide,?_⟩;refine Gz ⟨trivial,trivial⟩ fun b7 H7 e7=>?_;obtain⟨O',pO,lh7⟩:∃O':List (Str × Str),O'.Perm O/\LkH H3 H7 pk J pq us O' P:=by
   cases b7
   ·rw[e7];exact⟨O,.refl _,t⟩
   refine⟨O.reverse,List.reverse_perm O,?_⟩;rw[e7,<- aby];exact t.putO
  have gp7:=lh7.p;clear e7 t S go gp;walk_at "n";walk_at "s";refine⟨by decide,?_⟩;refine Gz ⟨trivial,trivial⟩ fun b8 H8 e8=>?_;obtain⟨P',pP,lh8⟩:∃P':List (Str × Str × Str),P'.Perm P/\LkH H3 H8 pk J pq us O' P':=by
   cases b8
   ·rw[e8];exact⟨P,.refl _,lh7⟩
   refine⟨P.reverse,List.reverse_perm P,?_⟩;rw[e8,<- aby];exact lh7.putP
  have gp8:=lh8.p;have go8:=lh8.o;clear e8 lh7 gp7;walk_at "n";walk_at "";intro q1 y;refine⟨by decide,?_⟩;rw[show (12:Int)=((12:Nat):Int) from rfl,qu,<- List.map_take];exact n7.of (lh8.sb.trans (eH.new y)) (k'.out O' (P'.take 12) (Tf hn8 (fun p hp=>(x.out p hp).1) hx2'.out C hwd'.out X pO pP))
 rintro A p B Z H N e ⟨O,P,ah,be,v9,m,d,n,l,rfl,t,X⟩ hN;walk_at "t";have hA:A.length<ns.length:=by have:=T_ List.length e;simp only[d_,j_,C_] at this;omega
 have hj:p=A.length:=by
  have h1:(List.range ns.length)[A.length]?=some p:=by rw[e,Q_ (m_ _)];simp
  rw[Zg hA] at h1;exact (F_ h1).symm
 have S:=t.k;have hN':=nT.mk hN;clear hN e k' hR6 Y gk0;subst hj;walk_at "";refine⟨by first | trivial | omega,⟨by omega,by omega,by omega,by omega⟩,?_⟩;rw[show dM ((A.length:Int)+1) ((ns.length:Int) - ((A.length:Int)+1)).toNat=(List.range (ns.length - (A.length+1))).map (fun (i:Nat)=>T.int ((A.length:Int)+1+(i:Int))) by unfold dM;rw[show ((ns.length:Int) - ((A.length:Int)+1)).toNat=ns.length - (A.length+1) by omega]];refine aV (fun (i:Nat)=>T.int ((A.length:Int)+1+(i:Int))) (List.range (ns.length - (A.length+1))) (fun M Z H=>∃(O:List (Str × Str)) (P:List (Str × Str × Str)) (ah be:Int) (m d n l:Option T),Z=[some (.ref a),some (.ref pn),some (.ref ps),some (.ref pk),some (.int bs),some (.int ah),some (.int be),some (.ref J),some (.ref pq),some (.int (A.length:Int)),m,d,n,l]/\LkH H3 H pk J pq us O P/\Lk1 b L ns.length A.length (A.length+1+M.length) O P) ⟨O,P,_,_,_,_,_,_,rfl,t,X.skip (fun p' q' _ z=>by unfold Dn at *;omega) (by omega)⟩ ?_ ?_
 ·rintro Z H ⟨O,P,ah,be,m,d,n,l,rfl,t,X⟩;walk_at "t";rw[C_] at X;exact hN'.out _ _ ⟨O,P,_,_,_,_,_,_,_,rfl,t,X.skip (fun p' q' hq z=>by rw[d_,v_];unfold Dn at *;omega) (by rw[d_,v_];omega)⟩
 rintro M i B2 Z H N2 e2 ⟨O,P,ah,be,m,d,n,l,rfl,t,X⟩ hN2;walk_at "t";have hA2:M.length<ns.length - (A.length+1):=by have:=T_ List.length e2;simp only[d_,j_,C_] at this;omega
 have hi2:i=M.length:=by
  have h1:(List.range (ns.length - (A.length+1)))[M.length]?=some i:=by rw[e2,Q_ (m_ _)];simp
  rw[Zg hA2] at h1;exact (F_ h1).symm
 subst hi2;have hM:nT (∀(b1 b2 b3:Bool) (ah be:Int) (m d n l:Option T) (H':lO),LkH H3 H' pk J pq us (bif b1 then O++[(b A.length,b (A.length+1+M.length))] else O) (bif b3 then (bif b2 then P++[(L A.length (A.length+1+M.length),b A.length,b (A.length+1+M.length))] else P)++[(L A.length (A.length+1+M.length),b (A.length+1+M.length),b A.length)] else (bif b2 then P++[(L A.length (A.length+1+M.length),b A.length,b (A.length+1+M.length))] else P))->N2 [some (.ref a),some (.ref pn),some (.ref ps),some (.ref pk),some (.int bs),some (.int ah),some (.int be),some (.ref J),some (.ref pq),some (.int (A.length:Int)),m,d,n,l] H'):=⟨fun b1 b2 b3 ah be m d n l H' hl=>hN2 _ _ ⟨_,_,_,_,_,_,_,_,rfl,hl,by
  have:=X.step hinj.out (by omega) (by omega) b1 b2 b3
  rw[d_,v_]
  exact this⟩⟩
 have ol:=X.ol;have pl_:=X.pl;clear hN2 e2 hN' X;obtain⟨q,hq⟩:∃q,q=A.length+1+M.length:=⟨_,rfl⟩;have hqm:q<ns.length:=by omega
 have eqI:(A.length:Int)+1+(M.length:Int)=(q:Int):=by omega
 rw[<- hq] at hM ol pl_;obtain⟨ip,up⟩:=x.out A.length hA;obtain⟨iq,uq⟩:=x.out q hqm;have u1:atI (us.map trT) (A.length:Int)=some (.tup [.int (((c.map (·.1)).getD (U A.length) 0:Nat):Int),.int (us.getD A.length (0,0,0)).2.1,.int (U A.length:Int)]):=cB (by rw[B_,up];rfl);have u2:atI (us.map trT) (q:Int)=some (.tup [.int (((c.map (·.1)).getD (U q) 0:Nat):Int),.int (us.getD q (0,0,0)).2.1,.int (U q:Int)]):=cB (by rw[B_,uq];rfl);have n1:atI (ns.map T.str) (U A.length:Int)=some (.str (b A.length)):=cB (by rw[B_,C _ hA];rfl);have n2:atI (ns.map T.str) (U q:Int)=some (.str (b q)):=cB (by rw[B_,C _ hqm];rfl);have hw:=hwd'.out A.length q;have S:=t.k;have gn:=t.sb _ _ hpn;have go:=t.o;dsimp only;rw[eqI];clear eqI hq;generalize (c.map (·.1)).getD (U A.length) 0=s1 at *;generalize (c.map (·.1)).getD (U q) 0=s2 at *;refine aA fun Ra hRa=>?_;walk_at "";obtain⟨hRa⟩:=hRa;subst hRa;refine aA fun Rb hRb=>?_;walk_at "";obtain⟨hRb⟩:=hRb;subst hRb;refine aA fun Rc hRc=>?_;walk_at "";refine⟨by omega,?_⟩;refine xm (p1:=True/\True) ⟨trivial,trivial⟩ (by decide) (by omega) fun b1 Hb eb=>?_;have lhb:LkH H3 Hb pk J pq us (bif b1 then O++[(b A.length,b q)] else O) P:=by
  cases b1
  ·rw[eb];exact t
  have:=t.putO (O':=O++[(b A.length,b q)]);rw[z_] at this;rw[eb];exact this
 clear eb S gn go t;have S:=lhb.k;obtain⟨hRc⟩:=hRc;subst hRc;refine aA fun Rd hRd=>?_;walk_at "";refine⟨by decide,fun q1 y=>?_⟩;have R:=lhb.new (u:=.lst [T.str "apart",T.str "with"]) y;have V:fY Hb q1 (.lst [T.str "apart",T.str "with"]) q1=some (.lst [T.str "apart",T.str "with"]):=aq;generalize fY Hb q1 (.lst [T.str "apart",T.str "with"])=Hc at R V ⊢;clear lhb S y;have S:=R.k;walk_at "";have hwd2:atI [T.str "apart",T.str "with"] (if decide ((s1:Int)=(s2:Int))=true then 1 else 0)=some (T.str (L A.length q)):=by
  by_cases z:s1=s2
  ·rw[hw,if_pos z,L_ (by rw[z]),if_pos rfl];rfl
  rw[hw,if_neg z,I_ (by omega),if_neg G_];rfl
 rw[hwd2,f9];clear hwd2 hw V S;obtain⟨hRd⟩:=hRd;subst hRd;have gp:=R.p;refine aA fun Re hRe=>?_;walk_at "";refine⟨by decide,by decide,rfl,rfl,?_⟩;refine xm (p1:=True/\True) ⟨trivial,trivial⟩ (by decide) (by omega) fun b2 Hd ed=>?_;have lhd:LkH H3 Hd pk J pq us (bif b1 then O++[(b A.length,b q)] else O) (bif b2 then P++[(L A.length q,b A.length,b q)] else P):=by
  cases b2
  ·rw[ed];exact R
  have:=R.putP (P':=P++[(L A.length q,b A.length,b q)]);rw[z_] at this;rw[ed];exact this
 have hP1:(bif b2 then P++[(L A.length q,b A.length,b q)] else P).length<=2*(9*A.length+q)+1:=by
  cases b2
  ·exact Nat.le_succ_of_le pl_
  show (P++[_]).length<=_;rw[d_];simp;exact pl_
 have hM2:=nT.mk (hM.out b1 b2);clear ed R gp hM;generalize (bif b2 then P++[(L A.length q,b A.length,b q)] else P)=P1 at *;obtain⟨hRe⟩:=hRe;subst hRe;have gp:=lhd.p;refine aA fun Rf hRf=>?_;walk_at "";refine⟨by decide,by decide,rfl,rfl,?_⟩;refine xm (p1:=True/\True) ⟨trivial,trivial⟩ (by decide) (by omega) fun b3 He ee=>?_;have lhe:LkH H3 He pk J pq us (bif b1 then O++[(b A.length,b q)] else O) (bif b3 then P1++[(L A.length q,b q,b A.length)] else P1):=by
  cases b3
  ·rw[ee];exact lhd
  have:=lhd.putP (P':=P1++[(L A.length q,b q,b A.length)]);rw[z_] at this;rw[ee];exact this
 clear ee lhd gp;obtain⟨hRf⟩:=hRf;subst hRf;walk_at "";exact⟨⟨by omega,lgb⟩,⟨by decide,by decide +kernel⟩,hM2.out b3 _ _ _ _ _ _ _ lhe⟩
abbrev jV:List Str:=["_law_script","_law_most","_law_wide","_law_first","_law_pool_here","_law_spread","_law_kinds","_law_row","_law_k","_law_unit","_law_some_here","_law_names","_law_tasks","_law_orders","_law_pairs"]
def RL:gV jV ["_law_script","_law_most","_law_wide"] (aB (top 45)):=aZ
def Hl {f:Addr} (g:G3 K mg "_law_works" (top 45) ["_law_script","_law_most","_law_wide"] f fd) (B:Bl mg) (m:Oc P w K mg base 1 "_law_cell" (top 39) ["_law_script","_law_k"] Gy) (F_pool:Oc P w K mg base 2 "_law_pool" (top 42) ["_law_cell_here"] W6) (F_task:Oc P w K mg base 2 "_law_task" (top 43) ["_law_cell_here","_law_row","_law_pool_here","_law_unit"] W7) (M:Oc P w K mg base 1 "_law_unlike" (top 41) ["_law_words"] S9) (Y:Oc P w K mg base 2 "_law_links" (top 44) ["_law_script","_law_names","_law_some_here"] W8):Oc P w K mg base 3 "_law_works" (top 45) ["_law_script","_law_most","_law_wide"] Xa:=by
 refine c6 g RL ?_;rintro _ A _ s H _ _ H3 _ hr ⟨a,sc,l,c,rfl,ha,L,m1,m8,w1,w8,kk⟩;refine⟨_,(aj (aF 3 RL.nd (aU m hr rfl (aa (v3 0) (aa ao ak))))
   (aj (aF 4 RL.nd (aU F_pool hr rfl (aa (aU m hr rfl (aa (v3 0) (aa ao ak))) ak)))
   (aj (aF 5 RL.nd (aJ GX (bh (aa ao (aa ao (aa ao (aa ao ak))))) (aH aX (aH bj (v3 3) ao) ao)))
   (aj (aF 6 RL.nd (aU m hr rfl (aa (v3 0) (aa ao ak))))
   (aj (aF 7 RL.nd (bh ak))
   (aj (aW D_ rfl (cA rfl B.range_ (aa (aH bf ao (aH aX (aH bj (v3 3) ao) (v3 2))) ak)) (aC 8 RL.nd) (aj (bC (dj H_ O_ P_ bu (v3 7) (aa (aJ GX (v3 4) (aH aX (v3 6) (v3 5))) ak)))
    (au (aF 6 RL.nd (aH bj (v3 6) (v3 5))))))
   (aj (aF 9 RL.nd (aH bf ao (aH aX (aU m hr rfl (aa (v3 0) (aa ao ak))) (aH jh ao ao))))
   (aj (aF 10 RL.nd (bh ak))
   (aj (aW D_ rfl (cA rfl B.range_ (aa (aH bf ao (aH aX (aH bj (v3 3) ao) (v3 1))) ak)) (aC 8 RL.nd) (au (bC (dj H_ O_ P_ bu (v3 10) (aa (aU F_task hr rfl (aa (aU m hr rfl (aa (v3 0) (aa (aH bf ao (v3 8)) ak))) (aa (v3 7) (aa (v3 4) (aa (v3 9) ak))))) ak)))))
   (aj (aF 11 RL.nd (aU M hr rfl (aa (bR rfl (b6 45 jV ["_law_one"] 1 []) (cD (v3 10)) (fun cl pins s H C0 fp=>⟨(aC 0 (n5 ["_law_one"])),cP,(aJ GX (v3 0) ao)⟩)) ak)))
   (aj (jz (i:=12) rfl RL.nd (b6 45 jV ["_law_name","_law_one"] 2 []) (J1 rfl B.zip_ (aa (v3 11) (aa (v3 10) ak))) (fun cl pins s H C0 fp=>⟨(bO (n:=2) rfl (aG (aC 0 (n5 ["_law_name","_law_one"])) (aG (aC 1 (n5 ["_law_name","_law_one"])) bB))),cP,(bA (aa (v3 0) (aa (aJ GX (v3 1) ao) (aa (aJ GX (v3 1) ao) ak))))⟩))
   (aj (ig (aU Y hr rfl (aa (v3 0) (aa (v3 11) (aa (v3 10) ak)))) (bO (n:=2) rfl (aG (aC 13 RL.nd) (aG (aC 14 RL.nd) bB))))
   (au (aL (bA (aa (bA (aa (bH cX rfl B.tuple_ cj (aa (v3 12) ak)) (aa (v3 13) (aa (v3 14) (aa (bH cX rfl B.tuple_ cj (aa (v3 7) ak)) ak))))) (aa (bR rfl (b6 45 jV ["_law_one"] 1 []) (cD (v3 10)) (fun cl pins s H C0 fp=>⟨(aC 0 (n5 ["_law_one"])),cP,(aJ GX (v3 0) ao)⟩)) ak))))))))))))))))),?_⟩
 walk_at "q";walk_at "h";have k':=nT.mk kk;clear kk;walk_at "s";refine⟨a,sc,0,rfl,ha,L,by decide,fun v=>?_⟩;walk_at "n";walk_at "s";refine⟨a,sc,2,rfl,ha,L,by decide,fun c1=>⟨c1,rfl,fun d hpl J F hpp=>?_⟩⟩;have sb1:eH H3 (fY H3 F (.lst (d.map T.str))):=eH.new hpp;have gp1:fY H3 F (.lst (d.map T.str)) F=some (.lst (d.map T.str)):=aq;generalize fY H3 F (.lst (d.map T.str))=H4 at sb1 gp1 ⊢;clear hpp;walk_at "n";refine aA fun R2 hR2=>?_;obtain⟨sp,eb,hsp⟩:∃sp:Int,atI [T.int 1,T.int 2,T.int 3,T.int 8] (v / 512%4)=some (T.int sp)/\1<=sp/\sp<=8:=by
  have i0:=X_ (v / 512) (show (4:Int)≠0 by decide);have i1:=S_ (v / 512) (show (0:Int)<4 by decide);rcases (show v / 512%4=0\/v / 512%4=1\/v / 512%4=2\/v / 512%4=3 by omega) with h | h | h | h
  ·rw[h];exact⟨1,rfl,by decide⟩
  ·rw[h];exact⟨2,rfl,by decide⟩
  ·rw[h];exact⟨3,rfl,by decide⟩
  rw[h];exact⟨8,rfl,by decide⟩
 walk_at "";refine⟨by decide,fun q1 D=>⟨⟨by decide,by decide +kernel⟩,by decide,?_⟩⟩;try rw[eb,f9]
 have sb2:=sb1.trans (eH.new (o:=.lst [T.int 1,T.int 2,T.int 3,T.int 8]) D);have gp2:fY H4 q1 (.lst [T.int 1,T.int 2,T.int 3,T.int 8]) F=_ := upa gp1 D;generalize fY H4 q1 (.lst [T.int 1,T.int 2,T.int 3,T.int 8])=H5 at sb2 gp2 ⊢;have lgs:sp.natAbs.log2<9000:=aaJ (abg _) (by omega);clear sb1 gp1 D eb;walk_at "n";walk_at "s";refine⟨a,sc,1,rfl,sb2 _ _ ha,L,by decide,fun c2=>?_⟩;walk_at "n";walk_at "s";refine⟨by decide,fun V X=>?_⟩;have sb3:=sb2.trans (eH.new (o:=.lst []) X);have f0:=cu sb2 X;have gp3:fY H5 V (.lst []) F=_ := upa gp2 X;have npr:F≠V:=bz gp2 X;have gr3:fY H5 V (.lst []) V=some (.lst (([]:List Str).map T.str)):=aq;generalize fY H5 V (.lst [])=H6 at sb3 gp3 gr3 ⊢;clear sb2 gp2 X;walk_at "n";refine aA fun R5 hR5=>?_;walk_at "";have w0:=X_ (v / 2) (show c≠0 by omega);have w2:=S_ (v / 2) (show 0<c by omega);refine⟨⟨by decide,by decide +kernel⟩,by omega,by first | trivial | omega,by omega,by omega,?_⟩;have rl:(dM 0 (1+v / 2%c).toNat).length=(1+v / 2%c).toNat:=by unfold dM;rw[g_,C_]
 generalize dM 0 (1+v / 2%c).toNat=ts0 at rl;have hpn':=nT.mk J;clear J;refine iJ (fun r Z H=>∃(k:List Str) (c2:Int) (v8:Option T),Z=[some (.ref a),some (.int l),some (.int c),some (.int v),some (.ref F),some (.int sp),some (.int c2),some (.ref V),v8,none,none,none,none,none,none]/\eH H3 H/\H F=some (.lst (d.map T.str))/\H V=some (.lst (k.map T.str))/\(k.length:Int)+r.length=1+v / 2%c/\∀x∈k,isNm x) ⟨[],c2,_,rfl,sb3,gp3,gr3,by rw[rl,Zu];omega,(fun _ z=>nomatch z)⟩ ?_ ?_
 ·rintro Z H ⟨k,c3,v8,rfl,R,gp,gr,hrl,hrn⟩;walk_at "t";rw[Zu] at hrl;have r1:1<=k.length:=by omega
  have r8:k.length<=8:=by omega
  have rw_:(k.length:Int)<=c:=by omega
  have G:=nT.mk hrn;clear hrn sb3 gp3 gr3 hrl rl w0 w2;walk_at "n";walk_at "s";refine⟨a,sc,3,rfl,R _ _ ha,L,by decide,fun c4=>⟨⟨by decide,by decide,by decide⟩,?_⟩⟩;walk_at "";refine⟨by decide +kernel,?_⟩;have p57:(10:Int)^Int.toNat 57=10^57:=rfl;rw[p57];have u0:=X_ c4 (show ((10:Int)^57)≠0 by decide +kernel);have u9:=S_ c4 (show (0:Int)<(10:Int)^57 by decide +kernel);obtain⟨q,hu⟩:∃q:Int,1+c4%10^57=q:=⟨_,rfl⟩;have u1:1<=q:=by omega
  have u2:q<=10^57:=by omega
  rw[hu];clear hu u0 u9 p57;walk_at "n";walk_at "s";refine⟨by decide,fun ps C=>?_⟩;have sb4:=R.trans (eH.new (o:=.lst []) C);have g0:=cu R C;have gp4:fY H ps (.lst []) F=_ := upa gp C;have gr4:fY H ps (.lst []) V=_ := upa gr C;have gs4:fY H ps (.lst []) ps=some (.lst (([]:List Tk5).map tk5)):=aq;have nps1:F≠ps:=bz gp C;have nps2:V≠ps:=bz gr C;generalize fY H ps (.lst [])=H7 at sb4 gp4 gr4 gs4 ⊢;clear R gp gr C;walk_at "n";refine aA fun R8 hR8=>?_;walk_at "";have t0:=X_ (v / 64) (show l≠0 by omega);have t2:=S_ (v / 64) (show 0<l by omega);refine⟨⟨by decide,by decide +kernel⟩,by omega,by first | trivial | omega,by omega,by omega,?_⟩;obtain⟨n,hn⟩:∃n:Nat,(1+v / 64%l).toNat=n:=⟨_,rfl⟩;have n1:1<=n:=by omega
  have n8:n<=8:=by omega
  have nm_:(n:Int)<=l:=by omega
  rw[hn,m9];clear hn t0 t2;refine aV (fun (i:Nat)=>T.int (i:Int)) (List.range n) (fun A Z H=>∃(p:List Tk5) (v8:Option T),Z=[some (.ref a),some (.int l),some (.int c),some (.int v),some (.ref F),some (.int sp),some (.int c3),some (.ref V),v8,some (.int q),some (.ref ps),none,none,none,none]/\eH H3 H/\H F=some (.lst (d.map T.str))/\H V=some (.lst (k.map T.str))/\H ps=some (.lst (p.map tk5))/\p.length=A.length/\∀t∈p,TkO k t) ⟨[],_,rfl,sb4,gp4,gr4,gs4,rfl,(fun _ z=>nomatch z)⟩ ?_ ?_
  ·rintro Z H ⟨p,v8,rfl,R,gp,gr,gs,hsl,hss⟩;walk_at "t";rw[C_] at hsl;have I:=nT.mk hss;clear hss sb4 gp4 gr4 gs4;walk_at "n";refine aA fun R9 hR9=>?_;walk_at "";walk_at "c";refine bK tk5 (fun t=>T.str t.2.2.2.2) p [] (.inl gs) (by omega) (fun t ht Q' hq=>?_) (fun q1 D=>?_)
   ·have x1:atI [T.int (t.1:Int),T.int t.2.1,T.int t.2.2.1,sT t.2.2.2.1,T.str t.2.2.2.2] 4=some (T.str t.2.2.2.2):=rfl;have W:=nT.mk hq;clear hq k' hR9;simp only[tk5];walk_at "";exact W.out
   rw[show (p.map fun t=>T.str t.2.2.2.2)=(p.map (·.2.2.2.2)).map T.str by rw[Zh];rfl];refine⟨q1,p.map (·.2.2.2.2),rfl,aq,by rw[g_];omega,fun x hx=>?_,fun ns hnl hnn pn J=>?_⟩
   ·obtain⟨t,ht,rfl⟩:=A_.mp hx;exact (I.out t ht).nm
   rw[g_] at hnl;have sb5:=R.trans ((eH.new D).trans (eH.new (o:=.lst (ns.map T.str)) J));have st5:=(eH.new D).trans (eH.new (o:=.lst (ns.map T.str)) J);have gr5:=st5 _ _ gr;have gs5:=st5 _ _ gs;have gn5:fY (fY H q1 (.lst ((p.map (·.2.2.2.2)).map T.str))) pn (.lst (ns.map T.str)) pn=some (.lst (ns.map T.str)):=aq;try dsimp only
   generalize fY (fY H q1 (.lst ((p.map (·.2.2.2.2)).map T.str))) pn (.lst (ns.map T.str))=H8 at sb5 gr5 gs5 gn5 ⊢;clear st5 R gp gr gs D J;walk_at "n";refine aA fun R10 hR10=>?_;walk_at "";rw[nA,show ∀x0 x1 x2 x3 x4 x5 x6 x7 x8 x9 x10 x11 x12 x13 x14,ql 2 [] [x0,x1,x2,x3,x4,x5,x6,x7,x8,x9,x10,x11,x12,x13,x14]=[none,none] from fun _ _ _ _ _ _ _ _ _ _ _ _ _ _ _=>rfl];refine tH (fun z=>T.str z.1) (fun z=>tk5 z.2) (fun z=>.tup [.str z.1,.int z.2.2.2.1,sT z.2.2.2.2.1]) (ns.zip p) [] (still:=fun H'=>bD pn (ns.map T.str) H'/\bD ps (p.map tk5) H') (H:=H8) ⟨.inl gn5,.inl gs5⟩ (by rw[List.length_zip];omega) (fun z U Q' hq=>?_) ?_
   ·obtain⟨zn,S⟩:=z;have x2:atI [T.int (S.1:Int),T.int S.2.1,T.int S.2.2.1,sT S.2.2.2.1,T.str S.2.2.2.2] 2=some (T.int S.2.2.1):=rfl;have x3:atI [T.int (S.1:Int),T.int S.2.1,T.int S.2.2.1,sT S.2.2.2.1,T.str S.2.2.2.2] 3=some (sT S.2.2.2.1):=rfl;have W:=nT.mk hq;clear hq k' hR10;simp only[tk5];walk_at "";exact⟨by decide,W.out⟩
   try dsimp only
   intro pt hpt;have st6:=eH.new (o:=.lst ((ns.zip p).map fun z=>T.tup [.str z.1,.int z.2.2.2.1,sT z.2.2.2.2.1])) hpt;have gr6:=st6 _ _ gr5;have gs6:=st6 _ _ gs5;have gn6:=st6 _ _ gn5;have gt6:fY H8 pt (.lst ((ns.zip p).map fun z=>T.tup [.str z.1,.int z.2.2.2.1,sT z.2.2.2.2.1])) pt=some (.lst ((ns.zip p).map fun z=>T.tup [.str z.1,.int z.2.2.2.1,sT z.2.2.2.2.1])):=aq;have sb6:eH H3 (fY H8 pt (.lst ((ns.zip p).map fun z=>T.tup [.str z.1,.int z.2.2.2.1,sT z.2.2.2.2.1]))):=sb5.trans st6;try dsimp only
   generalize fY H8 pt (.lst ((ns.zip p).map fun z=>T.tup [.str z.1,.int z.2.2.2.1,sT z.2.2.2.2.1]))=H9 at sb6 gr6 gs6 gn6 gt6 ⊢;clear st6 sb5 gr5 gs5 gn5 hpt;walk_at "n";walk_at "s";refine⟨a,pn,ps,sc,ns,p,rfl,sb6 _ _ ha,L,gn6,hnn,by omega,gs6,by omega,fun O P lk=>?_⟩;try walk_at ""
   walk_at "n";walk_at "";refine⟨trivial,by decide,?_⟩;walk_at "c";refine bK tk5 (fun t=>T.int (t.1:Int)) p [] (.inl gs6) (by omega) (fun t ht Q' hq=>?_) (fun pz hpz=>?_)
   ·have x0:atI [T.int (t.1:Int),T.int t.2.1,T.int t.2.2.1,sT t.2.2.2.1,T.str t.2.2.2.2] 0=some (T.int (t.1:Int)):=rfl;have W:=nT.mk hq;clear hq k';simp only[tk5];walk_at "";exact W.out
   obtain⟨ok,ft,el⟩:=Tg hnn (by omega) (by omega) (by omega) I.out r1 r8 G.out lk;refine⟨by decide,?_⟩;have ee:(p.map fun t=>T.int (t.1:Int))=(p.map (·.1)).map fun (s:Nat)=>T.int (s:Int):=by rw[Zh];rfl
   have ew:T.tup [T.tup ((ns.zip p).map fun z=>T.tup [T.str z.1,T.int z.2.2.2.1,sT z.2.2.2.2.1]),T.tup (O.map orT),T.tup (P.map prT),T.tup (k.map T.str)]=(mkW ns p O P k).enc:=by unfold Wk.enc mkW;rw[Zh];rfl
   rw[ee,ew];refine n7.of ?_ (k'.out (mkW ns p O P k) (p.map (·.1)) ok (by rw[el];omega) rw_ ft pz (cu sb6 hpz));intro b o hb;by_cases e:b=pz
   ·subst e;rw[aq] at hb ⊢;exact hb
   rw[aD e] at hb ⊢;exact sb6 b o hb
  rintro A i B Z H N e ⟨p,v8,rfl,R,gp,gr,gs,hsl,hss⟩ hN;walk_at "t";have hA:A.length<n:=by have:=T_ List.length e;simp only[d_,j_,C_] at this;omega
  have hi:i<n:=Zf.mp (by rw[e];simp);have hM:=nT.mk hN;have I:=nT.mk hss;clear hN hss e sb4 gp4 gr4 gs4 k' hR8;walk_at "";refine⟨⟨trivial,trivial⟩,a,sc,4+i,by rw[show (4:Int)+(i:Int)=((4+i:Nat):Int) by push_cast;rfl],R _ _ ha,L,by omega,fun c5=>⟨c5,V,F,k,d,q,rfl,gr,r1,r8,G.out,gp,hpl,hpn'.out.nm,u1,u2,fun s tn len ks nam h1 h2 h3 h4 h5 h6 h7 h8 h9=>?_⟩⟩;dsimp only;rw[gs,CJ];refine⟨by rw[g_];omega,hM.out _ _ ⟨p++[(s,tn,len,ks,nam)],_,rfl,fun b u hb=>?_,?_,?_,?_,by rw[d_,d_,hsl];rfl,fun z U=>?_⟩⟩
  ·rw[aD (bz hb g0)];exact R b u hb
  ·rw[aD nps1];exact gp
  ·rw[aD nps2];exact gr
  ·rw[aq,z_];rfl
  rcases u_.mp U with U | U
  ·exact I.out z U
  rw[i_.mp U];exact⟨h1,h4,h5,h6,h7,h8,h9⟩
 rintro x r Z H N ⟨k,c3,v8,rfl,R,gp,gr,hrl,hrn⟩ hN;walk_at "t";rw[j_] at hrl;have hM:=nT.mk hN;have G:=nT.mk hrn;have hj0:=X_ c3 (show sp≠0 by omega);have hj1:=S_ c3 (show 0<sp by omega);obtain⟨j,hj⟩:∃j:Nat,c3%sp=(j:Int):=⟨(c3%sp).toNat,by omega⟩;have hat:=lZ (ns:=d) (i:=j) (by omega);have hnx:=hpn'.out.nm _ (getD_memS (ns:=d) (i:=j) (by omega));generalize d.getD j ""=y at hat hnx;clear hN hrn sb3 gp3 gr3 k' hR5;walk_at "";refine⟨⟨trivial,trivial⟩,by omega,by omega,⟨by omega,lgs⟩,hM.out _ _ ⟨k++[y],_,_,rfl,fun b u hb=>?_,?_,?_,by rw[d_,v_];push_cast;push_cast at hrl;omega,fun z U=>?_⟩⟩
 ·rw[aD (bz hb f0)];exact R b u hb
 ·rw[aD npr];exact gp
 ·rw[aq,z_];rfl
 rcases u_.mp U with U | U
 ·exact G.out z U
 rw[i_.mp U];exact hnx
abbrev zr:List Str:=["_law_works_here","_law_stands","_law_found","_law_task_here","_law_stand"]
def acJ:gV zr ["_law_works_here","_law_stands"] (aB (top 46)):=aZ
def Hm {f:Addr} (g:G3 K mg "_law_loads" (top 46) ["_law_works_here","_law_stands"] f I) (B:Bl mg):Oc P w K mg base 1 "_law_loads" (top 46) ["_law_works_here","_law_stands"] Xb:=by
 refine c6 g acJ ?_;rintro _ A _ s H _ _ H3 _ _ ⟨W,q,sts,rfl,S,v,X,r,J⟩;refine⟨_,(aj (aF 2 acJ.nd (aH wD (bh (aa ao ak)) (aM bZ rfl B.len_ cg (aa (aJ GX (v3 0) ao) ak))))
   (aj (aW D_ rfl (J3 rfl B.zip_ (aa (aJ GX (v3 0) ao) (aa (v3 1) ak))) (bO (n:=2) rfl (aG (aC 3 acJ.nd) (aG (aC 4 acJ.nd) bB))) (au (ig (aH bf (aJ GX (v3 2) (v3 4)) (aJ GX (v3 3) ao)) (BZ (v3 2) (v3 4) o8))))
   (au (aL (v3 2))))),?_⟩
 walk_at "q";walk_at "h";have U:=nT.mk J;clear J;have r8:=S.r8;have t8:=S.t8;walk_at "s";refine⟨by decide,fun C m=>⟨⟨by omega,by omega,by omega⟩,fun d k=>?_⟩⟩;have R:∀n:Nat,(List.replicate n [T.int 0]).flatten=(List.replicate n (0:Int)).map T.int:=fun n=>by
  induction n with
  |zero=>rfl
  |succ n ih=>rw[ZK,ZK,aac,ih];rfl
 rw[R];have M:=(cM k).2;have c:eH H3 (fY (fY H3 C (.lst [T.int 0])) d (.lst ((List.replicate W.row.length (0:Int)).map T.int))):=(eH.new m).trans (eH.new k);have j:fY (fY H3 C (.lst [T.int 0])) d (.lst ((List.replicate W.row.length (0:Int)).map T.int)) d=some (.lst ((List.replicate W.row.length (0:Int)).map T.int)):=aq;have p:=c _ _ v;generalize fY (fY H3 C (.lst [T.int 0])) d (.lst ((List.replicate W.row.length (0:Int)).map T.int))=H4 at c j p ⊢;clear R k m;walk_at "n";refine aA fun R1 x=>?_;walk_at "";rw[nA];have u:=nT.mk r;clear r;refine aV (fun z=>T.tup [tkT z.1,T.int (z.2:Int)]) (W.tasks.zip sts) (fun A Z H=>∃(v3 y:Option T),Z=[some W.enc,some (.ref q),some (.ref d),v3,y]/\eH H3 H/\H d=some (.lst ((A.foldl ldZ (List.replicate W.row.length 0)).map T.int))) ⟨_,_,rfl,c,j⟩ ?_ ?_
 ·rintro Z H ⟨v3,y,rfl,t,D⟩;refine⟨.inl (t _ _ v),?_⟩;walk_at "n";walk_at "";refine n7.of (fun b o l=>?_) (U.out d M);by_cases e:b=d
  ·subst e;rw[aq] at l;rw[<- l];exact D
  rw[aD e] at l;exact t b o l
 rintro A z B Z H N e ⟨v3,y,rfl,t,D⟩ O;refine⟨.inl (t _ _ v),?_⟩;have V:z∈W.tasks.zip sts:=by rw[e];simp
 have hs:z.2<W.row.length:=u.out _ (abo V).2;have a:(A++[z]).foldl ldZ (List.replicate W.row.length 0)=ldZ (A.foldl ldZ (List.replicate W.row.length 0)) z:=by rw[aaO];rfl
 have hll:(A.foldl ldZ (List.replicate W.row.length 0)).length=W.row.length:=by rw[yX,ZJ]
 have F:=nT.mk O;clear O e c j p U x V;rw[a] at F;generalize A.foldl ldZ (List.replicate W.row.length 0)=L at *;clear a;have x1:atI (L.map T.int) (z.2:Int)=some (T.int (L.getD z.2 0)):=by
  have G:z.2<L.length:=by omega
  rw[cB (by rw[B_,e_ G];rfl),h_,e_ G];rfl
 obtain⟨⟨tn,tl,tk⟩,zs⟩:=z;simp only[tkT];walk_at "";rw[yw hs,f9];refine⟨trivial,F.out _ _ ⟨_,_,rfl,fun b o l=>?_,?_⟩⟩
 ·rw[aD (bz l M)];exact t b o l
 rw[aq];unfold ldZ;rw[List.map_set]
abbrev xK:List Str:=["_law_cell_here","_law_works_here","_law_stands","_law_loads_here","_law_total","_law_some_here"]
def acE:gV xK ["_law_cell_here","_law_works_here","_law_stands"] (aB (top 47)):=aZ
def Lq {f:Addr} (g:G3 K mg "_law_beat" (top 47) ["_law_cell_here","_law_works_here","_law_stands"] f fd) (B:Bl mg) (b:Oc P w K mg base 1 "_law_loads" (top 46) ["_law_works_here","_law_stands"] Xb):Oc P w K mg base 2 "_law_beat" (top 47) ["_law_cell_here","_law_works_here","_law_stands"] Xc:=by
 refine c6 g acE ?_;rintro _ _ _ s H _ _ H3 _ hr ⟨c,W,q,sts,rfl,p,hq,hsl,u,kk⟩;refine⟨_,(aj (aF 3 acE.nd (aU b hr rfl (aa (v3 1) (aa (v3 2) ak))))
   (aj (aF 4 acE.nd (aM (vR rfl) rfl B.sum_ vU (aa (v3 3) ak)))
   (aj (aF 5 acE.nd (bh (aa (aM (lQ rfl) rfl B.max_ mU (aa (v3 3) ak)) (aa (aM (lQ rfl) rfl B.max_ mU (aa (v3 3) ak)) (aa (aM (Jw rfl) rfl B.max_ mU (aa ao (aa (aH vP (aM (lQ rfl) rfl B.max_ mU (aa (v3 3) ak)) ao) ak))) (aa (aH bj (v3 4) (aM bZ rfl B.len_ cg (aa (v3 3) ak))) (aa (aH bf (aH bj (v3 4) (aM bZ rfl B.len_ cg (aa (v3 3) ak))) ao) ak)))))))
   (aj (aF 5 acE.nd (aH bf (v3 5) (bh (aa (aM (lQ rfl) rfl B.max_ mU (aa (bR rfl (b6 47 xK ["_law_task_here"] 1 []) (bF (aJ GX (v3 1) ao)) (fun cl pins s H C0 fp=>⟨(aC 0 (n5 ["_law_task_here"])),cP,(aJ GX (v3 0) ao)⟩)) ak)) (aa (v3 4) ak)))))
   (aj (aF 5 acE.nd (aH bf (v3 5) (bh (aa (aH aX (aH bj (v3 0) ao) (aM (Jx rfl) rfl B.min_ QV (aa (aH dh ao (v3 4)) (aa (aH dh ao (aH jh ao ao)) ak)))) (aa (aH aX (aH bj (v3 0) ao) (aH jh ao ao)) ak)))))
   (au (aL (aJ GX (v3 5) (aH aX (v3 0) ao))))))))),?_⟩
 walk_at "q";walk_at "h";have k':=nT.mk kk;clear kk;have r1:=p.r1;have r8:=p.r8;have t8:=p.t8;have t1:=p.t1;have hln:=K7 W sts;have I:=Th (sts:=sts) p;have hsm:=K8 hsl u;have htp:=K9 p;rw[<- hsm] at htp;walk_at "s";refine⟨W,q,sts,rfl,p,hq,hsl,u,fun pl hpl=>?_⟩;have G:eH H3 (fY H3 pl (.lst ((ldS W sts).map T.int))):=eH.new hpl;have gl:fY H3 pl (.lst ((ldS W sts).map T.int)) pl=some (.lst ((ldS W sts).map T.int)):=aq;have l:=nT.mk I;clear I hsm u hq;try dsimp only
 generalize fY H3 pl (.lst ((ldS W sts).map T.int))=H4 at G gl ⊢;generalize ldS W sts=L at *;walk_at "n";refine aA fun R1 hR1=>?_;have is:=gB L;walk_at "";walk_at "n";refine aA fun R2 hR2=>?_;have S:(W.row.length:Int).natAbs.log2<9000:=aaJ (abg _) (by omega);have hne:¬L=[]:=fun z=>by rw[z,Zu] at hln;omega
 walk_at "";refine⟨trivial,fun m1 hm1 _=>⟨trivial,fun m2 U _=>⟨trivial,fun m3 hm3 _=>⟨⟨by omega,S⟩,⟨by omega,S⟩,by decide,fun p1 M=>?_⟩⟩⟩⟩;obtain⟨xs,hxs,hx0,y⟩:∃xs:List Int,[T.int m1,T.int m2,T.int (if m3 - 1>0 then m3 - 1 else 0),T.int (L.sum / (W.row.length:Int)),T.int (L.sum / (W.row.length:Int)+1)]=xs.map T.int/\(∀x∈xs,0<=x)/\xs.length=5:=by
  have d0:0<=L.sum / (W.row.length:Int):=Int.ediv_nonneg (by omega) (by omega);refine⟨[m1,m2,if m3 - 1>0 then m3 - 1 else 0,L.sum / (W.row.length:Int),L.sum / (W.row.length:Int)+1],rfl,fun x a=>?_,rfl⟩;simp only[x_,Ze,aaB] at a;rcases a with rfl | rfl | rfl | rfl | rfl
  ·exact l.out _ hm1
  ·exact l.out _ U
  ·split <;> omega
  ·exact d0
  omega
 rw[hxs];have C:=G.trans (eH.new (o:=.lst (xs.map T.int)) M);have v:fY H4 p1 (.lst (xs.map T.int)) p1=some (.lst (xs.map T.int)):=aq;generalize fY H4 p1 (.lst (xs.map T.int))=H5 at C v ⊢;clear hxs M G gl hm1 U hm3;walk_at "n";refine aA fun R3 hR3=>?_;walk_at "";walk_at "c";have htk:=nT.mk p.tk;refine bK tkT (fun t=>T.int t.2.1) W.tasks [] trivial (by omega) (fun t ht Q' hq=>?_) (fun p2 V=>?_)
 ·have x1:atI [T.str t.1,T.int t.2.1,sT t.2.2] 1=some (T.int t.2.1):=rfl;have hq':=nT.mk hq;clear hq k' hR3;simp only[tkT];walk_at "";exact hq'.out
 rw[show (W.tasks.map fun t=>T.int t.2.1)=(W.tasks.map (·.2.1)).map T.int by rw[Zh];rfl,gB,f9];refine⟨fun z=>by have:=T_ List.length z;rw[g_,Zu] at this;omega,fun m hm _=>⟨by decide,fun p3 hp3=>?_⟩⟩;have hm0:0<=m:=by obtain⟨t,ht,rfl⟩:=A_.mp hm;have:=(htk.out t ht).lo;omega
 have F:=(eH.new (o:=.lst ((W.tasks.map (·.2.1)).map T.int)) V).trans (eH.new (o:=.lst [T.int m,T.int L.sum]) hp3);have D:=C.trans F;rw[F _ _ v,jl];generalize fY (fY H5 p2 (.lst ((W.tasks.map (·.2.1)).map T.int))) p3 (.lst [T.int m,T.int L.sum])=H6 at D ⊢;refine⟨by rw[g_,y,j_,v_];omega,fun p4 Z=>?_⟩;obtain⟨e,hys,hy0,hyl⟩:∃e:List Int,xs.map T.int++[T.int m,T.int L.sum]=e.map T.int/\(∀x∈e,0<=x)/\e.length=7:=by
  refine⟨xs++[m,L.sum],by rw[z_];rfl,fun x a=>?_,by rw[d_,y];rfl⟩;rcases u_.mp a with a | a
  ·exact hx0 x a
  simp only[x_,Ze,aaB] at a;rcases a with rfl | rfl
  ·exact hm0
  omega
 rw[hys];have r:=D.trans (eH.new (o:=.lst (e.map T.int)) Z);have gy:fY H6 p4 (.lst (e.map T.int)) p4=some (.lst (e.map T.int)):=aq;try dsimp only
 generalize fY H6 p4 (.lst (e.map T.int))=H7 at r gy ⊢;clear hys hx0 y C v D F V hp3 Z hm;walk_at "n";walk_at "s";have J:0<(if 9*(10:Int)^Int.toNat 60<2*L.sum then 9*(10:Int)^Int.toNat 60 else 2*L.sum):=by
  split
  ·decide +kernel
  omega
 refine⟨⟨by decide,by decide +kernel⟩,.inl ⟨by decide,by decide⟩,⟨by decide,by decide,by decide⟩,.inl ⟨by decide,by decide⟩,J,⟨by decide,by decide +kernel⟩,⟨by decide,by decide,by decide⟩,by decide +kernel,by decide,fun p5 k=>?_⟩;generalize (if 9*(10:Int)^Int.toNat 60<2*L.sum then 9*(10:Int)^Int.toNat 60 else 2*L.sum)=mn at J k ⊢;have e0:=X_ (c / 9) (show mn≠0 by omega);have e1:=X_ (c / 9) (show ((10:Int)^Int.toNat 60)≠0 by decide +kernel);generalize c / 9%mn=a1 at e0 ⊢;generalize c / 9%(10:Int)^Int.toNat 60=a2 at e1 ⊢;rw[aD (bz gy k),gy,jl];refine⟨by rw[g_,hyl,j_,v_];omega,fun p6 hp6=>?_⟩;obtain⟨d,R,O,hzl⟩:∃d:List Int,e.map T.int++[T.int a1,T.int a2]=d.map T.int/\(∀x∈d,0<=x)/\d.length=9:=by
  refine⟨e++[a1,a2],by rw[z_];rfl,fun x a=>?_,by rw[d_,hyl];rfl⟩;rcases u_.mp a with a | a
  ·exact hy0 x a
  simp only[x_,Ze,aaB] at a;rcases a with rfl | rfl
  ·exact e0
  exact e1
 rw[R];have sb6:=r.trans ((eH.new k).trans (eH.new (o:=.lst (d.map T.int)) hp6));have gz:∀Hx:lO,fY Hx p6 (.lst (d.map T.int)) p6=some (.lst (d.map T.int)):=fun _=>aq;have i0:=X_ c (show (9:Int)≠0 by decide);have i1:=S_ c (show (0:Int)<9 by decide);obtain⟨j,hj⟩:∃j:Nat,c%9=(j:Int):=⟨(c%9).toNat,by omega⟩;have Y:j<d.length:=by omega
 have hat:atI (d.map T.int) (j:Int)=some (T.int d[j]):=cB (by rw[B_,e_ Y];rfl);have X:=O _ (Zw Y);generalize d[j]=n at hat X;try dsimp only
 have k2:=nT.mk (n7.of sb6 (k'.out n X));clear R O hzl r gy k' hp6 k;walk_at "n";walk_at "";refine⟨by decide,?_⟩;first
  |exact k2.out
  | (rw[f9];exact k2.out)
abbrev zu:List Str:=["_law_script","_law_most","_law_wide","_law_works_here","_law_stands"]
def acX:gV zu ["_law_script","_law_most","_law_wide"] (aB (top 48)):=aZ
def Hn {f:Addr} (g:G3 K mg "_law_drawn" (top 48) ["_law_script","_law_most","_law_wide"] f y) (B:Bl mg) (j:Oc P w K mg base 3 "_law_works" (top 45) ["_law_script","_law_most","_law_wide"] Xa) (k:Oc P w K mg base 2 "_law_beat" (top 47) ["_law_cell_here","_law_works_here","_law_stands"] Xc) (b:Oc P w K mg base 1 "_law_cell" (top 39) ["_law_script","_law_k"] Gy):Oc P w K mg base 4 "_law_drawn" (top 48) ["_law_script","_law_most","_law_wide"] Xd:=by
 refine c6 g acX ?_;rintro _ _ _ s _ _ _ H3 _ q ⟨a,o,d,e,rfl,I,m,L,N,U,R,z⟩;refine⟨_,(aj (ig (aU j q rfl (aa (v3 0) (aa (v3 1) (aa (v3 2) ak)))) (bO (n:=2) rfl (aG (aC 3 acX.nd) (aG (aC 4 acX.nd) bB))))
   (au (aL (bA (aa (v3 3) (aa (v3 4) (aa (aU k q rfl (aa (aU b q rfl (aa (v3 0) (aa ao ak))) (aa (v3 3) (aa (v3 4) ak)))) (aa (aU b q rfl (aa (v3 0) (aa ao ak))) ak)))))))),?_⟩
 walk_at "q";walk_at "h";have G:=nT.mk z;clear z;walk_at "s";refine⟨a,o,d,e,rfl,I,m,L,N,U,R,fun W sts C X J t p x=>?_⟩;have D:eH H3 (fY H3 p (.lst (sts.map fun (s:Nat)=>T.int (s:Int)))):=eH.new x;have F:fY H3 p (.lst (sts.map fun (s:Nat)=>T.int (s:Int))) p=some (.lst (sts.map fun (s:Nat)=>T.int (s:Int))):=aq;have v:=nT.mk (fun bt c (r:0<=bt)=>G.out W sts bt c C X J t r p x);have u:=D _ _ I;try walk_at ""
 generalize fY H3 p (.lst (sts.map fun (s:Nat)=>T.int (s:Int)))=Z at D F u v ⊢;clear G;walk_at "n";walk_at "";refine⟨trivial,a,o,14,rfl,u,m,by decide,fun M=>⟨M,W,p,sts,rfl,C,F,t.l,t.lt,fun bt r=>⟨a,o,15,rfl,u,m,by decide,fun S=>?_⟩⟩⟩;try dsimp only
 exact⟨by decide,n7.of eH.refl (v.out bt S r)⟩
abbrev mj:List Str:=["_law_works_here","_law_beat_here","_law_dealing","_law_place","_law_k","_law_stand","_law_name","_law_one","_law_other","_law_word_here","_law_loads_here","_law_length","_law_kinds"]
def RX:gV mj ["_law_works_here","_law_beat_here","_law_dealing"] (aB (top 51)):=aZ
def Hq {f:Addr} (g:G3 K mg "_law_right" (top 51) ["_law_works_here","_law_beat_here","_law_dealing"] f fd) (B:Bl mg):Oc P w K mg base 1 "_law_right" (top 51) ["_law_works_here","_law_beat_here","_law_dealing"] W0:=by
 refine c6 g RX ?_;rintro _ A _ s H _ _ H3 _ hr ⟨W,eG,D,rfl,hW,hD,hR,kk⟩;have F:=t6.u30 hr;have hu31:=t6.u31 hr;have j:=t6.u1 hr;refine⟨_,(aj (aF 3 RX.nd jE)
   (aj (aW D_ rfl (Dj rfl B.enumerate_ (v3 2)) (bO (n:=2) rfl (aG (aC 4 RX.nd) (aG (aC 5 RX.nd) bB))) (au (aW D_ rfl (bF (v3 5)) (aC 6 RX.nd) (aj (bc (gO j (v3 6) (v3 3)) (au (aL cJ)) aO)
     (au (gM j (v3 3) (v3 6) (v3 4)))))))
   (aj (bc (aR (fP F) (aM (JW hr) rfl B.sorted_ j6 (aa (v3 3) ak)) (aM JS rfl B.sorted_ j6 (aa (bR rfl (b6 51 mj ["_law_task_here"] 1 []) (bF (aJ GX (v3 0) ao)) (fun cl pins s H C0 fp=>⟨(aC 0 (n5 ["_law_task_here"])),cP,(aJ GX (v3 0) ao)⟩)) ak))) (au (aL cJ)) aO)
   (aj (aW D_ rfl (bF (aJ GX (v3 0) ao)) (bO (n:=2) rfl (aG (aC 7 RX.nd) (aG (aC 8 RX.nd) bB))) (au (bc (aR mO (bT j (v3 3) (v3 7)) (bT j (v3 3) (v3 8))) (au (aL cJ)) aO)))
   (aj (aW D_ rfl (bF (aJ GX (v3 0) ao)) (bO (n:=3) rfl (aG (aC 9 RX.nd) (aG (aC 7 RX.nd) (aG (aC 8 RX.nd) bB)))) (au (bc (aR (fP F) (d9 (cF F) (bT j (v3 3) (v3 7)) (bT j (v3 3) (v3 8))) (d9 (cF F) (v3 9) cN)) (au (aL cJ)) aO)))
   (aj (aF 10 RX.nd (aH wD (bh (aa ao ak)) (aM bZ rfl B.len_ cg (aa (v3 2) ak))))
   (aj (aW D_ rfl (bF (aJ GX (v3 0) ao)) (bO (n:=3) rfl (aG (aC 6 RX.nd) (aG (aC 11 RX.nd) (aG (aC 12 RX.nd) bB)))) (aj (bc (PW3.pt (eN (aR (fP F) (v3 12) (bA ak)) (dW (aR (jB hu31) (aJ GX (aJ GX (v3 0) ao) (bT j (v3 3) (v3 6))) (v3 12) rfl)))) (au (aL cJ)) aO)
    (au (ig (aH bf (aJ GX (v3 10) (bT j (v3 3) (v3 6))) (v3 11)) (BZ (v3 10) (bT j (v3 3) (v3 6)) o8)))))
   (au (aL (d9 (cF F) (bR rfl (b6 51 mj ["_law_load","_law_beat_here"] 1 [1]) (cD (v3 10)) (fun cl pins s H C0 fp=>⟨(aC 0 (n5 ["_law_load","_law_beat_here"])),(eV (aR mO (v3 0) (v3 1))),(v3 0)⟩)) (bh ak))))))))))),?_⟩
 walk_at "q";walk_at "h";have k':=nT.mk kk;clear kk;have t8:=hW.t8;have r8:=hW.r8;have hfl:=hD.fl hW;have hkd:=WY hD.nd;have hdl:=hD.rw;have S:=nT.mk hD.nd;have O:=nT.mk hW;have u:=nT.mk hD;have X:=nT.mk hR;clear hW hD hR;walk_at "s";intro p hp;walk_at "n";refine aA fun R1 hR1=>?_;walk_at "";refine An sT D (fun A Z H=>∃(r q m:Option T),Z=[some W.enc,some (.int eG),some (.tup (D.map sT)),some (.ref p),r,q,m,none,none,none,none,none,none]/\H=fY H3 p (.dct (dN (kD A) (fD A)))) ⟨_,_,_,rfl,rfl⟩ ?_ ?_;rotate_left
 ·rintro A s B Z H N e ⟨r,q,m,rfl,rfl⟩ J;have hs:A.flatten.length+s.length<=8:=by have:=T_ (fun x=>x.flatten.length) e;simp only[uB,d_] at this;omega
  have hns:=S.out;rw[e,uB] at hns;have ek:=Km A s;have ef:=yO A s;have kl:=Sv A;have hN':=nT.mk J;have ek':=nT.mk ek;have ef':=nT.mk ef;have hns':=nT.mk hns;clear J e k' hR1 ek ef hns;walk_at "t";simp only[sT];walk_at "";try walk_at "t"
  refine aV T.str s (fun C Z H=>∃(m:Option T),Z=[some W.enc,some (.int eG),some (.tup (D.map sT)),some (.ref p),some (.int (A.length:Int)),some (.tup (s.map T.str)),m,none,none,none,none,none,none]/\H=fY H3 p (.dct (dN (kst (kD A) C) (j9 A.length (fD A) C)))) ⟨_,rfl,rfl⟩ ?_ ?_
  ·rintro Z H ⟨m,rfl,rfl⟩;exact⟨trivial,hN'.out _ _ ⟨_,_,_,rfl,by rw[ek'.out,ef'.out]⟩⟩
  rintro C n E' Z H N2 e2 ⟨m,rfl,rfl⟩ hN2;have hc:C.length<s.length:=by have:=T_ List.length e2;simp only[d_,j_] at this;omega
  have no:n∉kst (kD A) C:=by
   rw[qX,Su];have hz:=hns'.out;rw[e2] at hz;rintro (z | z)
   ·rw[Zt,aae] at hz;exact hz.2.2 n z n (by simp) rfl
   rw[Zt,aae] at hz;have hy:=hz.2.1;try rw[Zt] at hy
   rw[aae] at hy;exact hy.2.2 n z n (by simp) rfl
  have lk:=pQ (f:=j9 A.length (fD A) C) no;have p1:=Ko (kst (kD A) C) (j9 A.length (fD A) C) n A.length;rw[<- Ga,<- Gb] at p1;have l1:=qW (kst (kD A) C) (j9 A.length (fD A) C);have l2:=kst_len C (kD A);have hN2':=nT.mk hN2;clear hN2 hN' e2 ek' ef' no;walk_at "t";walk_at "";rw[if_neg (by rw[aaZ];exact G_)];exact⟨by omega,hN2'.out _ _ ⟨_,rfl,rfl⟩⟩
 rintro Z H ⟨r,q,m,rfl,rfl⟩;walk_at "t";rw[hkd];have gp:fY H3 p (.dct (dN D.flatten (fD D))) p=some (.dct (dN D.flatten (fD D))):=aq;have sb:eH H3 (fY H3 p (.dct (dN D.flatten (fD D)))):=eH.new hp;generalize fY H3 p (.dct (dN D.flatten (fD D)))=H4 at gp sb ⊢;clear hkd hp;walk_at "n";refine aA fun R2 hR2=>?_;have dl:=qW D.flatten (fD D);have dk:=KY D.flatten (fD D);walk_at "";refine⟨by omega,fun us j hu2 p1 hp1=>?_⟩;have g1:fY H4 p1 (.lst (us.map T.str)) p1=some (.lst (us.map T.str)):=aq;have sb1:eH H3 (fY H4 p1 (.lst (us.map T.str))):=sb.trans (eH.new hp1);have gp1:fY H4 p1 (.lst (us.map T.str)) p=_ := upa gp hp1;generalize fY H4 p1 (.lst (us.map T.str))=H5 at g1 sb1 gp1 ⊢;clear gp sb hp1 dk;walk_at "c";refine bK tkT (fun t=>T.str t.1) W.tasks [] trivial (by omega) ?c1 ?c2
 case c1 =>
  intro t ht Q' hq
  clear k' j hu2 S
  simp only[tkT]
  walk_at ""
  try exact hq
 intro pc V;have e1:W.tasks.map (fun t=>T.str t.1)=(nm W).map T.str:=by unfold nm;rw[Zh];rfl
 rw[e1];refine⟨nm W,pc,rfl,aq,by rw[cY];omega,fun vs hv1 hv2 p2 U=>?_⟩;have e2:us=vs:=KR j hu2 (hv1.trans (u.out.pm O.out).symm) hv2;subst e2;have n12:p1≠p2:=fun z=>by rw[z] at g1;rw[aD (bz g1 V)] at U;rw[g1] at U;cases U
 have g1':fY (fY H5 pc (.lst ((nm W).map T.str))) p2 (.lst (us.map T.str)) p1=some (.lst (us.map T.str)):=by rw[aD n12,aD (bz g1 V)];exact g1
 have sb2:eH H3 (fY (fY H5 pc (.lst ((nm W).map T.str))) p2 (.lst (us.map T.str))):=sb1.trans ((eH.new V).trans (eH.new U));have gp2:fY (fY H5 pc (.lst ((nm W).map T.str))) p2 (.lst (us.map T.str)) p=some (.dct (dN D.flatten (fD D))):=(eH.new (o:=.lst (us.map T.str)) U) _ _ ((eH.new (o:=.lst ((nm W).map T.str)) V) _ _ gp1);try dsimp only
 rw[Mv,g1',aq,sZ];refine⟨n12,cR us,cR us,?_⟩;generalize fY (fY H5 pc (.lst ((nm W).map T.str))) p2 (.lst (us.map T.str))=H6 at sb2 gp2 ⊢;clear g1 sb1 gp1 g1' V U j hu2 hv1 hv2 n12 e1;rw[lN,eX,if_neg (by decide)];walk_at "n";refine aA fun R3 hR3=>?_;walk_at "";refine aV orT W.orders (fun A Z H=>∃(r q m L I G k a d:Option T),Z=[some W.enc,some (.int eG),some (.tup (D.map sT)),some (.ref p),r,q,m,L,I,G,k,a,d]/\H=H6) ⟨_,_,_,_,_,_,_,_,_,rfl,rfl⟩ ?_ ?_;rotate_left
 ·rintro A ⟨x,y⟩ B Z H N e ⟨r,q,m,L,I,G,k,a,d,rfl,rfl⟩ J;walk_at "t";have M:(x,y)∈W.orders:=by rw[e];simp
  have l1:=dX (f:=fD D) (u.out.al _ (O.out.oo _ M).2.1);have l2:=dX (f:=fD D) (u.out.al _ (O.out.oo _ M).2.2);have ho:fD D x<=fD D y:=X.out.ord _ M;have fN:nT (∀r q m G k a d,N [some W.enc,some (.int eG),some (.tup (D.map sT)),some (.ref p),r,q,m,some (.str x),some (.str y),G,k,a,d] H):=⟨fun r q m G k a d=>J _ _ ⟨_,_,_,_,_,_,_,_,_,rfl,rfl⟩⟩;clear J e k' hR3 M S hfl;simp only[orT];walk_at "";walk_at "t";rw[if_neg (jF (by omega))];exact fN.out _ _ _ _ _ _ _
 rintro Z H ⟨r,q,m,L,I,G,k,a,d,rfl,rfl⟩;walk_at "t";walk_at "n";refine aA fun R4 hR4=>?_;walk_at "";refine aV prT W.pairs (fun A Z H'=>∃(r q m L I G k a d:Option T),Z=[some W.enc,some (.int eG),some (.tup (D.map sT)),some (.ref p),r,q,m,L,I,G,k,a,d]/\H'=H) ⟨_,_,_,_,_,_,_,_,_,rfl,rfl⟩ ?_ ?_;rotate_left
 ·rintro A ⟨wd,x,y⟩ B Z H' N e ⟨r,q,m,L,I,G,k,a,d,rfl,rfl⟩ J;walk_at "t";have M:(wd,x,y)∈W.pairs:=by rw[e];simp
  have l1:=dX (f:=fD D) (u.out.al _ (O.out.pp _ M).2.2.1);have l2:=dX (f:=fD D) (u.out.al _ (O.out.pp _ M).2.2.2);have ho:fD D x=fD D y↔wd="with":=X.out.pai _ M;have fN:nT (∀r q m k a d,N [some W.enc,some (.int eG),some (.tup (D.map sT)),some (.ref p),r,q,m,some (.str x),some (.str y),some (.str wd),k,a,d] H'):=⟨fun r q m k a d=>J _ _ ⟨_,_,_,_,_,_,_,_,_,rfl,rfl⟩⟩;clear J e k' hR4 M S hfl;have ec:decide (((fD D x:Nat):Int)=((fD D y:Nat):Int))=decide (wd="with"):=by rw[aau,<- ho];omega
  have ho':=nT.mk ho;clear ho;simp only[prT];walk_at "";walk_at "t";exact fN.out _ _ _ _ _ _
 rintro Z H' ⟨r,q,m,L,I,G,k,a,d,rfl,rfl⟩;walk_at "t";walk_at "n";walk_at "s";refine⟨by decide,fun q1 hq1=>⟨⟨by omega,by omega,by omega⟩,fun pl R=>?_⟩⟩;try simp only[g_,aab] at R ⊢
 rw[KZ (fD D)];have sb4:eH H3 (fY H' q1 (.lst [T.int 0])):=sb2.trans (eH.new hq1);have gp4:fY H' q1 (.lst [T.int 0]) p=some (.dct (dN D.flatten (fD D))):=(eH.new (o:=.lst [T.int 0]) hq1) _ _ gp2;generalize fY H' q1 (.lst [T.int 0])=H7 at sb4 gp4 R ⊢;have pl3:=cu sb4 R;have npl:p≠pl:=bz gp4 R;have sb5:eH H3 (fY H7 pl (.lst (((List.range D.length).map (ldF ([]:List (Str × Int × List Str)) (fD D))).map T.int))):=sb4.trans (eH.new R);have gp5:fY H7 pl (.lst (((List.range D.length).map (ldF ([]:List (Str × Int × List Str)) (fD D))).map T.int)) p=some (.dct (dN D.flatten (fD D))):=by rw[aD npl];exact gp4
 have Y:fY H7 pl (.lst (((List.range D.length).map (ldF ([]:List (Str × Int × List Str)) (fD D))).map T.int)) pl=some (.lst (((List.range D.length).map (ldF ([]:List (Str × Int × List Str)) (fD D))).map T.int)):=aq;generalize fY H7 pl (.lst (((List.range D.length).map (ldF ([]:List (Str × Int × List Str)) (fD D))).map T.int))=H8 at sb5 gp5 Y ⊢;clear sb4 gp4 sb2 gp2 R hq1;walk_at "n";refine aA fun R6 hR6=>?_;walk_at "";refine aV tkT W.tasks (fun A Z H=>∃(r q m L I G a d:Option T),Z=[some W.enc,some (.int eG),some (.tup (D.map sT)),some (.ref p),r,q,m,L,I,G,some (.ref pl),a,d]/\H=fY H8 pl (.lst (((List.range D.length).map (ldF A (fD D))).map T.int))) ⟨_,_,_,_,_,_,_,_,rfl,(Ss Y).symm⟩ ?_ ?_;rotate_left
 ·rintro A ⟨x,ln,ks⟩ B Z H N e ⟨r,q,m,L,I,G,a,d,rfl,rfl⟩ J;walk_at "t";have M:(x,ln,ks)∈W.tasks:=by rw[e];simp
  have hxn:x∈nm W:=A_.mpr ⟨_,M,rfl⟩;have l1:=dX (f:=fD D) (u.out.al _ hxn);have hgx:=u.out.lt hxn;have x0:=xg (show fD D x<W.row.length by omega);have hmay:iU ks (W.row.getD (fD D x) "")=true:=X.out.kd u.out M;have x1:atI (((List.range D.length).map (ldF A (fD D))).map T.int) ((fD D x:Nat):Int)=some (.int (ldF A (fD D) (fD D x))):=cB (by rw[B_,B_,Zg hgx];rfl);have x2:ixN (((List.range D.length).map (ldF A (fD D))).map T.int).length ((fD D x:Nat):Int)=some (fD D x):=yw (by rw[g_,g_,C_];exact hgx);have x3:(((List.range D.length).map (ldF A (fD D))).map T.int).set (fD D x) (T.int (ldF A (fD D) (fD D x)+ln))=((List.range D.length).map (ldF (A++[(x,ln,ks)]) (fD D))).map T.int:=by rw[<- List.map_set];congr 1;exact KD (t:=(x,ln,ks)) hgx
  have fin:nT (∀r q L I G,N [some W.enc,some (.int eG),some (.tup (D.map sT)),some (.ref p),r,q,some (.str x),L,I,G,some (.ref pl),some (.int ln),some (sT ks)] (fY H8 pl (.lst ((((List.range D.length).map (ldF A (fD D))).map T.int).set (fD D x) (T.int (ldF A (fD D) (fD D x)+ln)))))):=⟨fun r q L I G=>J _ _ ⟨_,_,_,_,_,_,_,_,rfl,by rw[x3]⟩⟩;have gp8:fY H8 pl (.lst (((List.range D.length).map (ldF A (fD D))).map T.int)) p=some (.dct (dN D.flatten (fD D))):=by rw[aD npl];exact gp5
  clear J e k' x3 M Y hR6 S hfl;generalize ((List.range D.length).map (ldF A (fD D))).map T.int=LL at *;have i2:=cR ks;have em:=Sw (x:=W.row.getD (fD D x) "") (xs:=ks);simp only[tkT,sT] at *;unfold iU at hmay;generalize W.row.getD (fD D x) ""=kd at *;walk_at "";refine⟨trivial,by decide,trivial,rfl,?_⟩;by_cases c:ks=[]
  ·rw[if_neg (by simp [c])];exact fin.out _ _ _ _ _
  have c2:kd∈ks:=by simpa [c] using hmay
  rw[if_pos (by simp [c])];refine⟨rfl,trivial,?_⟩;rw[if_neg (by simp [c2])];exact fin.out _ _ _ _ _
 rintro Z H ⟨r,q,m,L,I,G,a,d,rfl,rfl⟩;walk_at "t";walk_at "n";have e6:((List.range D.length).map (ldF W.tasks (fD D))).map T.int=(lds W (fD D) D.length).map T.int:=rfl;have hle:∀l∈lds W (fD D) D.length,l<=eG:=X.out.lds u.out;rw[e6];have gl6:fY H8 pl (.lst ((lds W (fD D) D.length).map T.int)) pl=some (.lst ((lds W (fD D) D.length).map T.int)):=aq;have sb6:eH H3 (fY H8 pl (.lst ((lds W (fD D) D.length).map T.int))):=fun b o h=>by rw[aD (bz h pl3)];exact sb5 b o h
 generalize fY H8 pl (.lst ((lds W (fD D) D.length).map T.int))=H9 at gl6 sb6 ⊢;clear e6 Y gp5 sb5 hfl S u X O;generalize lds W (fD D) D.length=LD at *;walk_at "";walk_at "c";refine gC T.int LD (fun A ys Z H=>∃v:Option T,Z=[v,some (.int eG)]/\ys=[]/\H=H9) ⟨_,rfl,rfl,rfl⟩ ?_ ?_
 ·rintro ys Z H ⟨v,rfl,rfl,rfl⟩;refine⟨.inl gl6,by simp,fun q2 hq2=>⟨by decide,fun q3 hq3=>?_⟩⟩;have n23:q2≠q3:=fun z=>by rw[z,aq] at hq3;cases hq3
  rw[aD n23,aq,sZ];exact⟨n23,rfl,rfl,n7.of (sb6.trans ((eH.new hq2).trans (eH.new hq3))) k'.out⟩
 rintro A l B ys Z H N e ⟨v,rfl,rfl,rfl⟩ J;refine⟨.inl gl6,?_⟩;have hl:l<=eG:=hle l (by rw[e];simp);have hN':=nT.mk J;clear J e k' hle;walk_at "";rw[if_neg (jF (by omega))];exact hN'.out _ _ _ ⟨_,rfl,rfl,rfl⟩
abbrev dJ:List Str:=["_law_works_here","_law_beat_here","_law_many","_law_found","_law_names","_law_stand"]
def aci:gV dJ ["_law_works_here","_law_beat_here","_law_many","_law_found"] (aB (top 52)):=aZ
def ou {f:Addr} (g:G3 K mg "_law_is_dealing" (top 52) ["_law_works_here","_law_beat_here","_law_many","_law_found"] f fd) (B:Bl mg) (b:Oc P w K mg base 1 "_law_right" (top 51) ["_law_works_here","_law_beat_here","_law_dealing"] W0):Oc P w K mg base 2 "_law_is_dealing" (top 52) ["_law_works_here","_law_beat_here","_law_many","_law_found"] W3:=by
 refine c6 g aci ?_;rintro _ A _ s H _ _ H3 _ hr ⟨W,eG,m,D,rfl,hW,hm,hs,hD,hR,kk⟩;have j:=t6.u30 hr;have V:=t6.u31 hr;refine⟨_,(aj (bc (PW3.pt (iZ (gK (cW (aM jk rfl B.isinstance_ cH (aa (v3 3) (aa (mQ rfl B.tuple_ cj) ak))))) (iZ (aR (fP j) (aM bZ rfl B.len_ cg (aa (v3 3) ak)) (v3 2)) (jf (aR mO (v3 2) (aM bZ rfl B.len_ cg (aa (aJ GX (v3 0) ao) ak))))))) (au (aL cJ)) aO)
   (aj (jz (i:=4) rfl aci.nd (b6 52 dJ ["_law_task_here"] 1 []) (bF (aJ GX (v3 0) ao)) (fun cl q s H C0 fp=>⟨(aC 0 (n5 ["_law_task_here"])),cP,(aJ GX (v3 0) ao)⟩))
   (aj (aW D_ rfl (bF (v3 3)) (aC 5 aci.nd) (aj (bc (PW3.pt (iZ (gK (cW (aM jk rfl B.isinstance_ cH (aa (v3 5) (aa (mQ rfl B.tuple_ cj) ak))))) (jf (aR (fP j) (bR rfl (b6 52 dJ ["_law_name"] 1 []) (bF (v3 5)) (fun cl q s H C0 fp=>⟨(aC 0 (n5 ["_law_name"])),(eV (gK (cW (aM jk rfl B.isinstance_ cH (aa (v3 0) (aa (mQ rfl B.str_ Qg) ak)))))),(v3 0)⟩)) (bh ak))))) (au (aL cJ)) aO)
    (au (bc (aR (fP j) (bR rfl (b6 52 dJ ["_law_name","_law_stand"] 1 [5]) (cD (v3 4)) (fun cl q s H C0 fp=>⟨(aC 0 (n5 ["_law_name","_law_stand"])),(eV (aR (jA V) (v3 0) (v3 1) rfl)),(v3 0)⟩)) (bH qp rfl B.list_ lM (aa (v3 5) ak))) (au (aL cJ)) aO))))
   (au (aL (aU b hr rfl (aa (v3 0) (aa (v3 1) (aa (v3 3) ak))))))))),?_⟩
 walk_at "q";walk_at "h";have k':=nT.mk kk;clear kk;subst hm;have t8:=hW.t8;have r8:=hW.r8;have hdl:=hD.rw;have X:=nT.mk hW;have S:=nT.mk hD;have hR':=nT.mk hR;have Y:=nT.mk hs;clear hW hD hR hs;walk_at "s";rw[if_neg (jF (by omega))];walk_at "n";walk_at "s";walk_at "c";refine bK tkT (fun t=>T.str t.1) W.tasks [] trivial (by omega) ?c1 ?c2
 case c1 =>
  intro t ht Q' hq
  clear k'
  simp only[tkT]
  walk_at ""
  try exact hq
 intro u hpn;have e1:W.tasks.map (fun t=>T.str t.1)=(nm W).map T.str:=by unfold nm;rw[Zh];rfl
 rw[e1];have U:eH H3 (fY H3 u (.lst ((nm W).map T.str))):=eH.new hpn;have J:fY H3 u (.lst ((nm W).map T.str)) u=some (.lst ((nm W).map T.str)):=aq;generalize fY H3 u (.lst ((nm W).map T.str))=H4 at U J ⊢;clear e1;walk_at "n";refine aA fun R2 hR2=>?_;walk_at "";refine aV sT D (fun A Z H=>∃(v5:Option T),Z=[some W.enc,some (.int eG),some (.int (D.length:Int)),some (.tup (D.map sT)),some (.ref u),v5]/\eH H3 H/\H u=some (.lst ((nm W).map T.str))) ⟨_,rfl,U,J⟩ ?_ ?_
 ·rintro Z H ⟨v5,rfl,sb,gn⟩;walk_at "t";walk_at "n";walk_at "";exact⟨W,eG,D,rfl,X.out,S.out,hR'.out,n7.of sb k'.out⟩
 rintro A s B Z H N e ⟨v5,rfl,sb,gn⟩ hN;walk_at "t";have M:s∈D:=by rw[e];simp
 have y:=Y.out s M;have hsl:s.length<=8:=by rw[<- y];have:=Zc (fun n=>decide (n∈s)) (nm W);rw[cY] at this;omega
 have r:=nT.mk hN;have p:=nT.mk y;clear hN e k' hR2 Y S hR' X y;simp only[sT];refine aA fun R3 hR3=>?_;walk_at "";walk_at "c";refine gC T.str s (fun A F Z H'=>∃v:Option T,Z=[v]/\F=[]/\H'=H) ⟨_,rfl,rfl,rfl⟩ ?_ ?_;rotate_left
 ·rintro I n B2 F Z H' N2 e ⟨v,rfl,rfl,rfl⟩ a;walk_at "t";have R:=nT.mk a;clear a e r hR3;walk_at "";exact R.out _ _ _ ⟨_,rfl,rfl,rfl⟩
 rintro F Z H' ⟨v,rfl,rfl,rfl⟩;refine⟨trivial,by simp,fun q2 C=>⟨by decide,fun q3 d=>?_⟩⟩;have G:q2≠q3:=fun z=>by rw[z,aq] at d;cases d
 rw[aD G,aq,sZ];refine⟨G,rfl,rfl,?_⟩;have sb2:eH H3 (fY (fY H' q2 (.lst [])) q3 (.lst [])):=sb.trans ((eH.new C).trans (eH.new d));have k:fY (fY H' q2 (.lst [])) q3 (.lst []) u=some (.lst ((nm W).map T.str)):=(eH.new (o:=.lst []) d) _ _ ((eH.new (o:=.lst []) C) _ _ gn);generalize fY (fY H' q2 (.lst [])) q3 (.lst [])=H5 at sb2 k ⊢;rw[lN,eX,if_neg (by decide)];clear sb gn C d G;walk_at "n";have O:=cR s;walk_at "";walk_at "c";refine gC T.str (nm W) (fun A F Z H'=>∃v:Option T,Z=[v,some (.tup (s.map T.str))]/\F=(A.filter fun n=>decide (n∈s)).map T.str/\H'=H5) ⟨_,rfl,rfl,rfl⟩ ?_ ?_;rotate_left
 ·rintro I n B2 F Z H' N2 e ⟨v,rfl,rfl,rfl⟩ a;refine⟨.inl k,?_⟩;have em:=Sw (x:=n) (xs:=s);have hlA:((I.filter fun n=>decide (n∈s)).map T.str).length<=8:=by rw[g_];have h1:=Zc (fun n=>decide (n∈s)) I;have h2:=T_ List.length e;rw[cY,d_] at h2;omega
  have yes:nT (n∈s->N2 ((I.filter fun n=>decide (n∈s)).map T.str++[T.str n]) [some (.str n),some (.tup (s.map T.str))] H'):=⟨fun z=>a _ _ _ ⟨_,rfl,by rw[ZG,aam,L_ z];simp,rfl⟩⟩;have no:nT (n∉s->N2 ((I.filter fun n=>decide (n∈s)).map T.str) [some (.str n),some (.tup (s.map T.str))] H'):=⟨fun z=>a _ _ _ ⟨_,rfl,by rw[ZG,aam,I_ z];simp,rfl⟩⟩;clear a e r p M;generalize (I.filter fun n=>decide (n∈s)).map T.str=cur at *;walk_at "";rw[show di false (T.str n) (s.map T.str)=decide (n∈s) from Nx];refine⟨rfl,trivial,?_⟩;by_cases c:n∈s
  ·rw[if_pos (L_ c)];exact⟨by omega,yes.out c⟩
  rw[if_neg (jF c)];exact no.out c
 rintro F Z H' ⟨v,rfl,rfl,rfl⟩;rw[p.out];refine⟨.inl k,by rw[g_];omega,fun q4 hq4 q5 l=>?_⟩;have L:q4≠q5:=fun z=>by rw[z,aq] at l;cases l
 rw[aD L,aq,sZ];refine⟨L,O,O,?_⟩;rw[lN,eX,if_neg (by decide)];exact r.out _ _ ⟨_,rfl,sb2.trans ((eH.new hq4).trans (eH.new l)),(eH.new (o:=.lst (s.map T.str)) l) _ _ ((eH.new (o:=.lst (s.map T.str)) hq4) _ _ k)⟩
def Y9 (i:Nat) {x:Str}{b a f:Pos}{k v:Expr}{tk c:Pr} (j:X.N.Nodup) (d:Ho X k tk) (g:Ho X v c) (e:X.N[i]?=some x) (h:Loc X.env.scope x) (l:X.fn x=true\/X.env.scope.names.lookup x=some .local):PS3 X (.Assign [.Name x a] (.Dict [some k] [v] f) b) (yd (qG tk c) (fJ i)):=aF _ j (z8 d g) e h rfl l
abbrev jW:List Str:=["works","beat","many","walk","ways","stand"]
def abW:gV jW ["works","beat","many"] (aB (top 35)):=aZ
def oA {f:Addr} (g:G3 K mg "dealing_to" (top 35) ["works","beat","many"] f fd) (B:Bl mg) (l:adg K c ["works","beat","rules","whole"]) (r:MkC P w K mg base c 5 "Walk" ["self","works","beat"] (WT c)) (d:Oc P w K mg base 5 "ways_behind" (top 34) ["walk","stand","ways"] (Xh c)) (k:MtC P w K mg base c 2 "dealing_of" ["self","fillings"] (WX c)):Oc P w K mg base 7 "dealing_to" (top 35) ["works","beat","many"] Xi:=by
 refine c6 g abW ?_;rintro _ A _ s H E _ H3 _ V ⟨W,eG,m,rfl,F,hm,kk⟩;have O:=t6.u1 V;refine⟨_,(aj (aF 3 abW.nd (JQ r (V.mono (by decide)) rfl (aa (v3 0) (aa (v3 1) ak))))
   (@aj _ _ _ _ _ (@Y9 _ 4 _ _ _ _ _ _ _ _ abW.nd ao (bA ak) rfl (by first | exact Or.inl rfl | exact Or.inr rfl) (by first | exact .inl rfl | exact .inr rfl | assumption))
   (aj (aW D_ rfl (cA rfl B.range_ (aa (v3 2) ak)) (aC 5 abW.nd) (au (aF 4 abW.nd (aU d V rfl (aa (v3 3) (aa (v3 5) (aa (v3 4) ak)))))))
   (aj (bc (wK O (ik l (v3 3)) (v3 4)) (au (aL BL)) aO)
   (au (aL (qI k (V.mono (by decide)) (v3 3) (aa (Ec O (v3 4) (ik l (v3 3))) ak)))))))),?_⟩
 walk_at "q";walk_at "h";have X:=nT.mk kk;clear kk;have t1:=nj W;have r8:W.row.length<=8:=F.r8;walk_at "s";intro a ha;refine⟨a,W,eG,rfl,F,aq,fun Y kp D=>⟨rfl,?_⟩⟩;have n:eH H3 Y:=fun b u I=>kp b u (bz I ha) (by rw[aD (bz I ha)];exact I);clear kp ha;walk_at "n";walk_at "s";intro R t;refine⟨by decide,trivial,?_⟩;have e0:([(0,T.tup [])]:List (Int × T))=dI wyT (wys W eG 0):=rfl;rw[e0];have z:eH H3 (fY Y R (.dci (dI wyT (wys W eG 0)))):=n.trans (eH.new t);have y:=D.sub (eH.new (o:=.dci (dI wyT (wys W eG 0))) t);have x:fY Y R (.dci (dI wyT (wys W eG 0))) R=some (.dci (dI wyT (wys W eG 0))):=aq;have hq3:=cu n t;generalize fY Y R (.dci (dI wyT (wys W eG 0)))=H5 at z x y ⊢;clear e0 t n D;walk_at "n";refine aA fun R2 hR2=>?_;walk_at "";refine⟨trivial,by omega,by omega,?_⟩;rw[m9];refine aV (fun (j:Nat)=>T.int (j:Int)) (List.range m) (fun A Z H=>∃(q:Addr) (v5:Option T),Z=[some W.enc,some (.int eG),some (.int (m:Int)),some (.ref a),some (.ref q),v5]/\eH H3 H/\H3 q=none/\Wlk c W eG H a/\H q=some (.dci (dI wyT (wys W eG A.length)))) ⟨R,_,rfl,z,hq3,y,x⟩ ?_ ?_
 ·rintro Z H ⟨q,v5,rfl,n,hq,D,S⟩;walk_at "t";rw[C_] at S;walk_at "n";obtain⟨pw,gw,_⟩:=D.ex;have f4:=uI (W:=W) (eG:=eG) (p:=pw);have lm:=Gg (W:=W) (eG:=eG) (p:=pw) (m:="dealing_of") (by decide +kernel);have L:=q8 wyT (top2 W - 1) (wys W eG m);have ec:((top2 W - 1:Nat):Int)=(top2 W:Int) - 1:=by omega
  rw[ec] at L;have G:=X.out;unfold dtT at G;have J:=wtb (W:=W) (eG:=eG) F hm;clear z y x;refine aA fun R3 hR3=>?_;cases U:dH (top2 W - 1) (wys W eG m) with
  |none=>rw[U] at L G;rw[Option.map_none] at L;have k3:=nT.mk G;clear X G hR3 J;walk_at "";simp only[aaZ,aaL,if_true];exact n7.of n k3.out
  |some v =>
  obtain⟨_,M,hb3⟩:=(J.wok F).lt _ (gF U);have hb4:v.length<=m:=M;clear M;rw[U] at L G;rw[aa3] at L;simp only[wyT] at L;have k3:=nT.mk G;clear X G J U;generalize wys W eG m=E at *;walk_at "";simp only[aaH,aaU,y_,Zb];walk_at "n";walk_at "";refine⟨by first | trivial | exact lm,a,W,eG,v,rfl,F,D,by omega,hb3,?_⟩;exact n7.of n k3.out
 rintro A j B Z H N e ⟨q,v5,rfl,n,hq,D,S⟩ hN;walk_at "t";have hA:A.length<m:=by have:=T_ List.length e;simp only[d_,j_,C_] at this;omega
 have hj:j=A.length:=by
  have h1:(List.range m)[A.length]?=some j:=by rw[e,Q_ (m_ _)];simp
  rw[Zg hA] at h1;exact (F_ h1).symm
 subst hj;have hN':=nT.mk hN;clear hN e X hR2 z y x;walk_at "";refine⟨a,q,W,eG,A.length,A.length,wys W eG A.length,rfl,F,D,by omega,by omega,(wtb F (by omega)).wok F,S,fun o p2 C=>?_⟩;have nq2:q≠p2:=bz S C;have hwf:=D.frz (o:=.dif o (dI wyT (wys W eG A.length))) S;refine hN'.out _ _ ⟨p2,_,rfl,fun b u I=>?_,cu n ?_,hwf.sub (eH.new (by rw[aD (Ne.symm nq2)];exact C)),?_⟩
 ·rw[aD (bz (n b u I) ?_),aD (bz I hq)]
  ·exact n b u I
  exact C
 ·exact C
 rw[aq,d_];rfl
abbrev jb:List Str:=["walk","stand","ways","behind","done","fillings","filling"]
def Z1:gV jb ["walk","stand","ways"] (aB (top 34)):=aZ
def nH {f:Addr} (g:G3 K mg "ways_behind" (top 34) ["walk","stand","ways"] f fd) (B:Bl mg) (I_Walk:adg K c ["works","beat","rules","whole"]) (j:MtC P w K mg base c 4 "greatest_at" ["self","stand","done"] (Xg c)):Oc P w K mg base 5 "ways_behind" (top 34) ["walk","stand","ways"] (Xh c):=by
 refine c6 g Z1 ?_;rintro _ A _ s H E _ H3 _ hr ⟨a,q,W,eG,k,n,E,rfl,hW,hw,hk,hn,hE,hq,kk⟩;refine⟨_,(aj (aF 3 Z1.nd Ea)
   (aj (aW D_ rfl (Ei (v3 2)) (bO (n:=2) rfl (aG (aC 4 Z1.nd) (aG (aC 5 Z1.nd) bB))) (au (aW D_ rfl (cD (qI j (hr.mono (by decide)) (v3 0) (aa (v3 1) (aa (v3 4) ak)))) (aC 6 Z1.nd) (au (bC (JP (v3 3) (aH bf (v3 4) (v3 6)) (aH bf (v3 5) (bA (aa (v3 6) ak)))))))))
   (au (aL (v3 3))))),?_⟩
 walk_at "q";walk_at "h";have k':=nT.mk kk;clear kk;have t2:=qZ hW;have hE':=nT.mk hE;clear hE;walk_at "s";intro l O;have x:q≠l:=bz hq O;walk_at "n";refine aA fun R1 hR1=>?_;have gq:fY H3 l (.dci []) q=some (.dci (dI wyT E)):=by rw[aD x];exact hq
 walk_at "";intro o;rw[Xe];have hw0:Wlk c W eG (fY H3 q (.dif o (dI wyT E))) a:=hw.frz hq;have g0:fY H3 q (.dif o (dI wyT E)) q=some (.dif o (dI wyT E)):=aq;have n0:fY H3 q (.dif o (dI wyT E)) l=none:=by rw[aD (Ne.symm x)];exact O
 have R:Kb1 l (fY H3 q (.dif o (dI wyT E))) (fY (fY H3 l (.dci [])) q (.dif o (dI wyT E))):=fun b u hb h=>by
  by_cases e:b=q
  ·subst e;rw[aq] at h ⊢;exact h
  rw[aD e] at h ⊢;rw[aD hb];exact h
 have J:fY (fY H3 l (.dci [])) q (.dif o (dI wyT E)) l=some (.dci (dI wyT [])):=by rw[aD (Ne.symm x),aq];rfl
 have k2:=nT.mk (k'.out o l O);generalize fY (fY H3 l (.dci [])) q (.dif o (dI wyT E))=H4 at R J ⊢;generalize fY H3 q (.dif o (dI wyT E))=H0 at *;clear k' gq hq hw;refine aV wyE E (fun A Z H=>∃(v4 v5 r:Option T),Z=[some (.ref a),some (.int (k:Int)),some (.ref q),some (.ref l),v4,v5,r]/\Kb1 l H0 H/\H l=some (.dci (dI wyT (A.foldl (wbF W eG k) [])))/\WOk W (n+1) (A.foldl (wbF W eG k) [])) ⟨_,_,_,rfl,R,J,⟨aaY,fun _ z=>(nomatch z)⟩⟩ ?_ ?_
 ·rintro Z H ⟨v4,v5,r,rfl,v,C,_⟩;refine⟨v q _ x g0,?_⟩;walk_at "n";walk_at "";refine n7.of (fun b u hb=>?_) k2.out;by_cases e:b=l
  ·subst e;rw[aq] at hb;rw[C,<- hb];rfl
  rw[aD e] at hb;exact v b u e hb
 rintro A e B Z H N eE ⟨v4,v5,r,rfl,v,C,hB⟩ hN;refine⟨v q _ x g0,?_⟩;obtain⟨ed,el,et⟩:=hE'.out.lt e (by rw[eE];simp);have d:(A++[e]).foldl (wbF W eG k) []=wbF W eG k (A.foldl (wbF W eG k) []) e:=by rw[aaO];rfl
 have M:=nT.mk hN;clear hN eE hR1 k2 R J;rw[d] at M;generalize A.foldl (wbF W eG k) []=B0 at *;clear d;simp only[wyE];walk_at "";have Y:=v.wlk n0 hw0;obtain⟨pw,gw,_⟩:=Y.ex;have lm:=Gg (W:=W) (eG:=eG) (p:=pw) (m:="greatest_at") (by decide +kernel);walk_at "t";try rw[gw,Nq]
 refine⟨lm,a,W,eG,k,e.1,rfl,hW,Y,hk,ed,fun I V=>?_⟩;have npf:l≠I:=bz C V;have flen:(gfl W eG k e.1).length<=256:=by have:=rA bN (fls W eG k e.1);have h2:(fls W eG k e.1).length<=256:=R_ (Zc _ _) (by rw[C_];exact t2);unfold gfl;rw[aaa];omega
 have S:Kb1 l H0 (fY H I (.lst ((gfl W eG k e.1).map bJ))):=v.new V;have U:fY H I (.lst ((gfl W eG k e.1).map bJ)) l=some (.dci (dI wyT B0)):=by rw[aD npf];exact C
 have L:fY H I (.lst ((gfl W eG k e.1).map bJ)) I=some (.lst ((gfl W eG k e.1).map bJ)):=aq;generalize fY H I (.lst ((gfl W eG k e.1).map bJ))=H5 at S U L ⊢;clear v C Y gw lm V;try walk_at ""
 refine aV bJ (gfl W eG k e.1) (fun A2 Z H=>∃(r:Option T),Z=[some (.ref a),some (.int (k:Int)),some (.ref q),some (.ref l),some (.int (e.1:Int)),some (wyT e.2),r]/\Kb1 l H0 H/\H I=some (.lst ((gfl W eG k e.1).map bJ))/\H l=some (.dci (dI wyT (A2.foldl (iV e.1 e.2) B0)))/\WOk W (n+1) (A2.foldl (iV e.1 e.2) B0)) ⟨_,rfl,S,L,U,hB⟩ ?_ ?_
 ·rintro Z H ⟨r,rfl,v,gf,C,F⟩;refine⟨.inl gf,?_⟩;exact M.out _ _ ⟨_,_,_,rfl,v,C,F⟩
 rintro A2 f B2 Z H N eF ⟨r,rfl,v,gf,C,F⟩ hN2;refine⟨.inl gf,?_⟩;have hf:f∈fls W eG k e.1:=q9 (by rw[eF];simp);have d:(A2++[f]).foldl (iV e.1 e.2) B0=iV e.1 e.2 (A2.foldl (iV e.1 e.2) B0) f:=by rw[aaO];rfl
 have hB3:=F.stp hW ed el et hf;have hlen:=F.len;have y:=nT.mk hN2;clear hN2 eF M S L U hB;rw[d] at y;generalize A2.foldl (iV e.1 e.2) B0=D at *;clear d;have G:nT (∀(r:Option T) (H':lO),Kb1 l H0 H'->H' I=some (.lst ((gfl W eG k e.1).map bJ))->H' l=some (.dci (dI wyT (iV e.1 e.2 D f)))->N [some (.ref a),some (.int (k:Int)),some (.ref q),some (.ref l),some (.int (e.1:Int)),some (wyT e.2),r] H'):=⟨fun r H' h1 h2 h3=>y.out _ _ ⟨r,rfl,h1,h2,h3,hB3⟩⟩;clear y hB3;have lk:=q8 wyT (e.1+f) D;have pt:=SM wyT (e.1+f) (e.2++[f]) D;have dl:=SJ wyT D;have X:wyT (e.2++[f])=.tup (e.2.map bJ++[.int (f:Int)]):=by unfold wyT;rw[z_];rfl
 have ec:((e.1+f:Nat):Int)=(e.1:Int)+(f:Int):=by push_cast;rfl
 rw[X,ec] at pt;rw[ec] at lk;have hst:iV e.1 e.2 D f=match dH (e.1+f) D with
   |none=>putN (e.1+f) (e.2++[f]) D
   |some _=>D:=rfl
 have t:=nT.mk hst;clear hst;try simp only[wyT,bJ] at pt
 simp only[wyT,bJ];cases el2:dH (e.1+f) D with
 |none =>
  rw[el2] at lk t;rw[Option.map_none] at lk;have yes:=nT.mk (fun r=>G.out r _ v.put (by rw[aD (Ne.symm npf)];exact gf) (by rw[aq,t.out,<- pt]));try simp only[wyT,bJ] at yes
  clear G pt X;walk_at "";exact⟨trivial,by omega,by omega,by omega,yes.out _⟩
 |some u =>
 rw[el2] at lk t;rw[aa3] at lk;have no:=nT.mk (fun r=>G.out r H v gf (by rw[t.out];exact C));try simp only[wyT,bJ] at no
 clear G pt X;walk_at "";exact⟨trivial,by omega,by omega,by omega,no.out _⟩
abbrev cT:List Str:=["self","stand","done"]
def nJ:gV cT cT (aB (ab8 32 2)):=aZ
def nM {f:Addr} (g:GM K c "greatest_at" "Walk.greatest_at" (ab8 32 2) cT f u) (B:Bl mg) (r:adg K c ["works","beat","rules","whole"]) (i:Oc P w K mg base 2 "greatest_numbers" (top 29) ["numbers"] Xf) (j:MtC P w K mg base c 3 "fillings_at" cT (WW c)):MtC P w K mg base c 4 "greatest_at" cT (Xg c):=by
 refine⟨g.cls,f,u,g.mt,g.b,?_⟩;refine fn3 g.fn nJ (fun ts H Q h=>?_) (fun J A outer s H E ts H3 Q z h=>?_)
 ·obtain⟨a,W,eG,k,d,rfl,_⟩:=h;rfl
 obtain⟨a,W,eG,k,d,rfl,y,x,I,N,v⟩:=h;refine⟨_,(au (aL (aU i z rfl (aa (qI j (z.mono (by decide)) (v3 0) (aa (v3 1) (aa (v3 2) ak))) ak)))),?_⟩;walk_at "q";walk_at "h";have L:=nT.mk v;clear v;have D:=qZ y;obtain⟨F,O,_⟩:=x.ex;have M:=Gg (W:=W) (eG:=eG) (p:=F) (m:="fillings_at") (by decide +kernel);walk_at "";refine⟨by first | trivial | exact M,a,W,eG,k,d,rfl,y,x,I,N,fun C t=>?_⟩;have l:(fls W eG k d).length<=256:=R_ (Zc _ _) (by rw[C_];exact D);refine⟨C,fls W eG k d,rfl,aq,l,fun p G=>?_⟩;have n:eH H3 (fY H3 C (.lst ((fls W eG k d).map bJ))):=eH.new t;refine n7.of ?_ (L.out p (cu n G));intro b o q;by_cases e:b=p
 ·subst e;rw[aq] at q ⊢;exact q
 rw[aD e] at q ⊢;exact n b o q
def Hr:Sp3:=fun ts H Q=>∃(W:Wk) (x:T) (a:List Str),ts=[W.enc,x]/\v6 W/\WK H x a/\Q (.int (numOf (W.tasks.map (·.1)) a)) H
def N5:Sp3:=fun ts H Q=>∃(W:Wk) (n:Int),ts=[W.enc,.int n]/\v6 W/\0<=n/\n<2^W.tasks.length/\Q (sT (pick (W.tasks.map (·.1)) n)) H
def N6:Sp3:=fun ts H Q=>∃(a:List Str) (k:Str),ts=[sT a,.str k]/\Q (.bl (iU a k)) H
def zx:Sp3:=fun ts H Q=>∃a b:Int,ts=[.int a,.int b]/\Q (.bl (decide (Builtin.bitAnd a b=b))) H
def N7:Sp3:=fun ts H Q=>∃(W:Wk) (t:Str),ts=[W.enc,.str t]/\v6 W/\∀p,H p=none->Q (.ref p) (fY H p (.lst ((jN W t).map T.str)))
def N8:Sp3:=fun ts H Q=>∃W:Wk,ts=[W.enc]/\v6 W/\∀p,H p=none->Q (.ref p) (fY H p (.lst (W.tasks.map (ruT W (W.tasks.map (·.1))))))
def Oa:Sp3:=fun ts H Q=>∃(W:Wk) (a:Addr) (eG:Int) (b:Str) (D S:List Str),ts=[.ref a,.int eG,.str b,.int (numOf (W.tasks.map (·.1)) D),.int (numOf (W.tasks.map (·.1)) S)]/\v6 W/\H a=some (.lst (W.tasks.map (ruT W (W.tasks.map (·.1)))))/\Q (.bl (wZ W eG b D S)) H
abbrev lC:List Str:=["works","tasks","number","worth","task"]
def abU:gV lC ["works","tasks"] (aB (top 22)):=aZ
def rE {f:Addr} (g:G3 K mg "number_of" (top 22) ["works","tasks"] f l) (B:Bl mg):Oc P w K mg base 1 "number_of" (top 22) ["works","tasks"] Hr:=by
 refine c6 g abU ?_;rintro _ A _ _ H _ _ H3 _ p ⟨⟨tk,b,prs,c⟩,x,d,rfl,q,y,k⟩;have j:=t6.u31 p;refine⟨_,(aj (aF 2 abU.nd ao)
   (aj (aF 3 abU.nd ao)
   (aj (aW D_ rfl (bF (aJ GX (v3 0) ao)) (aC 4 abU.nd) (aj (bc (aR (jA j) (aJ GX (v3 4) ao) (v3 1) rfl) (au (aF 2 abU.nd (aH bf (v3 2) (v3 3)))) aO)
    (au (aF 3 abU.nd (aH dh (v3 3) ao)))))
   (au (aL (v3 2)))))),?_⟩
 walk_at "q";walk_at "h";have D:tk.length<=8:=q.t8;walk_at "";refine aV tkT tk (fun A Z H=>∃v:Option T,H=H3/\Z=[some (T.tup [T.tup (tk.map tkT),T.tup (b.map orT),T.tup (prs.map prT),T.tup (c.map T.str)]),some x,some (.int (numOf (A.map (·.1)) d)),some (.int (2^A.length)),v]) ⟨none,rfl,rfl⟩ ?_ ?_
 ·rintro Z H ⟨v,rfl,rfl⟩;walk_at "t";walk_at "";exact n7.of eH.refl k
 rintro A t B Z H N e ⟨v,rfl,rfl⟩ o;have r:A.length+1<=8:=by have:=T_ List.length e;simp only[d_,j_] at this;omega
 have C:0<(2:Int)^A.length/\(2:Int)^A.length<=256:=by
  have:A.length=0\/A.length=1\/A.length=2\/A.length=3\/A.length=4\/A.length=5\/A.length=6\/A.length=7:=by omega
  rcases this with e | e | e | e | e | e | e | e <;> rw[e] <;> decide
 have m:ad0 (2^A.length) 2:=.inl ⟨by omega,by omega⟩;have a:∀v,N [some (T.tup [T.tup (tk.map tkT),T.tup (b.map orT),T.tup (prs.map prT),T.tup (c.map T.str)]),some x,some (.int (numOf (A.map (·.1)) d+2^A.length*(if t.1∈d then 1 else 0))),some (.int (2^A.length*2)),v] H:=fun v=>by have:=o [some (T.tup [T.tup (tk.map tkT),T.tup (b.map orT),T.tup (prs.map prT),T.tup (c.map T.str)]),some x,some (.int (numOf ((A++[t]).map (·.1)) d)),some (.int (2^(A++[t]).length)),v] H ⟨v,rfl,rfl⟩;rw[show (2:Int)^(A++[t]).length=2^A.length*2 by rw[d_,v_,abO],z_,J_,aaA,m5,g_] at this;exact this
 replace a:=nT.mk a;obtain⟨nm,u,F⟩:=t;walk_at "t";clear o e k;simp only[tkT,sT];walk_at "";refine Kl y ?_;by_cases n:nm∈d
 ·simp only[n,aao,if_true,y_,Zb,eX,Int.mul_one] at a ⊢;exact⟨by first | trivial | exact m,a.out _⟩
 simp only[n,ZL,if_true,y_,Zb,eX,Int.mul_zero,Int.add_zero] at a ⊢;exact⟨by first | trivial | exact m,a.out _⟩
abbrev du:List Str:=["kinds","kind"]
def nO:gV du du (aB (top 16)):=aZ
def nP {f:Addr} (g:G3 K mg "may_be_done" (top 16) du f e) (B:Bl mg):Oc P w K mg base 1 "may_be_done" (top 16) du N6:=by
 refine c6 g nO ?_;rintro _ _ _ _ _ _ _ _ _ i ⟨a,b,rfl,k⟩;have c:=t6.u30 i;have d:=t6.u31 i;refine⟨_,(au (aL (U4 (d9 (cF c) (aM bZ rfl B.len_ cg (aa (v3 0) ak)) ao) (vN (d9 (jA d) (v3 1) (v3 0) rfl))))),?_⟩;rw[show aQ du [sT a,T.str b]=[some (T.tup (a.map T.str)),some (T.str b)] from rfl];have l:pl 20 (T.str b)=true:=rfl;have m:=cR a;have n:di false (T.str b) (a.map T.str)=decide (b∈a):=by unfold di;have:(T.str b∈a.map T.str)↔b∈a:=fU jK;simp only[this];simp
 walk_at "";unfold iU at k;cases a with
 |nil=>simp only[aao,Bool.true_or,Zu,if_true] at k ⊢;exact n7.of eH.refl k
 |cons y r =>
  have:¬(((r.length+1:Nat)):Int)=0:=by omega
  simp only[j_,this,ZL,y_,Zb] at k ⊢
  exact⟨trivial,trivial,n7.of eH.refl (by simpa using k)⟩
abbrev gG:List Str:=["number","part"]
def xM:gV gG gG (aB (top 27)):=aZ
def xN {f:Addr} (g:G3 K mg "has_all" (top 27) gG f d) (B:Bl mg):Oc P w K mg base 1 "has_all" (top 27) gG zx:=by
 refine c6 g xM ?_;rintro _ _ _ _ _ _ _ _ _ e ⟨a,b,rfl,k⟩;have c:=t6.u30 e;refine⟨_,(au (aL (d9 (cF c) (aH Dm (v3 0) (v3 1)) (v3 1)))),?_⟩;walk_at "q";walk_at "";exact n7.of eH.refl k
abbrev cZ:List Str:=["works","task"]
def oE:gV cZ cZ (aB (top 25)):=aZ
def oF {f:Addr} (g:G3 K mg "apart_from" (top 25) cZ f x) (B:Bl mg):Oc P w K mg base 1 "apart_from" (top 25) cZ N7:=by
 refine c6 g oE ?_;rintro _ A _ s H _ _ H3 _ M ⟨⟨tk,l,prs,m⟩,t,rfl,L,k⟩;have c:=t6.u30 M;refine⟨_,(au (aL (bR rfl (b6 25 cZ ["word","one","other","task"] 3 [1]) (bF (aJ GX (v3 0) ao)) (fun R C s H V U=>⟨(bO (n:=3) rfl (aG (aC 0 (n5 ["word","one","other","task"])) (aG (aC 1 (n5 ["word","one","other","task"])) (aG (aC 2 (n5 ["word","one","other","task"])) bB)))),(eV (PW3.pt (eN (aR (cF c) (v3 0) cN) (dW (aR (cF c) (v3 1) (v3 3)))))),(v3 2)⟩)))),?_⟩;walk_at "q";walk_at "h";have G:prs.length<=12:=L.ps;walk_at "";walk_at "c";refine gC prT prs (fun A v Z H=>H=H3/\v=((A.filter fun p=>decide (p.1=("apart":Str))&&decide (p.2.1=t)).map (·.2.2)).map T.str/\∃q u o:Option T,Z=[q,u,o,some (.str t)]) ⟨rfl,rfl,none,none,none,rfl⟩ ?_ ?_
 ·rintro v Z H ⟨rfl,rfl,q,u,o,rfl⟩;refine⟨trivial,?_,fun p I=>n7.of eH.refl (k p I)⟩;rw[g_,g_];exact R_ (Zc _ _) (by omega)
 rintro A ⟨w,a,b⟩ B v Z H N e ⟨rfl,rfl,q,u,o,rfl⟩ r;have D:A.length<=12:=by have:=T_ List.length e;simp only[d_,j_] at this;omega
 have S:((A.filter fun p=>decide (p.1=("apart":Str))&&decide (p.2.1=t)).map (·.2.2)).length<=12:=by rw[g_];exact R_ (Zc _ _) D
 walk_at "t";have O:nT (w="apart"/\a=t->N (((A.filter fun p=>decide (p.1=("apart":Str))&&decide (p.2.1=t)).map (·.2.2)).map T.str++[T.str b]) [some (.str w),some (.str a),some (.str b),some (.str t)] H):=⟨fun h=>r _ _ _ ⟨rfl,by rw[ZG];simp [h],_,_,_,rfl⟩⟩;have y:nT (¬(w="apart"/\a=t)->N (((A.filter fun p=>decide (p.1=("apart":Str))&&decide (p.2.1=t)).map (·.2.2)).map T.str) [some (.str w),some (.str a),some (.str b),some (.str t)] H):=⟨fun h=>r _ _ _ ⟨rfl,by rw[ZG];simp [h],_,_,_,rfl⟩⟩;generalize ((A.filter fun p=>decide (p.1=("apart":Str))&&decide (p.2.1=t)).map (·.2.2))=F at *;clear r k e;simp only[prT];walk_at "";walk_at "t";by_cases d:w="apart"
 ·simp only[d,aao,if_true];by_cases j:a=t
  ·simp only[j,aao,if_true];have:=O.out ⟨d,j⟩;rw[d,j] at this;exact⟨by omega,this⟩
  simp only[j,ZL,y_,Zb];have:=y.out fun z=>j z.2;rw[d] at this;exact this
 simp only[d,ZL,y_,Zb];exact y.out fun z=>d z.1
abbrev dD:List Str:=["numbers","greatest","number"]
def abV:gV dD ["numbers"] (aB (top 29)):=aZ
def iW {f:Addr} (g:G3 K mg "greatest_numbers" (top 29) ["numbers"] f U) (B:Bl mg) (c:Oc P w K mg base 1 "has_all" (top 27) ["number","part"] zx):Oc P w K mg base 2 "greatest_numbers" (top 29) ["numbers"] Xf:=by
 refine c6 g abV ?_;rintro _ A _ s H _ _ H3 _ hr ⟨a,fs,rfl,R,hl,k⟩;refine⟨_,(aj (aF 1 abV.nd (bh ak))
   (aj (aW D_ rfl (QZ rfl B.reversed_ (v3 0)) (aC 2 abV.nd) (au (bc (gK (cW (aM (QR rfl) rfl B.any_ Qf (aa (bR rfl (b6 29 dD ["other","number"] 1 [2]) (cD (v3 1)) (fun cl pins s H C0 fp=>⟨(aC 0 (n5 ["other","number"])),cP,(aU c hr rfl (aa (v3 0) (aa (v3 1) ak)))⟩)) ak)))) (au (bC (dj H_ O_ P_ bu (v3 1) (aa (v3 2) ak)))) aO)))
   (au (aL (Du rfl rfl B.list_ rfl B.reversed_ (v3 1)))))),?_⟩
 walk_at "q";walk_at "h";walk_at "s";refine⟨by omega,fun D F=>?_⟩;walk_at "n";have m:eH H3 (fY H3 D (.lst [])):=eH.new F;have J:fY H3 D (.lst []) D=some (.lst ((gre bN []).map bJ)):=aq;generalize fY H3 D (.lst [])=H1 at m J;try dsimp only
 refine aA fun R1 O=>?_;have ga:=m _ _ R;walk_at "";rw[<- aby];refine aV bJ fs.reverse (fun A Z H=>∃(q:Addr) (v:Option T),Z=[some (.ref a),some (.ref q),v]/\eH H3 H/\H3 q=none/\H q=some (.lst ((gre bN A.reverse).map bJ))) ⟨D,none,rfl,m,F,J⟩ ?_ ?_
 ·rintro Z H ⟨q,v,rfl,y,d,z⟩;refine⟨.inl (y _ _ R),?_⟩;walk_at "n";rw[List.reverse_reverse] at z;clear J ga;walk_at "";intro p S;have L:H3 p=none:=by
   cases e:H3 p with
   |none=>rfl
   |some o=>rw[y _ _ e] at S;cases S
  rw[<- aby];refine n7.of ?_ (k p L);intro b o r;by_cases e:b=p
  ·subst e;rw[aq] at r ⊢;exact r
  rw[aD e] at r ⊢;exact y b o r
 rintro A n B Z H N e ⟨q,v,rfl,y,d,z⟩ W;refine⟨.inl (y _ _ R),?_⟩;have hA:A.length+1<=256:=by have:=T_ List.length e;simp only[d_,j_,aaa] at this;omega
 have j:=nT.mk W;have x:gre bN (A++[n]).reverse=if (gre bN A.reverse).any (fun g=>bN g n) then gre bN A.reverse else gre bN A.reverse++[n]:=by rw[List.reverse_append];rfl
 have gl:=rA bN A.reverse;rw[aaa] at gl;clear W e k O J ga;generalize gre bN A.reverse=G at *;walk_at "";walk_at "c";refine bK bJ (fun g=>T.bl (bN g n)) G [some (bJ n)] (.inl z) (by omega) (fun g hg Q' M=>?_) (fun I l=>?_)
 ·clear j;walk_at "";exact⟨(g:Int),(n:Int),rfl,M⟩
 have C:q≠I:=bz z l;have V:(G.map fun g=>T.bl (bN g n))=(G.map fun g=>bN g n).map T.bl:=by rw[Zh];rfl
 have Y:fY H I (.lst ((G.map fun g=>bN g n).map T.bl)) q=some (.lst (G.map bJ)):=by rw[aD C];exact z
 have u:eH H3 (fY H I (.lst ((G.map fun g=>bN g n).map T.bl))):=y.trans (eH.new l);rw[V,mR,f9];generalize fY H I (.lst ((G.map fun g=>bN g n).map T.bl))=H5 at Y u;have X:(G.map fun g=>bN g n).any id=G.any fun g=>bN g n:=by rw[List.any_map];rfl
 rw[X];cases r:G.any fun g=>bN g n
 ·rw[r] at x;simp only[y_,Zb] at x;clear X V l C;simp only[aaL,if_true];walk_at "";refine⟨⟨trivial,trivial⟩,by omega,j.out _ _ ⟨q,_,rfl,?_,d,?_⟩⟩
  ·intro b o t;by_cases e:b=q
   ·subst e;rw[d] at t;cases t
   rw[aD e];exact u b o t
  rw[aq,x,z_];rfl
 rw[r] at x;simp only[if_true] at x;simp only[aaU,y_,Zb];exact j.out _ _ ⟨q,_,rfl,u,d,by rw[x];exact Y⟩
abbrev nQ:List Str:=["self","works","beat"]
def Lr:gV nQ nQ (aB (ab8 32 0)):=aZ
def Ls {f:Addr} (g:GI K mg c "Walk" "Walk.__init__" (ab8 32 0) nQ f X) (B:Bl mg) (d:adg K c ["works","beat","rules","whole"]) (l:Oc P w K mg base 4 "rules_of" (top 26) ["works"] N8) (i:Oc P w K mg base 1 "number_of" (top 22) ["works","tasks"] Hr) (j:Oc P w K mg base 1 "names_of" (top 18) ["tasks"] WP):MkC P w K mg base c 5 "Walk" nQ (WT c):=by
 refine⟨g.at_,f,X,g.mk_,g.b,?_⟩;refine fn3 g.fn Lr (fun ts H Q h=>?_) (fun cdv A outer s H E ts H3 Q R h=>?_)
 ·obtain⟨a,W,eG,rfl,_⟩:=h;rfl
 obtain⟨a,W,eG,rfl,O,ha,k⟩:=h;refine⟨_,(aj (qH d (v3 0) (v3 1))
   (aj (qH d (v3 0) (v3 2))
   (aj (qH d (v3 0) (aU l R rfl (aa (v3 1) ak)))
   (au (qH d (v3 0) (aU i R rfl (aa (v3 1) (aa (aU j R rfl (aa (aJ GX (v3 1) ao) ak)) ak)))))))),?_⟩
 walk_at "q";walk_at "h";have k':=nT.mk k;clear k;walk_at "s";have g1:fY H3 a (.ins c (dO "works" W.enc [])) a=some (.ins c [("works",W.enc)]):=aq;refine⟨by decide,?_⟩;have v:∀b o,b≠a->H3 b=some o->fY H3 a (.ins c (dO "works" W.enc [])) b=some o:=fun b o m e=>by rw[aD m];exact e
 generalize fY H3 a (.ins c (dO "works" W.enc []))=U at g1 v ⊢;walk_at "n";walk_at "s";refine⟨by decide,?_⟩;have u:dO "beat" (T.int eG) [("works",W.enc)]=[(("works":Str),W.enc),(("beat":Str),.int eG)]:=by unfold dO;rw[if_neg (by decide +kernel)];rfl
 rw[u];have L:fY U a (.ins c [("works",W.enc),("beat",.int eG)]) a=some (.ins c [("works",W.enc),("beat",.int eG)]):=aq;have n:∀b o,b≠a->H3 b=some o->fY U a (.ins c [("works",W.enc),("beat",.int eG)]) b=some o:=fun b o m e=>by rw[aD m];exact v b o m e
 generalize fY U a (.ins c [("works",W.enc),("beat",.int eG)])=D at L n ⊢;clear g1 v u;walk_at "n";walk_at "s";refine⟨W,rfl,O,fun p N=>?_⟩;have y:a≠p:=bz L N;have V:fY D p (.lst (W.tasks.map (ruT W (W.tasks.map (·.1))))) p=some (.lst (W.tasks.map (ruT W (W.tasks.map (·.1))))):=aq;have Z:fY D p (.lst (W.tasks.map (ruT W (W.tasks.map (·.1))))) a=some (.ins c [("works",W.enc),("beat",.int eG)]):=by rw[aD y];exact L
 have t:∀b o,b≠a->H3 b=some o->fY D p (.lst (W.tasks.map (ruT W (W.tasks.map (·.1))))) b=some o:=fun b o m e=>by rw[aD (bz (n b o m e) N)];exact n b o m e
 generalize fY D p (.lst (W.tasks.map (ruT W (W.tasks.map (·.1)))))=G at V Z t ⊢;clear L n N;walk_at "";refine⟨by decide,?_⟩;have u:dO "rules" (T.ref p) [("works",W.enc),("beat",.int eG)]=[(("works":Str),W.enc),(("beat":Str),.int eG),(("rules":Str),.ref p)]:=by unfold dO;rw[if_neg (by decide +kernel)];unfold dO;rw[if_neg (by decide +kernel)];rfl
 rw[u];have J:fY G a (.ins c [("works",W.enc),("beat",.int eG),("rules",.ref p)]) a=some (.ins c [("works",W.enc),("beat",.int eG),("rules",.ref p)]):=aq;have I:fY G a (.ins c [("works",W.enc),("beat",.int eG),("rules",.ref p)]) p=some (.lst (W.tasks.map (ruT W (W.tasks.map (·.1))))):=by rw[aD (Ne.symm y)];exact V
 have r:∀b o,b≠a->H3 b=some o->fY G a (.ins c [("works",W.enc),("beat",.int eG),("rules",.ref p)]) b=some o:=fun b o m e=>by rw[aD m];exact t b o m e
 generalize fY G a (.ins c [("works",W.enc),("beat",.int eG),("rules",.ref p)])=F at J I r ⊢;clear V Z t u;walk_at "n";walk_at "";refine⟨W.tasks,rfl,O.t8,fun q C=>?_⟩;have M:a≠q:=bz J C;have S:p≠q:=bz I C;try dsimp only
 refine⟨W,_,W.tasks.map (·.1),rfl,O,.inr ⟨q,rfl,aq⟩,?_⟩;have ew:numOf (W.tasks.map (·.1)) (W.tasks.map (·.1))=(top2 W:Int) - 1:=by have h1:=km (W:=W) (A:=nm W) fun x hx=>hx;have h2:=nj W;rw[cI];show ((bW (nm W) (nm W):Nat):Int)=_;rw[h1];omega
 rw[ew];have g7:fY F q (.lst ((W.tasks.map (·.1)).map T.str)) a=some (.ins c [("works",W.enc),("beat",.int eG),("rules",.ref p)]):=by rw[aD M];exact J
 have Y:fY F q (.lst ((W.tasks.map (·.1)).map T.str)) p=some (.lst (W.tasks.map (ruT W (W.tasks.map (·.1))))):=by rw[aD S];exact I
 have z:∀b o,b≠a->H3 b=some o->fY F q (.lst ((W.tasks.map (·.1)).map T.str)) b=some o:=fun b o m e=>by rw[aD (bz (r b o m e) C)];exact r b o m e
 generalize fY F q (.lst ((W.tasks.map (·.1)).map T.str))=H8 at g7 Y z ⊢;clear J I r C;walk_at "";refine⟨by decide,?_⟩;have u:dO "whole" (T.int ((top2 W:Int) - 1)) [("works",W.enc),("beat",.int eG),("rules",.ref p)]=wkF W eG p:=by unfold dO;rw[if_neg (by decide +kernel)];unfold dO;rw[if_neg (by decide +kernel)];unfold dO;rw[if_neg (by decide +kernel)];rfl
 rw[u];exact n7.of eH.refl (k'.out _ (fun b o m e=>by rw[aD m];exact z b o m e) ⟨p,aq,by rw[aD (Ne.symm y)];exact Y⟩)
abbrev gh:List Str:=["self","stand","done","kind","left"]
def acf:gV gh ["self","stand","done"] (aB (ab8 32 1)):=aZ
def nR {f:Addr} (g:GM K l "fillings_at" "Walk.fillings_at" (ab8 32 1) ["self","stand","done"] f S) (B:Bl mg) (j:adg K l ["works","beat","rules","whole"]) (m:Oc P w K mg base 2 "parts_of" (top 31) ["number"] Nz) (c:Oc P w K mg base 2 "is_filling_number" (top 28) ["rules","beat","kind","done","number"] Oa):MtC P w K mg base l 3 "fillings_at" ["self","stand","done"] (WW l):=by
 refine⟨g.cls,f,S,g.mt,g.b,?_⟩;refine fn3 g.fn acf (fun ts H Q h=>?_) (fun cdv A outer s H E ts H3 Q X h=>?_)
 ·obtain⟨a,W,eG,k,d,rfl,_⟩:=h;rfl
 obtain⟨a,W,eG,k,d,rfl,y,hw,hk,Z,U⟩:=h;refine⟨_,(aj (bc (aR U5 (v3 1) (aM bZ rfl B.len_ cg (aa (aJ GX (ik j (v3 0)) ao) ak))) (au (aL (bh ak))) aO)
   (aj (aF 3 acf.nd (aJ GX (aJ GX (ik j (v3 0)) ao) (v3 1)))
   (aj (aF 4 acf.nd (aU m X rfl (aa (aH vP (ik j (v3 0)) (v3 2)) ak)))
   (au (aL (bR rfl (bU (n0:=(aB (ab8 32 1)).names) (N:=gh) (N':=["number","kind","done","self"]) (nt:=1) (cap:=[3,2,0]) rfl rfl (by decide +kernel)) (cD (v3 4)) (fun cl pins s H C0 fp=>⟨(aC 0 (n5 ["number","kind","done","self"])),(eV (cW (aU c X rfl (aa (ik j (v3 3)) (aa (ik j (v3 3)) (aa (v3 1) (aa (v3 2) (aa (v3 0) ak)))))))),(v3 0)⟩))))))),?_⟩
 walk_at "q";walk_at "h";have Y:=nT.mk U;clear U;have t2:=qZ y;have t1:=nj W;obtain⟨p,M,L⟩:=hw.ex;have f1:=uH (W:=W) (eG:=eG) (p:=p);have f2:=Kv (W:=W) (eG:=eG) (p:=p);have f3:=Gf (W:=W) (eG:=eG) (p:=p);have f4:=uI (W:=W) (eG:=eG) (p:=p);have x1:=xg hk;have G:=nT.mk M;have J:=nT.mk L;generalize wkF W eG p=fs at *;walk_at "s";rw[I_ (by omega),if_neg G_];walk_at "n";walk_at "s";walk_at "n";walk_at "s";refine⟨top2 W - 1 - d,by rw[show ((top2 W - 1 - d:Nat):Int)=(top2 W:Int) - 1 - (d:Int) by omega],by omega,fun pl r=>?_⟩;have n1:a≠pl:=bz M r;have n2:p≠pl:=bz L r;have v:=Ar (W:=W) (eG:=eG) (k:=k) y Z;have V:(uF (top2 W - 1 - d)).length<=256:=by unfold uF;exact R_ (Zc _ _) (by rw[C_];omega)
 have u:∀i∈uF (top2 W - 1 - d),i<top2 W:=fun i D=>by have:=Zf.mp (E_.mp D).1;omega
 generalize uF (top2 W - 1 - d)=ps at *;have n:eH H3 (fY H3 pl (.lst (ps.map bJ))):=eH.new r;have h1:=n _ _ G.out;have O:=n _ _ J.out;have R:fY H3 pl (.lst (ps.map bJ)) pl=some (.lst (ps.map bJ)):=aq;generalize fY H3 pl (.lst (ps.map bJ))=H4 at n h1 O R ⊢;clear M L x1 f1 f4 n1 n2 r;walk_at "n";have z:=nT.mk u;have x:=nT.mk v;clear u v;walk_at "";walk_at "c";refine gR (still:=bD pl (ps.map bJ)) (H:=H4) bJ bJ (fil W eG k d) ps [some (.str (W.row.getD k "")),some (.int (d:Int)),some (.ref a)] (.inl R) (by omega) ?c1 ?c2 ?c3
 case c2=>exact fun i D _ Q' t=>t
 case c1 =>
  intro i D Q' t
  have F:=z.out i D
  have I:=nT.mk t
  clear Y t
  simp only[bJ]
  walk_at ""
  refine⟨W,p,eG,W.row.getD k "",pk W d,pk W i,?_,y,O,?_⟩
  ·
   rw[WR y Z,WR y F]
  ·
   exact I.out
 case c3 =>
  intro q t
  rw[x.out]
  refine n7.of ?_ (Y.out q (cu n t))
  intro b o C
  by_cases e:b=q
  ·
   subst e;rw[aq] at C ⊢;exact C
  ·
   rw[aD e] at C ⊢;exact n b o C
abbrev c7:List Str:=["self","fillings"]
def oG:gV c7 c7 (aB (ab8 32 4)):=aZ
def oH {f:Addr} (g:GM K c "dealing_of" "Walk.dealing_of" (ab8 32 4) c7 f o) (B:Bl mg) (e:adg K c ["works","beat","rules","whole"]) (d:Oc P w K mg base 1 "tasks_of" (top 23) ["works","number"] N5):MtC P w K mg base c 2 "dealing_of" c7 (WX c):=by
 refine⟨g.cls,f,o,g.mt,g.b,?_⟩;refine fn3 g.fn oG (fun ts H Q h=>?_) (fun v A outer s H E ts H3 Q y h=>?_)
 ·obtain⟨a,W,eG,fs,rfl,_⟩:=h;rfl
 obtain⟨a,W,eG,fs,rfl,x,u,F,z,k⟩:=h;refine⟨_,(au (aL (bH cX rfl B.tuple_ cj (aa (bR rfl (bU (n0:=(aB (ab8 32 4)).names) (N:=c7) (N':=["filling","self"]) (nt:=1) (cap:=[0]) rfl rfl (by decide +kernel)) (bF (v3 1)) (fun D t s H J G=>⟨(aC 0 (n5 ["filling","self"])),cP,(aU d y rfl (aa (ik e (v3 1)) (aa (v3 0) ak)))⟩)) ak)))),?_⟩;walk_at "q";walk_at "h";have r:=nT.mk k;clear k;obtain⟨p,R,M⟩:=u.ex;have O:=uH (W:=W) (eG:=eG) (p:=p);generalize wkF W eG p=L at *;walk_at "";walk_at "c";refine bK (still:=cL) (H:=H3) bJ (fun i=>sT (pk W i)) fs [some (.ref a)] trivial (by omega) ?c1 ?c2
 case c1 =>
  intro i C I l
  have m:=z i C
  have j:((2^W.tasks.length:Nat):Int)=(2:Int)^W.tasks.length:=by push_cast;rfl
  have n:=nT.mk l
  clear r l
  simp only[bJ]
  walk_at ""
  exact⟨W,(i:Int),rfl,x,abn _,by rw[<- j];exact Int.ofNat_lt.mpr m,n.out⟩
 case c2 =>
  intro q l
  have k:=r.out
  rw[Zh] at k
  walk_at ""
  exact n7.of (eH.new l) k
abbrev ju:List Str:=["number","parts","worth"]
def ab6:gV ju ["number"] (aB (top 31)):=aZ
def uW {f:Addr} (g:G3 K mg "parts_of" (top 31) ["number"] f fd) (B:Bl mg) (c:Oc P w K mg base 1 "has_all" (top 27) ["number","part"] zx):Oc P w K mg base 2 "parts_of" (top 31) ["number"] Nz:=by
 refine c6 g ab6 ?_;rintro _ _ _ s H _ _ H3 _ hr ⟨N,rfl,hN,k⟩;refine⟨_,(aj (aF 1 ab6.nd (bh (aa ao ak)))
   (aj (aF 2 ab6.nd ao)
   (aj (jy D_ (aR Mm (v3 2) (v3 0)) (aj (bc (cW (aU c hr rfl (aa (v3 0) (aa (v3 2) ak)))) (au (aF 1 ab6.nd (aH bf (v3 1) (bR rfl (b6 31 ju ["part","worth"] 1 [2]) (cD (v3 1)) (fun cl pins s H C0 fp=>⟨(aC 0 (n5 ["part","worth"])),cP,(aH bf (v3 0) (v3 1))⟩))))) aO)
    (au (aF 2 ab6.nd (aH dh (v3 2) ao)))))
   (au (aL (v3 1)))))),?_⟩
 walk_at "q";walk_at "h";have k':=nT.mk k;clear k;walk_at "s";refine⟨by decide,fun F I=>?_⟩;have y:eH H3 (fY H3 F (.lst [T.int 0])):=eH.new I;have g1:fY H3 F (.lst [T.int 0]) F=some (.lst (((List.range (2^0)).filter (bN N)).map bJ)):=by
  have h0:bN N 0=true:=by rw[gD];exact Nat.and_zero N
  rw[aq,show (List.range (2^0))=[0] from rfl,aam,h0];rfl
 generalize fY H3 F (.lst [T.int 0])=H4 at y g1 ⊢;walk_at "n";walk_at "s";walk_at "n";refine aA fun R2 W=>?_;refine⟨fun m Z H=>∃(j:Nat) (q:Addr),Z=[some (.int (N:Int)),some (.ref q),some (.int ((2^j:Nat):Int))]/\eH H3 H/\H3 q=none/\H q=some (.lst (((List.range (2^j)).filter (bN N)).map bJ))/\m=512 - 2^j/\(∀i,i+1=j->2^i<=N),⟨_,0,F,rfl,y,I,g1,rfl,(fun i h=>by omega)⟩,?_⟩;rintro m Z H ⟨j,q,rfl,R,G,t,rfl,hj⟩;have Y:2^j<=256:=by
  cases j with
  |zero=>decide
  |succ i =>
   have h1:=hj i rfl
   have h2:i<8:=by
    rcases aa6 i 8 with z | z
    ·
     exact z
    ·
     have:=Nat.pow_le_pow_right (n:=2) (by decide) z
     omega
   exact R_ (Nat.pow_le_pow_right (by decide) (show i+1<=8 by omega)) (by decide)
 have hp:=Nat.pow_pos (n:=j) (show 0<2 by decide);walk_at "";by_cases u:2^j<=N
 ·have d:decide (((2^j:Nat):Int)<=(N:Int))=true:=L_ (Int.ofNat_le.mpr u);rw[d,if_pos rfl];have hlen:(((List.range (2^j)).filter (bN N))).length<=256:=R_ (Zc _ _) (by rw[C_];exact Y);have l:=Ge (N:=N) (k:=j);have e2:((2^j:Nat):Int)*2=((2^(j+1):Nat):Int):=by rw[Nat.pow_succ];push_cast;rfl
  have cm:ad0 ((2^j:Nat):Int) 2:=.inl ⟨by omega,by omega⟩;have D:2^(j+1)=2^j*2:=by rw[Nat.pow_succ]
  have x:nT (∀(J:Addr) (H':lO),eH H3 H'->H3 J=none->H' J=some (.lst (((List.range (2^(j+1))).filter (bN N)).map bJ))->∃m',m'<512 - 2^j/\∃(O:Nat) (q:Addr),([some (.int (N:Int)),some (.ref J),some (.int (((2^j:Nat):Int)*2))]:St3)=[some (.int (N:Int)),some (.ref q),some (.int ((2^O:Nat):Int))]/\eH H3 H'/\H3 q=none/\H' q=some (.lst (((List.range (2^O)).filter (bN N)).map bJ))/\m'=512 - 2^O/\(∀i,i+1=O->2^i<=N)):=⟨fun J H' s1 s2 s3=>⟨_,by omega,j+1,J,by rw[e2],s1,s2,s3,rfl,fun i hi=>by rw[show i=j by omega];exact u⟩⟩;clear hj W k' g1 y e2 d D;generalize (List.range (2^(j+1))).filter (bN N)=nx at *;generalize hcur:(List.range (2^j)).filter (bN N)=a at *;refine⟨(N:Int),((2^j:Nat):Int),rfl,?_⟩;rw[show decide (Builtin.bitAnd (N:Int) ((2^j:Nat):Int)=((2^j:Nat):Int))=bN N (2^j) from rfl];generalize 2^j=p at *;cases C:bN N p with
  |false=>rw[C] at l;simp only[y_,Zb,W_] at l;simp only[eX,y_,Zb];rw[<- l] at t;exact⟨by first | trivial | exact cm,x.out q _ R G t⟩
  |true =>
  rw[C] at l;simp only[if_true] at l;try simp only[eX,if_true]
  walk_at "c";rw[t,yu];refine bK bJ (fun i=>bJ (i+p)) a [some (.int (p:Int))] (.inl t) (by omega) (fun i hi Q' r=>?_) (fun S v=>?_)
  ·simp only[bJ] at r ⊢;rw[show ((i+p:Nat):Int)=(i:Int)+(p:Int) by push_cast;rfl] at r;have X:=nT.mk r;clear r x;walk_at "";exact X.out
  have U:q≠S:=bz t v;rw[aD U,t,jl];refine⟨by rw[g_,g_];omega,fun pq M=>?_⟩;have L:eH H3 (fY (fY H S (.lst (a.map fun i=>bJ (i+p)))) pq (.lst (a.map bJ++a.map fun i=>bJ (i+p)))):=(R.trans (eH.new v)).trans (eH.new M);have V:H3 pq=none:=cu (R.trans (eH.new v)) M;have gq:fY (fY H S (.lst (a.map fun i=>bJ (i+p)))) pq (.lst (a.map bJ++a.map fun i=>bJ (i+p))) pq=some (.lst (nx.map bJ)):=by rw[aq,l,z_,Zh];rfl
  generalize fY (fY H S (.lst (a.map fun i=>bJ (i+p)))) pq (.lst (a.map bJ++a.map fun i=>bJ (i+p)))=H5 at L gq ⊢;exact⟨by first | trivial | exact cm,x.out pq _ L V gq⟩
 have d:decide (((2^j:Nat):Int)<=(N:Int))=false:=I_ (fun z=>u (Int.ofNat_le.mp z));rw[d,if_neg G_];rw[yS (by omega)] at t;walk_at "n";walk_at "";refine n7.of ?_ (k'.out q G);intro b o C;by_cases e:b=q
 ·subst e;rw[aq] at C;rw[t,C]
 rw[aD e] at C;exact R b o C
def uX:gV ["tasks"] ["tasks"] (aB (top 18)):=aZ
def uY {f:Addr} (g:G3 K mg "names_of" (top 18) ["tasks"] f b) (B:Bl mg):Oc P w K mg base 1 "names_of" (top 18) ["tasks"] WP:=by
 refine c6 g uX ?_;rintro _ _ _ s H _ _ _ _ _ ⟨tk,rfl,p,k⟩;refine⟨_,(au (aL (bR rfl (b6 18 ["tasks"] ["task"] 1 []) (bF (v3 0)) (fun m c s H n u=>⟨(aC 0 (n5 ["task"])),cP,(aJ GX (v3 0) ao)⟩)))),?_⟩;walk_at "q";walk_at "h";have d:=nT.mk k;clear k;walk_at "";walk_at "c";refine bK tkT (fun t=>T.str t.1) tk [] trivial (by omega) (fun t q o e=>?_) (fun l a=>?_)
 ·clear d;simp only[tkT];walk_at "";try exact e
 have:=d.out l a;rw[Zh] at this;exact n7.of eH.refl this
abbrev nU:List Str:=["works","rules","name","length","kinds","own","group","ahead","apart"]
def XM:gV nU ["works"] (aB (top 26)):=aZ
def uZ {f:Addr} (g:G3 K mg "rules_of" (top 26) ["works"] f U) (B:Bl mg) (d:Oc P w K mg base 1 "number_of" (top 22) ["works","tasks"] Hr) (j:Oc P w K mg base 1 "apart_from" (top 25) ["works","task"] N7) (m:Oc P w K mg base 3 "ahead_of" (top 10) ["works","task"] XF) (l:Oc P w K mg base 3 "group_of" (top 8) ["works","task"] Tz):Oc P w K mg base 4 "rules_of" (top 26) ["works"] N8:=by
 refine c6 g XM ?_;rintro _ A _ _ H _ _ H3 _ t ⟨⟨tk,b,prs,c⟩,rfl,r,k⟩;refine⟨_,(aj (aF 1 XM.nd (bh ak))
   (aj (aW D_ rfl (bF (aJ GX (v3 0) ao)) (bO (n:=3) rfl (aG (aC 2 XM.nd) (aG (aC 3 XM.nd) (aG (aC 4 XM.nd) bB)))) (aj (aF 5 XM.nd (aU d t rfl (aa (v3 0) (aa (bA (aa (v3 2) ak)) ak))))
    (aj (aF 6 XM.nd (aU d t rfl (aa (v3 0) (aa (aU l t rfl (aa (v3 0) (aa (v3 2) ak))) ak))))
    (aj (aF 7 XM.nd (aU d t rfl (aa (v3 0) (aa (aU m t rfl (aa (v3 0) (aa (v3 2) ak))) ak))))
    (aj (aF 8 XM.nd (aU d t rfl (aa (v3 0) (aa (aU j t rfl (aa (v3 0) (aa (v3 2) ak))) ak))))
    (au (bC (dj H_ O_ P_ bu (v3 1) (aa (bA (aa (v3 5) (aa (v3 3) (aa (v3 4) (aa (v3 6) (aa (v3 7) (aa (v3 8) ak))))))) ak)))))))))
   (au (aL (v3 1))))),?_⟩
 walk_at "q";walk_at "h";have t8:tk.length<=8:=r.t8;walk_at "";refine⟨by omega,fun p J=>?_⟩;refine aV tkT tk (fun A Z H=>∃(I v3 O C G L D:Option T) (u:lO),Z=[some (T.tup [T.tup (tk.map tkT),T.tup (b.map orT),T.tup (prs.map prT),T.tup (c.map T.str)]),some (.ref p),I,v3,O,C,G,L,D]/\H=fY u p (.lst (A.map (ruT ⟨tk,b,prs,c⟩ (tk.map (·.1)))))/\eH H3 u/\H3 p=none) ⟨none,none,none,none,none,none,none,H3,rfl,rfl,eH.refl,J⟩ ?_ ?_
 ·rintro Z H ⟨I,v3,O,C,G,L,D,u,rfl,rfl,R,_⟩;walk_at "t";walk_at "";refine n7.of (fun a o e=>?_) (k p J);by_cases h:a=p
  ·subst h;rw[aq] at e ⊢;exact e
  rw[aD h] at e ⊢;exact R _ _ e
 rintro A ⟨nm,x,X⟩ B Z H N e ⟨I,v3,O,C,G,L,D,u,rfl,rfl,R,_⟩ V;have S:A.length<=8:=by have:=T_ List.length e;simp only[d_,j_] at this;omega
 walk_at "t";have y:nT (∀q,fY u p (.lst (A.map (ruT ⟨tk,b,prs,c⟩ (tk.map (·.1))))) q=none->N [some (T.tup [T.tup (tk.map tkT),T.tup (b.map orT),T.tup (prs.map prT),T.tup (c.map T.str)]),some (.ref p),some (.str nm),some (.int x),some (sT X),some (.int (numOf (tk.map (·.1)) [nm])),some (.int (numOf (tk.map (·.1)) (bx ⟨tk,b,prs,c⟩ nm))),some (.int (numOf (tk.map (·.1)) (jq ⟨tk,b,prs,c⟩ nm))),some (.int (numOf (tk.map (·.1)) (jN ⟨tk,b,prs,c⟩ nm)))] (fY (fY (fY u p (.lst (A.map (ruT ⟨tk,b,prs,c⟩ (tk.map (·.1)))))) q (.lst ((jN ⟨tk,b,prs,c⟩ nm).map T.str))) p (.lst (A.map (ruT ⟨tk,b,prs,c⟩ (tk.map (·.1)))++[ruT ⟨tk,b,prs,c⟩ (tk.map (·.1)) (nm,x,X)])))):=⟨fun q z=>by
  obtain⟨M,v⟩:=cM z
  refine V _ _ ⟨_,_,_,_,_,_,_,fY u q (.lst ((jN ⟨tk,b,prs,c⟩ nm).map T.str)),rfl,?_,R.trans (eH.new v),J⟩
  rw[z_,CK (Ne.symm M),qj]
  rfl⟩
 have F:(A.map (ruT ⟨tk,b,prs,c⟩ (tk.map (·.1)))).length<=8:=by rw[g_];exact S
 generalize A.map (ruT ⟨tk,b,prs,c⟩ (tk.map (·.1)))=cur at y F;clear V e k S;simp only[tkT];walk_at "";refine⟨trivial,by omega,⟨tk,b,prs,c⟩,_,[nm],rfl,r,.inl rfl,?_⟩;walk_at "";refine⟨⟨tk,b,prs,c⟩,nm,rfl,r,?_⟩;try dsimp only
 refine⟨⟨tk,b,prs,c⟩,_,bx ⟨tk,b,prs,c⟩ nm,rfl,r,.inl rfl,?_⟩;walk_at "";refine⟨⟨tk,b,prs,c⟩,nm,rfl,r,?_⟩;try dsimp only
 refine⟨⟨tk,b,prs,c⟩,_,jq ⟨tk,b,prs,c⟩ nm,rfl,r,.inl rfl,?_⟩;walk_at "";refine⟨⟨tk,b,prs,c⟩,nm,rfl,r,fun q z=>?_⟩;obtain⟨M,v⟩:=cM z;have Y:=Ne.symm M;try dsimp only
 refine⟨⟨tk,b,prs,c⟩,_,jN ⟨tk,b,prs,c⟩ nm,rfl,r,.inr ⟨q,rfl,aq⟩,?_⟩;walk_at "";exact⟨⟨trivial,trivial⟩,by omega,by omega,y.out q z⟩
abbrev eU:List Str:=["rules","beat","kind","done","number","load","own","length","kinds","group","ahead","apart"]
def tE:gV eU ["rules","beat","kind","done","number"] (aB (top 28)):=aZ
def iD {f:Addr} (g:G3 K mg "is_filling_number" (top 28) ["rules","beat","kind","done","number"] f fd) (B:Bl mg) (b:Oc P w K mg base 1 "has_all" (top 27) ["number","part"] zx) (d:Oc P w K mg base 1 "may_be_done" (top 16) ["kinds","kind"] N6):Oc P w K mg base 2 "is_filling_number" (top 28) ["rules","beat","kind","done","number"] Oa:=by
 refine c6 g tE ?_;rintro _ A _ _ H _ _ H3 Q M ⟨W,a,eG,c,D,S,rfl,hW,ha,k⟩;have O:=t6.u30 M;refine⟨_,(aj (aF 5 tE.nd ao)
   (aj (aW D_ rfl (cD (v3 0)) (bO (n:=6) rfl (aG (aC 6 tE.nd) (aG (aC 7 tE.nd) (aG (aC 8 tE.nd) (aG (aC 9 tE.nd) (aG (aC 10 tE.nd) (aG (aC 11 tE.nd) bB))))))) (au (bc (cW (aU b M rfl (aa (v3 4) (aa (v3 6) ak)))) (aj (bc (PW3.pt (iZ (cW (aU b M rfl (aa (v3 3) (aa (v3 6) ak)))) (jf (gK (cW (aU d M rfl (aa (v3 8) (aa (v3 2) ak)))))))) (au (aL cJ)) aO)
     (aj (bc (PW3.pt (iZ (gK (cW (aU b M rfl (aa (v3 4) (aa (v3 9) ak))))) (jf (gK (cW (aU b M rfl (aa (aH V0 (v3 4) (v3 3)) (aa (v3 10) ak)))))))) (au (aL cJ)) aO)
     (aj (bc (aR (fP O) (aH Dm (v3 4) (v3 11)) ao) (au (aL cJ)) aO)
     (au (aF 5 tE.nd (aH bf (v3 5) (v3 7))))))) aO)))
   (au (aL (d9 Mm (v3 5) (v3 1)))))),?_⟩
 walk_at "q";walk_at "h";walk_at "";refine aV (ruT W (W.tasks.map (·.1))) W.tasks (fun A Z H=>∃(F I C y m l:Option T),Z=[some (.ref a),some (.int eG),some (.str c),some (.int (numOf (W.tasks.map (·.1)) D)),some (.int (numOf (W.tasks.map (·.1)) S)),some (.int (bG A S)),F,I,C,y,m,l]/\H=H3/\(A.all fun t=>!decide (t.1∈S)||okT W c D S t)=true) ⟨none,none,none,none,none,none,rfl,rfl,rfl⟩ ?_ ?_
 ·rintro Z H ⟨F,I,C,y,m,l,rfl,rfl,o⟩;refine⟨.inl ha,?_⟩;walk_at "";refine n7.of eH.refl ?_;unfold wZ at k;rw[o,abC] at k;exact k
 rintro A t B Z H N e ⟨F,I,C,y,m,l,rfl,rfl,o⟩ hN;refine⟨.inl ha,?_⟩;have G:t∈W.tasks:=by rw[e];simp
 have J:t.1∈W.tasks.map (·.1):=A_.mpr ⟨t,G,rfl⟩;have r:∀x∈bx W t.1,x∈W.tasks.map (·.1):=fun x j=>(E_.mp j).1;have v:∀x∈jq W t.1,x∈W.tasks.map (·.1):=fun x j=>(E_.mp j).1;have u:∀x∈jN W t.1,x∈W.tasks.map (·.1):=fun x j=>by obtain⟨p,hp,rfl⟩:=A_.mp j;exact (hW.pp p (E_.mp hp).1).2.2.2
 have b1:decide (Builtin.bitAnd (numOf (W.tasks.map (·.1)) S) (numOf (W.tasks.map (·.1)) [t.1])=numOf (W.tasks.map (·.1)) [t.1])=decide (t.1∈S):=by rw[Zk,n_,n_];exact yN J
 have b2:decide (Builtin.bitAnd (numOf (W.tasks.map (·.1)) D) (numOf (W.tasks.map (·.1)) [t.1])=numOf (W.tasks.map (·.1)) [t.1])=decide (t.1∈D):=by rw[Zk,n_,n_];exact yN J
 have b3:decide (Builtin.bitAnd (numOf (W.tasks.map (·.1)) S) (numOf (W.tasks.map (·.1)) (bx W t.1))=numOf (W.tasks.map (·.1)) (bx W t.1))=@decide (∀x∈bx W t.1,x∈S) (Classical.propDecidable _):=by rw[Zk,n_,@n_ _ (Classical.propDecidable _),fV];exact⟨fun h x j=>h x (r x j) j,fun h x _ j=>h x j⟩
 have b4:decide (Builtin.bitAnd (Builtin.bitOr (numOf (W.tasks.map (·.1)) S) (numOf (W.tasks.map (·.1)) D)) (numOf (W.tasks.map (·.1)) (jq W t.1))=numOf (W.tasks.map (·.1)) (jq W t.1))=@decide (∀x∈jq W t.1,x∈S++D) (Classical.propDecidable _):=by rw[Zk,n_,@n_ _ (Classical.propDecidable _),RK,fV];exact⟨fun h x j=>h x (v x j) j,fun h x _ j=>h x j⟩
 have b5:decide (Builtin.bitAnd (numOf (W.tasks.map (·.1)) S) (numOf (W.tasks.map (·.1)) (jN W t.1))=0)=@decide (∀x∈jN W t.1,x∉S) (Classical.propDecidable _):=by rw[Zk,n_,@n_ _ (Classical.propDecidable _),qR];exact⟨fun h x j hs=>h x (u x j) ⟨hs,j⟩,fun h x _ z=>h x z.2 z.1⟩
 have q:nT (t.1∈S->okT W c D S t=false->n7 Q (.bl false) H):=⟨fun h1 h2=>by
  refine n7.of eH.refl ?_
  have e0:wZ W eG c D S=false:=by
   unfold wZ
   rw[Bool.and_eq_false_iff]
   refine .inl ?_
   rw[List.all_eq_false]
   exact⟨t,G,by simp [h1,h2]⟩
  rw[e0] at k
  exact k⟩
 have L:nT (∀(F I C y m l:Option T),(t.1∈S->okT W c D S t=true)->N [some (.ref a),some (.int eG),some (.str c),some (.int (numOf (W.tasks.map (·.1)) D)),some (.int (numOf (W.tasks.map (·.1)) S)),some (.int (bG A S+if t.1∈S then t.2.1 else 0)),F,I,C,y,m,l] H):=⟨fun F I C y m l h=>hN _ _ ⟨F,I,C,y,m,l,by rw[w5],rfl,by
  rw[List.all_append,o]
  by_cases z:t.1∈S
  ·
   simp [h z]
  ·
   simp [z]⟩⟩
 clear hN o k e r v u J G;obtain⟨nm,len,ks⟩:=t;dsimp only at *;generalize numOf (W.tasks.map (·.1)) D=nD at *;generalize numOf (W.tasks.map (·.1)) S=U at *;simp only[ruT];generalize numOf (W.tasks.map (·.1)) [nm]=n1 at *;generalize numOf (W.tasks.map (·.1)) (bx W nm)=n2 at *;generalize numOf (W.tasks.map (·.1)) (jq W nm)=n3 at *;generalize numOf (W.tasks.map (·.1)) (jN W nm)=n4 at *;unfold okT at q L;dsimp only at q L;generalize V:decide (nm∈D)=c1 at *;generalize Y:@decide (∀x∈bx W nm,x∈S) (Classical.propDecidable _)=c3 at *;generalize R:@decide (∀x∈jq W nm,x∈S++D) (Classical.propDecidable _)=c4 at *;generalize X:@decide (∀x∈jN W nm,x∉S) (Classical.propDecidable _)=c5 at *;clear V Y R X;walk_at "";refine⟨trivial,U,n1,rfl,?_⟩;rw[b1];by_cases hS:nm∈S
 ·simp only[hS,aao,if_true,eX,true_implies] at q L ⊢;refine⟨nD,n1,rfl,?_⟩;rw[b2];cases c1 with
  |true =>
   try simp only[eX,if_true]
   exact q.out (by simp)
  |false =>
  simp only[eX,y_,Zb];refine⟨ks,c,rfl,?_⟩;generalize iU ks c=c2 at *;cases c2 with
  |false=>simp only[eX,aaL,if_true];exact q.out (by simp)
  |true =>
  simp only[eX,aaU,y_,Zb];refine⟨U,n2,rfl,?_⟩;rw[b3];cases c3 with
  |false=>simp only[eX,aaL,if_true];exact q.out (by simp)
  |true =>
  simp only[eX,aaU,y_,Zb];refine⟨Builtin.bitOr U nD,n3,rfl,?_⟩;rw[b4];cases c4 with
  |false=>simp only[eX,aaL,if_true];exact q.out (by simp)
  |true =>
  simp only[eX,aaU,y_,Zb];try rw[b5]
  cases c5 with
  |false=>simp only[aaL,if_true];exact q.out (by simp)
  |true =>
  simp only[aaU,y_,Zb];exact L.out _ _ _ _ _ _ (by simp)
 simp only[hS,ZL,y_,Zb,eX,Int.add_zero,false_implies] at q L ⊢;exact L.out _ _ _ _ _ _ (by first | trivial | simp)
abbrev nW:List Str:=["works","number","tasks","left","task"]
def ab7:gV nW ["works","number"] (aB (top 23)):=aZ
def vd {f:Addr} (g:G3 K mg "tasks_of" (top 23) ["works","number"] f u) (B:Bl mg):Oc P w K mg base 1 "tasks_of" (top 23) ["works","number"] N5:=by
 refine c6 g ab7 ?_;rintro _ A _ _ H _ _ H3 _ J ⟨⟨tk,b,prs,c⟩,n,rfl,I,n0,R,k⟩;have m:=t6.u30 J;refine⟨_,(aj (aF 2 ab7.nd (bh ak))
   (aj (aF 3 ab7.nd (v3 1))
   (aj (aW D_ rfl (bF (aJ GX (v3 0) ao)) (aC 4 ab7.nd) (aj (bc (aR (cF m) (aH aX (v3 3) ao) ao) (au (bC (dj H_ O_ P_ bu (v3 2) (aa (aJ GX (v3 4) ao) ak)))) aO)
    (au (aF 3 ab7.nd (aH bj (v3 3) ao)))))
   (au (aL (bH cX rfl B.tuple_ cj (aa (v3 2) ak))))))),?_⟩
 walk_at "q";walk_at "h";have O:tk.length<=8:=I.t8;walk_at "";refine⟨by omega,fun p F=>?_⟩;refine iJ (fun r Z H=>∃(A B:List (Str × Int × List Str)) (v:Option T),tk=A++B/\r=B.map tkT/\H=fY H3 p (.lst ((pick (A.map (·.1)) n).map T.str))/\Z=[some (T.tup [T.tup (tk.map tkT),T.tup (b.map orT),T.tup (prs.map prT),T.tup (c.map T.str)]),some (.int n),some (.ref p),some (.int (n / 2^A.length)),v]) ⟨[],tk,none,rfl,rfl,rfl,by simp⟩ ?_ ?_
 ·rintro Z H ⟨A,B,v,e,j,rfl,rfl⟩;have M:B=[]:=aba.mp j.symm;subst M;rw[W_] at e;subst e;clear j;walk_at "t";walk_at "";exact n7.of (eH.new F) k
 rintro x r Z H N ⟨A,B,v,e,j,rfl,rfl⟩ y;cases B with
 |nil=>cases j
 |cons t B =>
 rw[J_,List.cons.injEq] at j;obtain⟨rfl,rfl⟩:=j;have D:A.length+1<=8:=by have:=T_ List.length e;simp only[d_,j_] at this;omega
 have d:=uw (A.map (·.1)) [t.1] n;simp only[pick,g_] at d;have o:=yR (A.map (·.1)) n;rw[g_] at o;have l:n / 2^A.length / 2=n / 2^(A++[t]).length:=by rw[d_,v_,abO,Int.ediv_ediv_of_nonneg (Int.le_of_lt (Int.pow_pos (by decide)))]
 have a:∀v,N [some (T.tup [T.tup (tk.map tkT),T.tup (b.map orT),T.tup (prs.map prT),T.tup (c.map T.str)]),some (.int n),some (.ref p),some (.int (n / 2^A.length / 2)),v] (fY H3 p (.lst ((pick (A.map (·.1)++[t.1]) n).map T.str))):=fun v=>by rw[l];exact y _ _ ⟨A++[t],B,v,by rw[e];simp,rfl,by simp,rfl⟩
 rw[d] at a;replace a:=nT.mk a;obtain⟨nm,q,L⟩:=t;walk_at "t";clear y e k d l;simp only[tkT,sT];walk_at "";try simp only[true_and]
 refine⟨by decide,?_⟩;by_cases z:n / 2^A.length%2=1
 ·simp only[z,if_true,aao] at a ⊢;refine⟨by omega,?_⟩;have C:=a.out (some (T.tup [T.str nm,T.int q,T.tup (L.map T.str)]));rw[z_] at C;exact⟨⟨by decide,by decide +kernel⟩,C⟩
 simp only[z,Zb,ZL,y_,W_] at a ⊢;exact⟨⟨by decide,by decide +kernel⟩,a.out _⟩
end
def Ht (K:Frag):Bool:=K.all fun p=>!(p.2.cls==.type "list")
def Hu {K:Frag} (e:K.lookup a=some o):(a,o)∈K:=by
 induction K with
 |nil=>cases e
 |cons p r c =>
 obtain⟨b,u⟩:=p;rw[Z9] at e;split at e
 ·rename_i h;rw[eq_of_beq h,F_ e];exact l_
 exact q_ _ (c e)
def Bc {K:Frag} (h:Ht K=true) (e:K.lookup a=some o):o.cls≠.type "list":=fun z=>by
 have b:(a,o)∈K:=Hu e;have q:=ZQ.mp h (a,o) b;rw[z] at q;simp at q
def uc (h:us.length=n+1):∃(a:Value) (r:List Value),us=a::r/\r.length=n:=by
 cases us with
 |nil=>exact nomatch h
 |cons a r=>exact⟨a,r,rfl,Nat.succ.inj h⟩
def uz {us:List Value}(h:us.length=0):us=[]:=aap h
def ub1 (h:∀a:Value,bindArgs b ⟨[a],[]⟩=pure ([c].zip [a])) (us:List Value) (e:us.length=1):bindArgs b ⟨us,[]⟩=pure ([c].zip us):=by
 obtain⟨a,g,f,d⟩:=uc e;rw[f,uz d];exact h a
def ub2 {d f:Str} (h:∀b a:Value,bindArgs c ⟨[b,a],[]⟩=pure ([d,f].zip [b,a])) (us:List Value) (e:us.length=2):bindArgs c ⟨us,[]⟩=pure ([d,f].zip us):=by
 obtain⟨b,l,i,g⟩:=uc e;obtain⟨a,m,k,j⟩:=uc g;rw[i,k,uz j];exact h b a
def ub3 {f i g:Str} (h:∀c b a:Value,bindArgs d ⟨[c,b,a],[]⟩=pure ([f,i,g].zip [c,b,a])) (us:List Value) (e:us.length=3):bindArgs d ⟨us,[]⟩=pure ([f,i,g].zip us):=by
 obtain⟨c,p,m,j⟩:=uc e;obtain⟨b,r,o,n⟩:=uc j;obtain⟨a,q,l,k⟩:=uc n;rw[m,o,l,uz k];exact h c b a
def ub4 {f j i k:Str} (h:∀c b a d:Value,bindArgs g ⟨[c,b,a,d],[]⟩=pure ([f,j,i,k].zip [c,b,a,d])) (us:List Value) (e:us.length=4):bindArgs g ⟨us,[]⟩=pure ([f,j,i,k].zip us):=by
 obtain⟨c,t,r,m⟩:=uc e;obtain⟨b,u,s,l⟩:=uc m;obtain⟨a,v,p,n⟩:=uc l;obtain⟨d,w,o,q⟩:=uc n;rw[r,s,p,o,uz q];exact h c b a d
def ub5 (h:∀d c a f b:Value,bindArgs i ⟨[d,c,a,f,b],[]⟩=pure ([g,l,j,m,k].zip [d,c,a,f,b])) (us:List Value) (e:us.length=5):bindArgs i ⟨us,[]⟩=pure ([g,l,j,m,k].zip us):=by
 obtain⟨d,x,v,q⟩:=uc e;obtain⟨c,y,w,p⟩:=uc q;obtain⟨a,z,t,r⟩:=uc p;obtain⟨f,A,s,u⟩:=uc r;obtain⟨b,B,n,o⟩:=uc u;rw[v,w,t,s,n,uz o];exact h d c a f b
def ub6 (h:∀f d a g b c:Value,bindArgs j ⟨[f,d,a,g,b,c],[]⟩=pure ([i,n,k,o,m,l].zip [f,d,a,g,b,c])) (us:List Value) (e:us.length=6):bindArgs j ⟨us,[]⟩=pure ([i,n,k,o,m,l].zip us):=by
 obtain⟨f,B,z,t⟩:=uc e;obtain⟨d,C,A,s⟩:=uc t;obtain⟨a,E,w,u⟩:=uc s;obtain⟨g,F,v,x⟩:=uc u;obtain⟨b,G,p,r⟩:=uc x;obtain⟨c,D,y,q⟩:=uc r;rw[z,A,w,v,p,y,uz q];exact h f d a g b c
def Za {K:Frag}{st:Stmt}{f:Addr}{kV d e b i:Value} (X:K.In h) (G:h.Ns mainGlobals m) (a:nsIn K mainGlobals x=some (some (.ref f))) (l:K.lookup f=some ⟨n,od,.func (fnOf x x (cV st) (cC st) (aB st) .none kV d e g b i),j⟩) (c:codeIn K b x=true) (k:keepIn K (.ref f)=true) (o:∀(kV d e:Value) (g:Option Addr) (b i:Value) (us:List Value),us.length=ps.length->bindArgs (fnOf x x (cV st) (cC st) (aB st) .none kV d e g b i) ⟨us,[]⟩=pure (ps.zip us)):
  G3 K m x st ps f (fnOf x x (cV st) (cC st) (aB st) .none kV d e g b i) :=
 have F:=By (st:=st) l c k
 ⟨F,F.binds o,mg_of X G a⟩
def cz (i:Nat) (ps:List Str) (x:Str) (f:Addr) (m:Str) (t c:Nat) {K:Frag} (X:K.In h) (G:h.Ns mainGlobals b) (d:∀(kV doc pm:Value) (an:Option Addr) (cdv ct:Value) (us:List Value),us.length=ps.length->bindArgs (fnOf x x (cV (top i)) (cC (top i)) (aB (top i)) .none kV doc pm an cdv ct) ⟨us,[]⟩=pure (ps.zip us):=by first | exact fun _ _ _ _ _ _=>ub1 fun _=>rfl | exact fun _ _ _ _ _ _=>ub2 fun _ _=>rfl | exact fun _ _ _ _ _ _=>ub3 fun _ _ _=>rfl | exact fun _ _ _ _ _ _=>ub4 fun _ _ _ _=>rfl | exact fun _ _ _ _ _ _=>ub5 fun _ _ _ _ _=>rfl | exact fun _ _ _ _ _ _=>ub6 fun _ _ _ _ _ _=>rfl) (a:nsIn K mainGlobals x=some (some (.ref f)):=by kernel_rfl) (l:K.lookup f=some (fO i x m t c):=by kernel_rfl) (e:codeIn K (.ref c) x=true:=by kernel_rfl) (k:keepIn K (.ref f)=true:=by kernel_rfl):
  G3 K b x (top i) ps f (fnOf x x (cV (top i)) (cC (top i)) (aB (top i)) .none .none .none (.str m t) none (.ref c) .none) :=
 Za X G a l e k d
def XJ:Stmt->Pos->Pos
 |.FunctionDef _ _ _ _ _ _ _ _ _ p,_=>p
 |_,p=>p
def dv:DefRec:=⟨"law",cV (top 59),cC (top 59),aB (top 59),XJ (top 59) default⟩
def vf {K:Frag}(n q:Str) (st:Stmt) (f:Addr) (m:Str) (t c:Nat) (l:K.lookup f=some (fQ st n q m t c):=by kernel_rfl) (e:codeIn K (.ref c) q=true:=by kernel_rfl) (k:keepIn K (.ref f)=true:=by kernel_rfl):Fun K n q st f (fnOf n q (cV st) (cC st) (aB st) .none .none .none (.str m t) none (.ref c) .none):=By l e k
def afm {l:PySem.W.OpenLaw} (X:(KK w.params).In h) (G:h.Ns mainGlobals mg) (hfa:mg "law"=some (.ref fa)):
  ∃fd:FuncData,(∀(s:Shared) (v:Value),BindsTo s fd ⟨[v],[]⟩ [("_law_script",v)])/\∀base:Heap,(KK w.params).In base->base.Ns mainGlobals mg->kZ l.prog w (KK w.params) mg base 12 fa fd ["_law_script"] zp:=by
 have g:∀{n:Str} {v:Value},nsIn (KK w.params) mainGlobals n=some (some v)->mg n=some v:=fun e=>mg_of X G e;have Z:∀{n:Str},nsIn (KK w.params) mainGlobals n=some none->mg n=none:=fun e=>PySem.W.mg_none_of X G e;have e:=hfa.symm.trans (g (v:=.ref 393) (by kernel_rfl));cases e;have B:Bl mg:=by constructor <;> exact Z (by kernel_rfl)
 have a:=cz 54 ["_law_works_here","_law_beat_here","_law_many","_law_places"] "_law_some" 364 mlw 556 363 X G;refine⟨fnOf "law" "law" (cV (top 59)) (cC (top 59)) (aB (top 59)) .none .none .none (.str mlw 556) none (.ref 392) .none,fun s v=>.of_eq rfl,fun base _ _=>?_⟩;have k:Cls (KK w.params) 230:=⟨by kernel_rfl,by kernel_rfl,by kernel_rfl,by kernel_rfl⟩;have ur:∀n∈(["works","beat","rules","whole"]:List Str),findIn (KK w.params) (.ref 230) n=some none:=fun n hn=>by simp only[x_,Ze,aaB] at hn;rcases hn with rfl | rfl | rfl | rfl <;> kernel_rfl
 have j:adg (KK w.params) 230 ["works","beat","rules","whole"]:=⟨k,ur⟩;have r:=vf (K:=KK w.params) "__init__" "Walk.__init__" (ab8 32 0) 203 "stationrow.walks" 439 202;have g_Walk:GI (KK w.params) mg 230 "Walk" "Walk.__init__" (ab8 32 0) ["self","works","beat"] 203 _:=⟨⟨by kernel_rfl,by kernel_rfl,by kernel_rfl,by kernel_rfl⟩,r,r.binds fun _ _ _ _ _ _=>ub3 fun _ _ _=>rfl,g (v:=.ref 230) (by kernel_rfl)⟩;have d:=vf (K:=KK w.params) "fillings_at" "Walk.fillings_at" (ab8 32 1) 208 "stationrow.walks" 439 207;have Q:GM (KK w.params) 230 "fillings_at" "Walk.fillings_at" (ab8 32 1) ["self","stand","done"] 208 _:=⟨k,d,d.binds fun _ _ _ _ _ _=>ub3 fun _ _ _=>rfl,⟨by kernel_rfl,by kernel_rfl,by kernel_rfl⟩⟩;have c:=vf (K:=KK w.params) "greatest_at" "Walk.greatest_at" (ab8 32 2) 215 "stationrow.walks" 439 214;have I:GM (KK w.params) 230 "greatest_at" "Walk.greatest_at" (ab8 32 2) ["self","stand","done"] 215 _:=⟨k,c,c.binds fun _ _ _ _ _ _=>ub3 fun _ _ _=>rfl,⟨by kernel_rfl,by kernel_rfl,by kernel_rfl⟩⟩;have i:=vf (K:=KK w.params) "dealing_of" "Walk.dealing_of" (ab8 32 4) 227 "stationrow.walks" 439 226;have Y:GM (KK w.params) 230 "dealing_of" "Walk.dealing_of" (ab8 32 4) ["self","fillings"] 227 _:=⟨k,i,i.binds fun _ _ _ _ _ _=>ub2 fun _ _=>rfl,⟨by kernel_rfl,by kernel_rfl,by kernel_rfl⟩⟩;have M:=vf (K:=KK w.params) "__init__" "TooLong.__init__" (ab8 13 0) 105 "stationrow.errors" 271 104;obtain⟨ve,u8⟩:=J8 (K:=KK w.params) (C:=108) (by kernel_rfl) (by kernel_rfl) (by kernel_rfl);have u4:∀n∈(["tasks","length"]:List Str),findIn (KK w.params) (.ref 108) n=some none:=fun n hn=>by simp only[x_,Ze,aaB] at hn;rcases hn with rfl | rfl <;> kernel_rfl
 have vn:afr l.prog w (KK w.params) mg base "TooLong" 108 ["tasks","length"]:=⟨g (v:=.ref 108) (by kernel_rfl),⟨105,_,["self","tasks","length"],ve,⟨by kernel_rfl,by kernel_rfl,by kernel_rfl⟩,u8,xJ M,M.binds fun _ _ _ _ _ _=>ub3 fun _ _ _=>rfl⟩,u4,by decide,nofun⟩;have uu:afv (KK w.params) mg "NoRoom" 120:=⟨g (v:=.ref 120) (by kernel_rfl),⟨by kernel_rfl,by kernel_rfl⟩⟩;have H:=Lj (P:=l.prog) (w:=w) (base:=base) (cz 39 ["_law_script","_law_k"] "_law_cell" 269 mlw 556 268 X G) B;have u:=Lk (P:=l.prog) (w:=w) (base:=base) (cz 40 ["_law_cell_here"] "_law_word" 276 mlw 556 275 X G) B;have o:=Bb (P:=l.prog) (w:=w) (base:=base) (cz 41 ["_law_words"] "_law_unlike" 283 mlw 556 282 X G) B;have vb:=Ln (cz 42 ["_law_cell_here"] "_law_pool" 290 mlw 556 289 X G) B u o;have vy:=Lp (cz 43 ["_law_cell_here","_law_row","_law_pool_here","_law_unit"] "_law_task" 297 mlw 556 296 X G) B u;have N:=Hk (cz 44 ["_law_script","_law_names","_law_some_here"] "_law_links" 302 mlw 556 301 X G) B H;have vl:=Hl (cz 45 ["_law_script","_law_most","_law_wide"] "_law_works" 307 mlw 556 306 X G) B H vb vy o N;have vr:=Hm (P:=l.prog) (w:=w) (base:=base) (cz 46 ["_law_works_here","_law_stands"] "_law_loads" 314 mlw 556 313 X G) B;have F:=Lq (cz 47 ["_law_cell_here","_law_works_here","_law_stands"] "_law_beat" 319 mlw 556 318 X G) B vr;have u7:=Hn (cz 48 ["_law_script","_law_most","_law_wide"] "_law_drawn" 326 mlw 556 325 X G) B vl F H;have va:=Hf (P:=l.prog) (w:=w) (base:=base) (cz 49 ["_law_works_here","_law_cell_here"] "_law_moved" 333 mlw 556 332 X G) B;have ua:=xG (P:=l.prog) (w:=w) (base:=base) (cz 55 ["_law_works_here"] "_law_chained" 369 mlw 556 368 X G) B;have ub:=Ba (cz 56 ["_law_works_here"] "_law_groups" 374 mlw 556 373 X G) B ua;have b:=TF (P:=l.prog) (w:=w) (base:=base) (cz 53 ["_law_works_here","_law_beat_here","_law_places","_law_stand"] "_law_may" 357 mlw 556 356 X G) B;have vt:=(eY a B b (eY a B b (eY a B b (eY a B b (eY a B b (eY a B b (eY a B b (eY a B b (eY a B b (XH (P:=l.prog) (w:=w) (base:=base) a))))))))));have vk:=Tr (cz 57 ["_law_works_here","_law_beat_here"] "_law_due" 379 mlw 556 378 X G) B ub vt;have q:=rE (P:=l.prog) (w:=w) (base:=base) (cz 22 ["works","tasks"] "number_of" 146 "stationrow.sets" 360 145 X G) B;have O:=oF (P:=l.prog) (w:=w) (base:=base) (cz 25 ["works","task"] "apart_from" 158 "stationrow.fillings" 384 157 X G) B;have t:=jT (P:=l.prog) (w:=w) (base:=base) (cz 7 ["works","found","other"] "in_first_alone" 57 "stationrow.chains" 194 56 X G) B;have S:=xu (P:=l.prog) (w:=w) (base:=base) (cz 3 ["links","start"] "reached" 35 "stationrow.chains" 194 34 X G) B;have A:=uN (P:=l.prog) (w:=w) (base:=base) (cz 2 ["works"] "links_of" 28 "stationrow.chains" 194 27 X G) B;have z:=uP (cz 5 ["works","task"] "led_from" 47 "stationrow.chains" 194 46 X G) B S A;have y:=Az (cz 4 ["works","task"] "led_to" 42 "stationrow.chains" 194 41 X G) B S A;have ui:=uU (cz 10 ["works","task"] "ahead_of" 78 "stationrow.chains" 194 77 X G) B t z y;have vu:=xF (P:=l.prog) (w:=w) (base:=base) (cz 6 ["works","found","other"] "in_both" 52 "stationrow.chains" 194 51 X G) B;have D:=uR (cz 8 ["works","task"] "group_of" 64 "stationrow.chains" 194 63 X G) B vu y z
 have vc:=uZ (cz 26 ["works"] "rules_of" 165 "stationrow.fillings" 384 164 X G) B q O ui D;have u5:=uY (P:=l.prog) (w:=w) (base:=base) (cz 18 ["tasks"] "names_of" 134 "stationrow.texts" 344 133 X G) B;have uk:=Ls g_Walk B j vc q u5;have p:=xN (P:=l.prog) (w:=w) (base:=base) (cz 27 ["number","part"] "has_all" 172 "stationrow.fillings" 384 171 X G) B;have m:=iW (cz 29 ["numbers"] "greatest_numbers" 184 "stationrow.fillings" 384 183 X G) B p;have u6:=uW (cz 31 ["number"] "parts_of" 189 "stationrow.walks" 439 188 X G) B p;have T:=nP (P:=l.prog) (w:=w) (base:=base) (cz 16 ["kinds","kind"] "may_be_done" 129 "stationrow.checks" 334 128 X G) B;have f:=iD (cz 28 ["rules","beat","kind","done","number"] "is_filling_number" 179 "stationrow.fillings" 384 178 X G) B p T;have L:=nR Q B j u6 f;have R:=nM I B j m L
 have J:=nH (cz 34 ["walk","stand","ways"] "ways_behind" 241 "stationrow.dealt" 509 240 X G) B j R
 have U:=vd (P:=l.prog) (w:=w) (base:=base) (cz 23 ["works","number"] "tasks_of" 153 "stationrow.sets" 360 152 X G) B;have V:=oH Y B j U;have vv:=oA (cz 35 ["works","beat","many"] "dealing_to" 248 "stationrow.dealt" 509 247 X G) B j uk J V;have u3:=rC (cz 9 ["works"] "groups_of" 71 "stationrow.chains" 194 70 X G) B D;have uj:=xq (P:=l.prog) (w:=w) (base:=base) (cz 20 ["works","tasks"] "load_of" 139 "stationrow.dealings" 352 138 X G) B;have E:=lH (cz 36 ["works","beat"] "check_groups" 255 "stationrow.dealt" 509 254 X G) B vn u3 uj;have x:=kE (cz 37 ["works","beat"] "fewest_stands" 262 "stationrow.dealt" 509 261 X G) B uu vv E;have v2:=Lh (C_TooLong:=108) (C_NoRoom:=120) (cz 58 ["_law_works_here","_law_beat_here"] "_law_told" 386 mlw 556 385 X G) B ⟨g (v:=.ref 108) (by kernel_rfl),⟨by kernel_rfl,by kernel_rfl⟩⟩ ⟨g (v:=.ref 120) (by kernel_rfl),⟨by kernel_rfl,by kernel_rfl⟩⟩ (by kernel_rfl) (by kernel_rfl) (by kernel_rfl) ⟨by kernel_rfl,by kernel_rfl,by kernel_rfl,by kernel_rfl⟩ (by kernel_rfl) (by kernel_rfl) x;have vw:=G8 (P:=l.prog) (w:=w) (base:=base) (cz 50 ["_law_found"] "_law_whole" 340 mlw 556 339 X G) B;have v0:=Hq (P:=l.prog) (w:=w) (base:=base) (cz 51 ["_law_works_here","_law_beat_here","_law_dealing"] "_law_right" 345 mlw 556 344 X G) B;have vx:=ou (cz 52 ["_law_works_here","_law_beat_here","_law_many","_law_found"] "_law_is_dealing" 350 mlw 556 349 X G) B v0;exact Tq (cz 59 ["_law_script"] "law" 393 mlw 556 392 X G) B H u7 va vk v2 vw vx
def walk {l:PySem.W.OpenLaw}{K:Params->Frag} (D:l.most=some 63) (g:d.params.defaults=[]) (B:∀(w:World) (h:Heap),YP w h->(K w.params).In h) (p:∀w:World,Ht (K w.params)=true) (F:∀(w:World) (mg:Str->Option Value) (fa:Addr) (h:Heap),(K w.params).In h->h.Ns mainGlobals mg->mg d.name=some (.ref fa) ->
   ∃fd:FuncData,(∀(s:Shared) (u:Value),BindsTo s fd ⟨[u],[]⟩ [("_law_script",u)])/\∀base:Heap,(K w.params).In base->base.Ns mainGlobals mg->kZ l.prog w (K w.params) mg base 12 fa fd ["_law_script"] zp):
  PySem.W.WalkO q loose XP YP l.row.toRowW d [] (fun f vs=>PySem.call f vs):=by
 refine L2.aeD (n:=63) (k:=12) (x:="_law_script") (CX:=fun _=>CX0) (sp:=fun w=>sH (K w.params) zp) D (by decide) g ⟨rfl,by decide,by decide,rfl⟩ B F (fun w H a ns G J i=>?_) fun _ _ _ _ _ z=>z;refine⟨[.ref a],fun b=>if b=a then some (.rol (ns.map T.int)) else none,fun t _=>t=.bl true,.cons .ofRef .nil,fun b o e=>?_,⟨a,ns,rfl,if_pos rfl,G,fun _=>rfl⟩,fun v H' t y _ _ r q=>?_⟩
 ·dsimp only at e;by_cases j:b=a
  ·rw[if_pos j] at e;cases e;subst j;rcases i with i | ⟨o,A,n,C,E,_⟩
   ·refine⟨_,i,?_⟩;have:∀c:List Int,lX (K w.params) H (c.map T.int) (c.map V.int):=fun c=>by
     induction c with
     |nil=>exact .nil
     |cons m r I=>exact .cons .ofInt I
    exact this ns
   exact absurd E (Bc (p w) C)
  rw[if_neg j] at e;cases e
 subst q;exact r.bl
end M
open PySem PySem.W PyProof.Rows
set_option maxRecDepth 100000 in
set_option maxHeartbeats 0 in
theorem PySem.Challenge.cw_stationrow_k42_fewest_stands_holds : PySem.Challenge.rw_stationrow_k42_fewest_stands.Holds := by
 refine holds_law (by kernel_rfl) fun said=>?_;refine holds_open (d:=M.dv) (kwd:=[]) (q:=M.qv) (loose:=[]) (Xt:=fun s=>xlAt M.qv [] s&&recOk (RowW.records (OpenLaw.row PySem.Challenge.rw_stationrow_k42_fewest_stands).toRowW) s) (XP:=XL M.qv []) (Yf:=Hook.obs M.HK) (Ya:=Hook.val M.HK) (YP:=Hook.says M.HK) (N:=5124) M.left (Hook.of M.HK) (Hook.keeps M.HK) (fun s e=>xl_of s (Bool.and_eq_true_iff.mp e).1) XL.keeps (by kernel_rfl) (by kernel_rfl) (by kernel_rfl) (fun s e=>recFacts_of (Bool.and_eq_true_iff.mp e).2) (by kernel_rfl) (by first | assumption | kernel_rfl) (by kernel_rfl) ⟨rfl,rfl,rfl,rfl,rfl,by decide +kernel⟩ ?hw ?hc
 case hw=>w_witness2
 case hc=>exact M.walk (l:=PySem.Challenge.rw_stationrow_k42_fewest_stands) rfl rfl (fun w h Y=>kIn_of Y) (fun w=>by kernel_rfl) fun w mg fa h KX G hmg=>M.afm KX G hmg
#print axioms PySem.Challenge.cw_stationrow_k42_fewest_stands_holds
