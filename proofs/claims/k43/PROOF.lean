import PyProof.Rows.All
import PyProof.EqAt
import PyProof.EqKinds
import PyProof.TupleCall
import PyProof.NeKinds
import PyProof.StrWalks
import PyProof.Rows.SetFrom
import PyProof.WalksMore
import KE.KIntText
import PyProof.EnumMake
import PyProof.WalkInts
import PyProof.ReprRoads
import PyProof.ReprLen
import KE.KRevIter
import KE.KRevSl
import PyProof.StrCalls
import PyProof.Rows.StrFit
import KE.KDictOf
import PyProof.AttrMissHeap
import PyProof.DictItems
import KE.KDictLaws
import KE.KSortTup
import KE.KDictList
import PyProof.ExcClass3
import PyProof.ExcInit
import PyProof.StationsW
import OpenK.KOwn
import PyProof.RulesAs
import PyProof.RulesDel
import PyProof.InstStoreFacts
import PyProof.ExcBaseAll.ValueError
import PyProof.ExcAttrAll.ValueError
import KE.KIsAll
import PyProof.StrLawsTight
import PyProof.StrLawsNeg
import Wide.Line
import KE.KFromBytes
import KE.KItem
import PySem.Challenge.RW_stationrow_k43_tasks_beyond_the_beat
import Open.Tree
abbrev a_:=@PySem.wpAny_bind
abbrev b_:=@PySem.Heap.get?_push_of_some
abbrev d_:=@List.length_append
abbrev e_:=@List.length_map
abbrev g_:=@List.getElem?_eq_getElem
abbrev h_:=@List.getD_eq_getElem?_getD
abbrev i_:=@List.mem_singleton
abbrev j_:=@List.length_cons
abbrev k_:=@List.mem_cons_self
abbrev l_:=@Nat.le_refl
abbrev m_:=@decide_eq_true_iff
abbrev n_:=@PySem.wpAny_pure
abbrev o_:=@PySem.Heap.get?_push_size
abbrev p_:=@PySem.Heap.lt_size
abbrev q_:=@List.mem_cons_of_mem
abbrev t_:=@List.size_toArray
abbrev u_:=@List.mem_cons
abbrev v_:=@List.mem_append
abbrev x_:=@List.map_append
abbrev y_:=@List.getElem?_map
abbrev z_:=@List.mem_map
abbrev A_:=@List.length_singleton
abbrev B_:=@List.mem_filter
abbrev C_:=@Bool.false_eq_true
abbrev D_:=@List.length_range
abbrev E_:=@PySem.F.plainAttrs_list
abbrev F_:=@PySem.PassesOwn.never
abbrev G_:=@List.map_cons
abbrev H_:=@decide_eq_false
abbrev I_:=@Nat.ne_of_lt
abbrev J_:=@Bool.false_ne_true
abbrev K_:=@Nat.lt_of_lt_of_le
abbrev L_:=@decide_eq_true
abbrev M_:=@PySem.F.slot_list_append
abbrev N_:=@PySem.F.type_list_append
abbrev O_:=@Option.some.inj
abbrev P_:=@List.getElem?_eq_none
abbrev Q_:=@Nat.le_trans
abbrev R_:=@Int.emod_lt_of_pos
abbrev S_:=@List.append_nil
abbrev T_:=@List.mem_append_left
abbrev U_:=@List.mem_append_right
abbrev V_:=@Int.emod_nonneg
abbrev W_:=@congrArg
abbrev X_:=@List.mem_of_getElem?
abbrev Yx:=@List.getElem?_append_right
abbrev Yy:=@List.length_filter_le
abbrev Yz:=@Nat.ne_of_gt
abbrev YB:=@List.not_mem_nil
abbrev YC:=@List.map_map
abbrev YD:=@Bool.and_eq_true
abbrev YF:=@List.mem_range
abbrev YG:=@if_false
abbrev YH:=@Bool.eq_iff_iff
abbrev YJ:=@PySem.Heap.get?_update_other
abbrev YK:=@List.getElem?_range
abbrev YL:=@Nat.lt_trans
abbrev YM:=@Nat.lt_irrefl
abbrev YQ:=@List.getElem?_append_left
abbrev YS:=@PyProof.Rows.callWith_type1
abbrev YT:=@PySem.wpAny_field
abbrev YW:=@List.append_assoc
abbrev YX:=@List.length_replicate
abbrev YZ:=@beq_eq_false_iff_ne
abbrev Y0:=@List.length_nil
abbrev Y4:=@List.getElem_mem
abbrev Y5:=@PySem.wpAny_mono
abbrev Y6:=@PySem.wpAny_Call_Name_kw
abbrev Y7:=@Nat.zero_le
abbrev Y8:=@List.replicate_succ
abbrev Y9:=@List.nodup_cons
abbrev Y_:=@PySem.Heap.size_push
abbrev Za:=@of_decide_eq_true
abbrev Zb:=@List.filter_congr
abbrev Zc:=@List.getElem?_eq_some_iff
abbrev Zd:=@List.getElem?_set_self
abbrev Ze:=@decide_false
abbrev Zf:=@List.filter_append
abbrev Zg:=@Nat.lt_succ_self
abbrev Zh:=@List.lookup_cons
abbrev Zi:=@List.mem_flatten
abbrev Zj:=@List.map_congr_left
abbrev Zk:=@Int.toNat_natCast
abbrev Zm:=@List.flatten_cons
abbrev Zn:=@Nat.lt_succ_of_lt
abbrev Zo:=@PySem.wpAny_loadPart_at
abbrev Zq:=@List.nodup_append
abbrev Zr:=@List.getElem?_set_ne
abbrev Zt:=@beq_iff_eq
abbrev Zu:=@PySem.W.Looks.here
abbrev Zv:=@Array.getElem?_eq_some_iff
abbrev Zw:=@PySem.wpAny_holding
abbrev Zx:=@List.all_eq_true
abbrev Zy:=@List.any_eq_true
abbrev Zz:=@List.eq_nil_of_length_eq_zero
abbrev ZC:=@PySem.Heap.get?_update_self
abbrev ZD:=@Nat.le_of_lt
abbrev ZF:=@List.map_nil
abbrev ZG:=@decide_true
abbrev ZJ:=@List.getElem?_cons_succ
abbrev ZK:=@decide_eq_false_iff_not
abbrev ZL:=@List.getElem?_cons_zero
abbrev ZM:=@List.filter_cons
abbrev ZP:=@Array.getD_eq_getD_getElem?
abbrev ZQ:=@Prod.mk.injEq
abbrev ZR:=@PySem.wpAny_truthy_bool
abbrev ZS:=@PySem.wpAny_newObj_type
abbrev ZV:=@or_false
abbrev ZW:=@List.length_reverse
abbrev ZX:=@PySem.Heap.get?_update_ne
abbrev ZZ:=@List.flatten_append
abbrev Z0:=@List.pairwise_iff_getElem
abbrev Z1:=@PySem.Calls.spliced_cons
abbrev Z2:=@PySem.wpAny_call_entry
abbrev Z3:=@List.getElem_map
abbrev Z4:=@decide_eq_decide
abbrev Z5:=@List.sum_cons
abbrev Z6:=@Nat.le_succ
abbrev Z7:=@PySem.wpAny_seqItems
abbrev Z8:=@List.getElem?_of_mem
abbrev Z9:=@Bool.not_false
abbrev Z_:=@List.getElem?_replicate
abbrev aaa:=@PySem.wpAny_callSpecial?_slot
abbrev aab:=@List.foldl_append
abbrev aac:=@List.find?_cons
abbrev aad:=@PyProof.Rows.KeyOrd.kle_refl
abbrev aae:=@List.dropLast_concat_getLast
abbrev aaf:=@Array.length_toList
abbrev aag:=@List.map_eq_nil_iff
abbrev aah:=@Bool.not_true
abbrev aai:=@PySem.F.slot_tuple_iterator_next
abbrev aaj:=@PySem.wpAny_setField_rec
abbrev aak:=@PySem.Code.quiet_builtin
abbrev aal:=@PySem.F.excBase_ValueError
abbrev aam:=@List.nodup_nil
abbrev aan:=@Nat.lt_of_le_of_lt
abbrev aao:=@Array.getElem?_eq_getElem
abbrev aap:=@PySem.wpAny_passesOwn
abbrev aaq:=@PySem.Calls.spliced_nil
abbrev aar:=@List.ext_getElem?
abbrev aas:=@PySem.Paired.length
abbrev aat:=@Option.isSome_iff_exists
abbrev aau:=@PySem.AutoSeq1.wpAny_loadPart'
abbrev aav:=@PySem.plainObj_wpAny_Assign_Attribute
abbrev aaw:=@PyProof.Rows.slot_tuple_getitem
abbrev aax:=@List.filterMap_cons
abbrev aay:=@List.cons_append
abbrev aaz:=@PySem.wpAny_getItem_str_slice
abbrev aaA:=@PySem.F.attr_ValueError
abbrev aaB:=@List.length_eq_zero_iff
abbrev aaC:=@Nat.log2_le_self
abbrev aaD:=@PySem.sizeLine_eq
abbrev aaE:=@List.take_append_of_le_length
abbrev aaF:=@PySem.wpAny_pyIter_tuple
abbrev aaG:=@PySem.Calls.callWith_builtin
abbrev aaH:=@Int.natCast_nonneg
abbrev aaI:=@List.of_mem_zip
abbrev aaJ:=@List.nil_append
abbrev aaK:=@PyProof.Rows.get?_update_seq
abbrev aaL:=@Option.map_some
abbrev aaM:=@PySem.wpAny_standAt
abbrev aaN:=@Array.getElem?_toList
abbrev aaO:=@PyProof.Rows.KeyOrd.kle_of_klt
abbrev aaP:=@Bool.not_eq_true'
abbrev aaQ:=@PySem.codeAny_call_builtin
abbrev aaR:=@PySem.W.looks_findIn
abbrev aaS:=@PySem.codeAny_mono
abbrev aaT:=@List.length_take
abbrev aaU:=@Nat.lt_or_ge
abbrev aaV:=@PySem.F.args_tuple_add_2
abbrev aaW:=@List.any_cons
abbrev aaX:=@Bool.true_and
abbrev aaY:=@PySem.wpAny_execs_nil
abbrev aaZ:=@List.length_set
abbrev aa0:=@List.foldl_cons
abbrev aa1:=@PySem.wpAny_call
abbrev aa2:=@PySem.tupleKind_room_in1
abbrev aa3:=@Nat.not_lt
abbrev aa4:=@PySem.SeqAt.EqAt.int_int
abbrev aa5:=@Bool.false_and
abbrev aa6:=@Nat.le_of_eq
abbrev aa7:=@decide_eq_true_eq
abbrev aa8:=@Int.pow_succ
abbrev aa9:=@PySem.call_meets
abbrev aa_:=@PySem.wpAny_onRaise
abbrev aba:=@PySem.wpAny_newList
abbrev abb:=@PySem.W.looks_mroIn
open PySem.W (Frag InstAt KitX LeftO any_some callWith_K cellsFrom_some check_slot clsGoodW clsIn codeIn emptyDict findIn findObj findObj_own fnOf handedIn hasDictIn instObj isFn kHook keepIn kia_one kitAny kitOne kitx_dict kitx_list kitx_none kitx_tuple lookIn looks_clsIn looks_find looks_findIn looks_mroIn looseW makesIn methodObj mg_of mroIn nsIn nsOkIn osa_eq plainGet plainGet_of plainOver recOk set_plain specialIn tailIn takerIn takesIn typeIn wideGood xlAt)
noncomputable section
open PySem PySem.Spec PyProof.Rows
set_option Elab.async false
set_option linter.all false
set_option maxRecDepth 100000
namespace L2
def cV (s:Stmt):Arguments:=match s with
 |.FunctionDef _ a _ _ _ _ _ _ _ _=>a
 |_=>{ posonlyargs:=[],args:=[],vararg:=none,kwonlyargs:=[],kw_defaults:=[],kwarg:=none,defaults:=[]}
def cA (s:Stmt):List Stmt:=match s with
 |.FunctionDef _ _ b _ _ _ _ _ _ _=>b
 |_=>[]
def aC (s:Stmt):Scope:=match s with
 |.FunctionDef _ _ _ _ _ _ a _ _ _=>a
 |_=>{ kind:=.function,names:=[],isGenerator:=false,isCoroutine:=false}
def bmV:List Value:=[.type "ValueError",.type "Exception",.type "BaseException",.type "object"]
end L2
namespace M
open L2
def dealt (ns:List Str) (f:Str->Nat) (m:Nat):List (List Str):=(List.range m).map fun k=>ns.filter fun n=>decide (f n=k)
def top (i:Nat):Stmt:=PySem.Challenge.pw_stationrow_k43_tasks_beyond_the_beat.main.body.getD i (.Pass ⟨0,0,0,0⟩)
def KN:Stmt->List Stmt
 |.ClassDef _ _ _ a _ _ _ _ _ _ _=>a
 |_=>[]
def topm (i j:Nat):Stmt:=(KN (top i)).getD j (.Pass ⟨0,0,0,0⟩)
def qv:Program:={ PySem.Challenge.pw_stationrow_k43_tasks_beyond_the_beat with main:={ PySem.Challenge.pw_stationrow_k43_tasks_beyond_the_beat.main with body:=([0,2,3,4,5,6,7,8,9,10,12,13,14,15,16,17,18,19,20,22,24,26,28,29,31,32,33,34,35,37,38,40,41,42,43,45,46,47,48,49,50,51,52,53,54,55,56,57,58,59,60,61,62]:List Nat).map top}}
def en (P:Params) (n:Str) (t:Nat) (v:Value):DictEntry:=⟨PyData.keyHash P n,.str n t,v⟩
def cO (n:Str) (c:Nat) (b:Bool) (a j l k:Nat):Obj:=⟨.type "code",none,.fields #[.str n a,.str n (a+1),.str "/claim/cut.py" (a+2),.int l 0,.int k 0,.int 0 0,.int 0 0,.int 3 0,.ref (c - (bif b then 5 else 3)),.bool true,.int 181 0,.ref (c - (bif b then 4 else 2)),.none,bif b then .ref (c - 3) else .none,bif b then .ref (c - 2) else .none,.ref (c - 1),.int j 0,.int l 0,.str "/claim/cut.py" (j+1)],#[]⟩
def fO (i:Nat) (n m:Str) (t c:Nat):Obj:=⟨.type "function",none,.func (fnOf n n (cV (top i)) (cA (top i)) (aC (top i)) .none .none .none (.str m t) none (.ref c) .none),#[]⟩
abbrev mlw:Str := "law_stationrow_k43_tasks_beyond_the_beat"
def fx (i:Nat) (n m:Str) (t c:Nat) (b:Bool) (a j l k:Nat):(Params->DictEntry) × Frag:=(fun P=>en P n (j+2) (.ref (c+1)),[(c,cO n c b a j l k),(c+1,fO i n m t c)])
def TB:List ((Params->DictEntry) × Frag):=[fx 0 "_wall" "__main__" 164 20 true 187 191 1 1,
 fx 2 "links_of" "stationrow.chains" 194 27 true 196 204 5 1,
 fx 3 "reached" "stationrow.chains" 194 34 true 207 216 12 2,
 fx 4 "led_to" "stationrow.chains" 194 41 true 219 224 22 2,
 fx 5 "led_from" "stationrow.chains" 194 46 false 227 230 24 2,
 fx 6 "in_both" "stationrow.chains" 194 51 false 233 236 26 3,
 fx 7 "in_first_alone" "stationrow.chains" 194 56 false 239 242 28 3,
 fx 8 "group_of" "stationrow.chains" 194 63 true 245 250 30 2,
 fx 9 "groups_of" "stationrow.chains" 194 70 true 253 260 32 1,
 fx 10 "ahead_of" "stationrow.chains" 194 77 true 263 268 39 2,
 (fun P=>en P "RowError" 290 (.ref 88),[]),
 (fun P=>en P "NoRow" 315 (.ref 108),[]),
 (fun P=>en P "Twice" 340 (.ref 127),[]),
 (fun P=>en P "NoTask" 365 (.ref 146),[]),
 (fun P=>en P "Ring" 390 (.ref 165),[]),
 (fun P=>en P "Torn" 417 (.ref 184),[]),
 (fun P=>en P "NoStand" 442 (.ref 203),[]),
 (fun P=>en P "TooLong" 469 (.ref 222),[]),
 (fun P=>en P "NoRoom" 485 (.ref 234),[]),
 fx 22 "may_be_done" "stationrow.checks" 486 242 true 488 493 77 2,
 fx 24 "names_of" "stationrow.texts" 496 247 false 498 501 80 1,
 fx 26 "load_of" "stationrow.dealings" 504 252 false 506 509 83 2,
 fx 28 "number_of" "stationrow.sets" 512 259 true 514 522 86 2,
 fx 29 "tasks_of" "stationrow.sets" 512 266 true 525 533 94 2,
 fx 31 "apart_from" "stationrow.fillings" 536 271 false 538 541 103 2,
 fx 32 "rules_of" "stationrow.fillings" 536 278 true 544 556 105 1,
 fx 33 "has_all" "stationrow.fillings" 536 285 true 559 564 114 2,
 fx 34 "is_filling_number" "stationrow.fillings" 536 292 true 567 582 116 5,
 fx 35 "greatest_numbers" "stationrow.fillings" 536 297 false 585 588 128 1,
 fx 37 "parts_of" "stationrow.walks" 591 302 false 593 596 135 1,
 (fun P=>en P "Walk" 660 (.ref 344),[]),
 fx 40 "ways_behind" "stationrow.dealt" 661 354 true 663 673 167 3,
 fx 41 "dealing_to" "stationrow.dealt" 661 361 true 676 685 173 3,
 fx 42 "check_groups" "stationrow.dealt" 661 368 true 688 695 181 2,
 fx 43 "fewest_stands" "stationrow.dealt" 661 375 true 698 705 186 2,
 fx 45 "_law_cell" mlw 708 382 true 710 720 194 2,
 fx 46 "_law_word" mlw 708 389 true 723 731 206 1,
 fx 47 "_law_unlike" mlw 708 396 true 734 741 214 1,
 fx 48 "_law_pool" mlw 708 403 true 744 750 222 1,
 fx 49 "_law_task" mlw 708 410 true 753 769 228 4,
 fx 50 "_law_links" mlw 708 415 false 772 775 247 3,
 fx 51 "_law_works" mlw 708 420 false 778 781 272 3,
 fx 52 "_law_loads" mlw 708 427 true 784 792 289 2,
 fx 53 "_law_beat" mlw 708 432 false 795 798 294 3,
 fx 54 "_law_drawn" mlw 708 439 true 801 809 301 3,
 fx 55 "_law_whole" mlw 708 446 true 812 816 304 1,
 fx 56 "_law_right" mlw 708 451 false 819 822 306 3,
 fx 57 "_law_is_dealing" mlw 708 456 false 825 828 327 4,
 fx 58 "_law_chained" mlw 708 461 false 831 834 337 1,
 fx 59 "_law_groups" mlw 708 466 false 837 840 359 1,
 fx 60 "_law_told" mlw 708 473 true 843 851 368 2,
 fx 61 "_law_is_pair" mlw 708 480 true 854 861 384 4,
 fx 62 "law" mlw 708 485 false 864 867 388 1]
def wcO (C N t u:Nat):Obj:=⟨.type "type",none,.cls { name:="Walk",bases:=[.type "object"],mro:=[.ref C,.type "object"],ns:=N,qualname:="Walk"},#[none,none,some (.str "Walk" t),some (.str "Walk" u),some (.builtin "object.__new__"),some (.bool true)]⟩
def nsO (P:Params) (a:List (Str × Nat × Value)) (k:Nat):Obj:=⟨.type "dict",none,.dict (a.map fun e=>en P e.1 e.2.1 e.2.2).toArray k,#[]⟩
def xcO (C N:Nat) (n:Str) (c mro b:List Value) (a t u:Nat):Obj:=⟨.type "type",none,.cls { name:=n,bases:=c,mro:=.ref C::mro,ns:=N,qualname:=n,subclasses:=b},#[some (.ref a),none,some (.str n t),some (.str n u),some (.builtin "ValueError.__new__"),some (.bool true)]⟩
def cQ (n q:Str) (c:Nat) (b:Bool) (a j l k:Nat):Obj:=⟨.type "code",none,.fields #[.str n a,.str q (a+1),.str "/claim/cut.py" (a+2),.int l 0,.int k 0,.int 0 0,.int 0 0,.int 3 0,.ref (c - (bif b then 5 else 3)),.bool true,.int 181 0,.ref (c - (bif b then 4 else 2)),.none,bif b then .ref (c - 3) else .none,bif b then .ref (c - 2) else .none,.ref (c - 1),.int j 0,.int l 0,.str "/claim/cut.py" (j+1)],#[]⟩
def fQ (st:Stmt) (n q m:Str) (t c:Nat):Obj:=⟨.type "function",none,.func (fnOf n q (cV st) (cA st) (aC st) .none .none .none (.str m t) none (.ref c) .none),#[]⟩
def KC (P:Params):Frag:=[(87,nsO P [("__module__",280,.str "stationrow.errors" 271),("__firstlineno__",284,.int 42 283),("__static_attributes__",285,.ref 86),("__weakref__",287,.ref 89),("__doc__",288,.none)] 3),
 (88,xcO 88 87 "RowError" [.type "ValueError"] bmV [.ref 108,.ref 127,.ref 146,.ref 165,.ref 184,.ref 203,.ref 222,.ref 234] 79 273 281),
 (107,nsO P [("__module__",298,.str "stationrow.errors" 271),("__firstlineno__",302,.int 44 301),("__init__",310,.ref 105),("__static_attributes__",312,.ref 106),("__doc__",313,.none)] 2),
 (108,xcO 108 107 "NoRow" [.ref 88] [.ref 88,.type "ValueError",.type "Exception",.type "BaseException",.type "object"] [] 92 291 299),
 (126,nsO P [("__module__",323,.str "stationrow.errors" 271),("__firstlineno__",327,.int 48 326),("__init__",335,.ref 124),("__static_attributes__",337,.ref 125),("__doc__",338,.none)] 2),
 (127,xcO 127 126 "Twice" [.ref 88] [.ref 88,.type "ValueError",.type "Exception",.type "BaseException",.type "object"] [] 111 316 324),
 (145,nsO P [("__module__",348,.str "stationrow.errors" 271),("__firstlineno__",352,.int 52 351),("__init__",360,.ref 143),("__static_attributes__",362,.ref 144),("__doc__",363,.none)] 2),
 (146,xcO 146 145 "NoTask" [.ref 88] [.ref 88,.type "ValueError",.type "Exception",.type "BaseException",.type "object"] [] 130 341 349),
 (164,nsO P [("__module__",373,.str "stationrow.errors" 271),("__firstlineno__",377,.int 56 376),("__init__",385,.ref 162),("__static_attributes__",387,.ref 163),("__doc__",388,.none)] 2),
 (165,xcO 165 164 "Ring" [.ref 88] [.ref 88,.type "ValueError",.type "Exception",.type "BaseException",.type "object"] [] 149 366 374),
 (183,nsO P [("__module__",398,.str "stationrow.errors" 271),("__firstlineno__",402,.int 60 401),("__init__",411,.ref 181),("__static_attributes__",414,.ref 182),("__doc__",415,.none)] 2),
 (184,xcO 184 183 "Torn" [.ref 88] [.ref 88,.type "ValueError",.type "Exception",.type "BaseException",.type "object"] [] 168 391 399),
 (202,nsO P [("__module__",425,.str "stationrow.errors" 271),("__firstlineno__",429,.int 65 428),("__init__",437,.ref 200),("__static_attributes__",439,.ref 201),("__doc__",440,.none)] 2),
 (203,xcO 203 202 "NoStand" [.ref 88] [.ref 88,.type "ValueError",.type "Exception",.type "BaseException",.type "object"] [] 187 418 426),
 (218,cQ "__init__" "TooLong.__init__" 218 true 455 461 71 3),
 (219,fQ (topm 19 0) "__init__" "TooLong.__init__" "stationrow.errors" 271 218),
 (221,nsO P [("__module__",450,.str "stationrow.errors" 271),("__firstlineno__",454,.int 69 453),("__init__",463,.ref 219),("__static_attributes__",466,.ref 220),("__doc__",467,.none)] 2),
 (222,xcO 222 221 "TooLong" [.ref 88] [.ref 88,.type "ValueError",.type "Exception",.type "BaseException",.type "object"] [] 206 443 451),
 (233,nsO P [("__module__",477,.str "stationrow.errors" 271),("__firstlineno__",481,.int 74 480),("__static_attributes__",482,.ref 232),("__doc__",483,.none)] 2),
 (234,xcO 234 233 "NoRoom" [.ref 88] [.ref 88,.type "ValueError",.type "Exception",.type "BaseException",.type "object"] [] 225 470 478),
 (316,cQ "__init__" "Walk.__init__" 316 true 611 617 145 3),
 (317,fQ (topm 38 0) "__init__" "Walk.__init__" "stationrow.walks" 591 316),
 (321,cQ "fillings_at" "Walk.fillings_at" 321 false 620 623 151 3),
 (322,fQ (topm 38 1) "fillings_at" "Walk.fillings_at" "stationrow.walks" 591 321),
 (328,cQ "greatest_at" "Walk.greatest_at" 328 true 626 632 158 3),
 (329,fQ (topm 38 2) "greatest_at" "Walk.greatest_at" "stationrow.walks" 591 328),
 (340,cQ "dealing_of" "Walk.dealing_of" 340 false 643 646 164 2),
 (341,fQ (topm 38 4) "dealing_of" "Walk.dealing_of" "stationrow.walks" 591 340),
 (343,nsO P [("__module__",606,.str "stationrow.walks" 591),("__firstlineno__",610,.int 143 609),("__init__",619,.ref 317),("fillings_at",625,.ref 322),("greatest_at",634,.ref 329),("load_at",642,.ref 336),("dealing_of",648,.ref 341),("__static_attributes__",653,.ref 342),("__dict__",655,.ref 345),("__weakref__",657,.ref 346),("__doc__",658,.none)] 4),
 (344,wcO 344 343 599 607)]
def KK (P:Params):Frag:=(3,⟨.type "dict",none,.dict ([en P "__name__" 165 (.str mlw 708),
 en P "__doc__" 166 .none,
 en P "__package__" 167 .none,
 en P "__loader__" 168 (.builtin "__main__.__loader__#opaque"),
 en P "__spec__" 169 .none,
 en P "__annotations__" 170 (.ref 6),
 en P "__builtins__" 171 (.ref 4),
 en P "__file__" 173 (.str "/claim/cut.py" 172),
 en P "__cached__" 174 .none]++TB.map fun r=>r.1 P).toArray 62,#[]⟩)::(TB.map fun r=>r.2).flatten++KC P
def HK:PySem.W.Hook:=kHook KK [3,20,21,27,28,34,35,41,42,46,47,51,52,56,57,63,64,70,71,77,78,242,243,247,248,252,253,259,260,266,267,271,272,278,279,285,286,292,293,297,298,302,303,354,355,361,362,368,369,375,376,382,383,389,390,396,397,403,404,410,411,415,416,420,421,427,428,432,433,439,440,446,447,451,452,456,457,461,462,466,467,473,474,480,481,485,486,87,88,107,108,126,127,145,146,164,165,183,184,202,203,218,219,221,222,233,234,316,317,321,322,328,329,340,341,343,344] (fun _=>by kernel_rfl)
def zqR (tb:String->Option Builtin) (p:Program) (w:World) (n:Nat) (a:Option Value):Nat->PySem.W.SharedT->Thread->Option PySem.W.SharedT
 |0,_,_=>none
 |m+1,s,t=>match PySem.W.through t with
  |true=>some s
  |false=>match PySem.W.stepOk n a t with
   |false=>none
   |true=>match PySem.W.stepT (denote tb) p w s t with
    |some (s',t')=>zqR tb p w n a m s' t'
    |none=>none
def zqT {tb:String->Option Builtin}{p:Program}{w:World}{k:Nat}{a:Option Value}:∀{n:Nat}{s s':PySem.W.SharedT}{t:Thread},zqR tb p w k a n s t=some s'->PySem.W.topRun tb p w k a n s.abs t=some s'.abs
 |0,_,_,_,h=>by cases h
 |n+1,s,s',t,h=>by
  unfold zqR at h
  unfold PySem.W.topRun
  cases he:PySem.W.through t with
  |true=>rw [he] at h;cases h;rfl
  |false=>
   rw [he] at h
   cases hk:PySem.W.stepOk k a t with
   |false=>rw [hk] at h;cases h
   |true=>
    rw [hk] at h
    cases hs:PySem.W.stepT (denote tb) p w s t with
    |none=>rw [hs] at h;cases h
    |some r=>obtain ⟨s₂,t₂⟩:=r;rw [hs] at h;rw [PySem.W.stepT_spec hs];exact zqT h
def zqb:List Obj->PySem.W.BT->Nat->Option PySem.W.BT
 |[],t,_=>some t
 |o::l,t,n=>match ((t.ins n o).get n).isSome with
  |true=>zqb l (t.ins n o) (n+1)
  |false=>none
def zqc {f:Life}:∀{l:List Obj}{t t':PySem.W.BT}{n:Nat},zqb l t n=some t'->(PySem.W.absHeap t' (n+l.length) f).objs.toList=(PySem.W.absHeap t n f).objs.toList++l
 |[],_,_,_,h=>by cases h;simp
 |o::l,t,t',n,h=>by
  unfold zqb at h
  cases e:((t.ins n o).get n).isSome with
  |false=>rw [e] at h;cases h
  |true=>
   rw [e] at h
   have k:=zqc (f:=f) h
   rw [PySem.W.absHeap_ins e] at k
   rw [List.length_cons,show n+(l.length+1)=n+1+l.length by omega,k]
   simp [Heap.push]
def zqd {s:Shared}{t:PySem.W.BT}(h:zqb s.heap.objs.toList .nil 0=some t):(⟨t,s.heap.objs.size,s.heap.life,s.gens,s.drawn,s.toks,s.os⟩:PySem.W.SharedT).abs=s:=by
 obtain ⟨⟨o,f⟩,g,d,k,z⟩:=s
 have e:=zqc (f:=f) h
 have q:(PySem.W.absHeap t o.size f).objs=o:=Array.toList_inj.mp (by rw [show o.size=0+o.toList.length by simp];exact e.trans (by simp [PySem.W.absHeap,PySem.W.BT.list]))
 show Shared.mk ⟨(PySem.W.absHeap t o.size f).objs,f⟩ g d k z=_
 rw [q]
def zqE (p:Program) (w:World) (N:Nat):Option PySem.W.SharedT:=(PySem.W.fencedOpening treeTable p w N).bind fun s=>match s.heap.isNs mainGlobals&&s.gens.size==0 with
 |true=>(zqb s.heap.objs.toList .nil 0).bind fun t=>(zqR treeTable p w s.heap.objs.size (s.heap.nsMap mainGlobals "__annotations__") N ⟨t,s.heap.objs.size,s.heap.life,s.gens,s.drawn,s.toks,s.os⟩ (PySem.W.topStub p)).bind fun z=>match PySem.W.staticsOk (importedModules p.main.body) s.heap z.abs.heap&&PySem.W.namesBound p z.abs.heap&&PySem.W.gensDone z.abs&&PySem.W.laidKept s.heap z.abs.heap with
  |true=>some z
  |false=>none
 |false=>none
def zqF {p:Program}{w:World}{N:Nat}{z:PySem.W.SharedT}(h:zqE p w N=some z):PySem.W.openEnds treeTable p w N=some z.abs:=by
 obtain ⟨s,a,h⟩:=Option.bind_eq_some_iff.mp h
 refine Option.bind_eq_some_iff.mpr ⟨s,a,?_⟩
 unfold PySem.W.topFrom
 split at h
 ·rename_i q
  obtain ⟨t,b,h⟩:=Option.bind_eq_some_iff.mp h
  obtain ⟨x,c,h⟩:=Option.bind_eq_some_iff.mp h
  have c:=zqT c
  rw [zqd b] at c
  rw [q]
  refine Option.bind_eq_some_iff.mpr ⟨x.abs,c,?_⟩
  split at h
  ·rename_i y
   cases h
   rw [y]
  ·cases h
 ·cases h
def zqL {p:Program}{w:World}{N:Nat}{α:Type}{f:Shared->α}{a:α}(h:(zqE p w N).map (fun z=>f z.abs)=some a):(PySem.W.openEnds treeTable p w N).map f=some a:=by
 obtain ⟨s,a,h⟩:=Option.map_eq_some_iff.mp h
 rw [zqF a]
 exact congrArg some h
def lO (w:World):=PySem.W.openEnds treeTable (PySem.W.OpenLaw.row PySem.Challenge.rw_stationrow_k43_tasks_beyond_the_beat).prog w 7840
abbrev lX (s:Shared):Bool:=xlAt qv [] s&&recOk (PySem.W.RowW.records (PySem.W.OpenLaw.row PySem.Challenge.rw_stationrow_k43_tasks_beyond_the_beat).toRowW) s
def lS (s:Shared):=PySem.W.openSeen qv [] (importedModules (PySem.W.OpenLaw.row PySem.Challenge.rw_stationrow_k43_tasks_beyond_the_beat).prog.main.body) (fun s=>lX s) true s
def map3 {b h c e:Type}{o:Option b}{f:b->h × c}{g:b->e}{a:h × c}{d:e}(i:o.map (fun s=>(f s).1)=some a.1) (k:o.map (fun s=>(f s).2)=some a.2) (j:o.map g=some d):o.map (fun s=>(f s,g s))=some (a,d):=by
 cases o with
 |none=>cases i
 |some s=>exact W_ some (Prod.ext (Prod.ext (O_ i) (O_ k)) (O_ j))
def left1 (w:World):(lO w).map (fun s=>(lS s).1)=some (expectedOf qv):=zqL (by kernel_rfl)
def map2 {g d c:Type}{o:Option g}{f:g->d × c}{a:d}{b:c}(e:o.map (fun s=>(f s).1)=some a) (h:o.map (fun s=>(f s).2)=some b):o.map f=some (a,b):=by
 cases o with
 |none=>cases e
 |some s=>exact W_ some (Prod.ext (O_ e) (O_ h))
def left4 (w:World):(lO w).map (fun s=>(lS s).2.1)=some bltViewBooted:=zqL (by kernel_rfl)
def left5 (w:World):(lO w).map (fun s=>(lS s).2.2.1)=some true:=zqL (by kernel_rfl)
def left6 (w:World):(lO w).map (fun s=>(lS s).2.2.2.1)=some true:=zqL (by kernel_rfl)
def left7 (w:World):(lO w).map (fun s=>(lS s).2.2.2.2)=some (pinGoodD (drecsOf qv),plainGoodE qv (looseW qv []),plainGoodD qv [],wideGood qv,clsGoodW qv []):=zqL (by kernel_rfl)
def left2 (w:World):(lO w).map (fun s=>(lS s).2)=some (bltViewBooted,true,true,pinGoodD (drecsOf qv),plainGoodE qv (looseW qv []),plainGoodD qv [],wideGood qv,clsGoodW qv []):=map2 (f:=fun s=>(lS s).2) (left4 w) (map2 (f:=fun s=>(lS s).2.2) (left5 w) (map2 (f:=fun s=>(lS s).2.2.2) (left6 w) (left7 w)))
def left3 (w:World):(lO w).map (PySem.W.Hook.obs HK)=some (PySem.W.Hook.val HK w):=zqL (by kernel_rfl)
def left:LeftO (PySem.W.OpenLaw.row PySem.Challenge.rw_stationrow_k43_tasks_beyond_the_beat).prog qv [] (fun s=>lX s) (PySem.W.Hook.obs HK) (PySem.W.Hook.val HK) 7840:=fun w=>map3 (o:=lO w) (f:=lS) (g:=PySem.W.Hook.obs HK) (left1 w) (left2 w) (left3 w)
end M
namespace L2
abbrev Key:=Sum Int Str
def oF:Key->Value->Bool
 |.inl k,v=>Value.isInt k v
 |.inr x,v=>Value.isStrOf x v
def Xc (w:World):Key->Int
 |.inl k=>hashInt k
 |.inr x=>hashStr w x
def bQ:∀{k:Key}{v:Value},oF k v=true->(∃i t,k=Sum.inl i/\v=Value.int i t)\/(∃x t,k=Sum.inr x/\v=Value.str x t)
 |.inl i,v,h=>by
  obtain⟨t,e⟩:=Value.isInt_shape (k:=i) (v:=v) h
  exact .inl ⟨i,t,rfl,e⟩
 |.inr x,v,h=>by
  obtain⟨t,e⟩:=Value.isStrOf_shape (x:=x) (v:=v) h
  exact .inr ⟨x,t,rfl,e⟩
def yU (i:Int) (t:Tok):oF (.inl i) (.int i t)=true:=by simp [oF,Value.isInt]
def yV (x:Str) (t:Tok):oF (.inr x) (.str x t)=true:=by simp [oF,Value.isStrOf]
def Nj (a b:Int):decide ((Sum.inl a:Key)=Sum.inl b)=(a==b):=by
 by_cases e:a=b
 ·subst e;simp
 have h:¬(Sum.inl a:Key)=Sum.inl b:=fun q=>e (Sum.inl.inj q);rw[H_ h];exact (YZ.mpr e).symm
def Nk (a b:Str):decide ((Sum.inr a:Key)=Sum.inr b)=decide (a=b):=by
 by_cases e:a=b
 ·subst e;simp
 have h:¬(Sum.inr a:Key)=Sum.inr b:=fun q=>e (Sum.inr.inj q);rw[H_ h,H_ e]
def Nm (a:Int) (b:Str):decide ((Sum.inl a:Key)=Sum.inr b)=false:=H_ (fun q=>nomatch q)
def Np (a:Str) (b:Int):decide ((Sum.inr a:Key)=Sum.inl b)=false:=H_ (fun q=>nomatch q)
def bK (prog:Program) (w:World):PySem.KeyKind prog w Key where
 is:=oF
 hash:=Xc w
 inj:=fun v a b g d=>by
  rcases bQ g with ⟨i,t,rfl,rfl⟩ | ⟨x,t,rfl,rfl⟩
  ·
   rcases bQ d with ⟨j,u,rfl,e⟩ | ⟨y,u,rfl,e⟩
   ·
    injection e with e1 _;rw[e1]
   ·
    exact nomatch e
  ·
   rcases bQ d with ⟨j,u,rfl,e⟩ | ⟨y,u,rfl,e⟩
   ·
    exact nomatch e
   ·
    injection e with e1 _;rw[e1]
 byValue:=fun k v h=>by
  rcases bQ h with ⟨i,t,rfl,rfl⟩ | ⟨x,t,rfl,rfl⟩ <;> rfl
 pyHash:=fun c h=>by
  rcases bQ c with ⟨i,t,rfl,rfl⟩ | ⟨x,t,rfl,rfl⟩
  ·
   exact wpAny_pyHash_int h
  ·
   exact wpAny_pyHash_str h
 eqBool:=fun f c h=>by
  rcases bQ f with ⟨i,t,rfl,rfl⟩ | ⟨x,t,rfl,rfl⟩
  ·
   rcases bQ c with ⟨j,u,rfl,rfl⟩ | ⟨y,u,rfl,rfl⟩
   ·
    rw[Nj] at h;exact wpAny_eqBool_int h
   ·
    rw[Nm] at h;exact SeqAt.EqAt.int_str i t y u _ _ _ _ h
  ·
   rcases bQ c with ⟨j,u,rfl,rfl⟩ | ⟨y,u,rfl,rfl⟩
   ·
    rw[Np] at h;exact SeqAt.EqAt.str_int x t j u _ _ _ _ h
   ·
    rw[Nk] at h;exact wpAny_eqBool_str h
 «strs»:=fun k x t v h=>by
  rcases bQ h with ⟨i,u,rfl,e⟩ | ⟨y,u,rfl,e⟩
  ·
   exact nomatch e
  ·
   injection e with e1 _
   subst e1
   cases v <;> rfl
def rm (prog:Program) (w:World) (i:Int) (t:Tok):(bK prog w).is (.inl i) (.int i t)=true:=yU i t
def rA (prog:Program) (w:World) (x:Str) (t:Tok):(bK prog w).is (.inr x) (.str x t)=true:=yV x t
inductive V where
 |non | bl (b:Bool) | int (i:Int) | str (x:Str) | byt (b:Array UInt8) | flt (b:UInt64) | ref (a:Addr) | ty (n:String)
 deriving DecidableEq
def RelV:V->Value->Prop
 |.non,u=>u=Value.none
 |.bl b,u=>u=Value.bool b
 |.int i,u=>∃t,u=Value.int i t
 |.str x,u=>∃t,u=Value.str x t
 |.byt b,u=>∃t,u=Value.bytes b t
 |.flt b,u=>∃t,u=Value.float b t
 |.ref a,u=>u=Value.ref a
 |.ty n,u=>u=Value.type n
abbrev Vals:List V->List Value->Prop:=Paired RelV
def Vals.length (r:Vals xs us):xs.length=us.length:=aas r
def Vals.get:∀{xs:List V}{us:List Value}{i:Nat}{x:V},Vals xs us->xs[i]?=some x->∃u,us[i]?=some u/\RelV x u
 |_,_,_,_,.nil,e=>by simp at e
 |_,_,0,_,.cons r _,e=>by simp at e;subst e;exact⟨_,rfl,r⟩
 |_,_,i+1,x,.cons _ t,e=>by
  obtain⟨u,b,a⟩:=Vals.get (i:=i) (x:=x) t (by simpa using e)
  exact⟨u,by simpa using b,a⟩
def Vals.set (r:RelV x u):∀{xs:List V}{us:List Value}(i:Nat),Vals xs us->Vals (xs.set i x) (us.set i u)
 |_,_,_,.nil=>.nil
 |_,_,0,.cons _ t=>.cons r t
 |_,_,i+1,.cons q t=>.cons q (Vals.set r i t)
def Vals.append:∀{xs a:List V}{us ws:List Value},Vals xs us->Vals a ws->Vals (xs++a) (us++ws)
 |_,_,_,_,.nil,s=>s
 |_,_,_,_,.cons r t,s=>.cons r (Vals.append t s)
def Vals.take:∀{xs:List V}{us:List Value}(n:Nat),Vals xs us->Vals (xs.take n) (us.take n)
 |_,_,0,_=>.nil
 |_,_,_+1,.nil=>.nil
 |_,_,n+1,.cons r t=>.cons r (Vals.take n t)
def Vals.drop:∀{xs:List V}{us:List Value}(n:Nat),Vals xs us->Vals (xs.drop n) (us.drop n)
 |_,_,0,r=>r
 |_,_,_+1,.nil=>.nil
 |_,_,n+1,.cons _ t=>Vals.drop n t
def RelO:Option V->Option Value->Prop
 |some v,some u=>RelV v u
 |none,none=>True
 |_,_=>False
def KV {a:Type}:List (a × V)->List (a × Value)->Prop:=Paired fun (p:a × V) (q:a × Value)=>p.1=q.1/\RelV p.2 q.2
def kV:Key->V
 |.inl i=>.int i
 |.inr x=>.str x
inductive HO where
 |lst (xs:List V)
 |tup (xs:List V)
 |dK (kvs:List (Key × V)) | dT (kvs:List (List Key × V))
 |set (S:Int->Bool) (n:Nat)
 |ins (C dx:Addr) (fs:List (Str × V))
 |own (x:Addr)
 |xd (fs:List (Str × V))
 |met (f x:Addr)
 |rng (lo hi:Int)
 |frz (o:Obj) (u:HO)
 |tbl (ps:Array Value)
 |ext (φ:Heap->Prop)
abbrev Hp:=Addr->Option HO
def upd (H:Hp) (a:Addr) (o:HO):Hp:=fun b=>if b=a then some o else H b
def aY:upd H a o a=some o:=by unfold upd;rw[if_pos rfl]
def aL (h:b≠a):upd H a o b=H b:=by unfold upd;rw[if_neg h]
def Ha:upd (upd H a o) a u=upd H a u:=by
 funext b;unfold upd;split <;> rfl
def S6 {H:Hp} (h:H a=some o) (h':H b=some u) (d:o≠u):a≠b:=by
 intro e;subst e;rw[h] at h';exact d (O_ h')
def cC {H:Hp} (h:H a=some o) (h':H b=none):a≠b:=by
 intro e;subst e;rw[h] at h';cases h'
def Tup0 (h:Heap) (a:Addr) (b:Array Value):Prop:=∃o,h.get? a=some o/\o.cls=.type "tuple"/\∃n,o.data=.seq b n/\o.dict=none
def Tup0.is (x:Tup0 h a b):IsTup h a b:=by
 obtain⟨o,c,e,n,d,_⟩:=x;exact⟨o,c,e,n,d⟩
def Tup0.new (h:Heap) (a:Array Value):Tup0 (h.push { cls:=.type "tuple",data:=.seq a}) h.objs.size a:=⟨_,o_ _ rfl,rfl,_,rfl,rfl⟩
section
variable (P:Program)(w:World)
def ObjOk (H:Hp) (h:Heap) (a:Addr):HO->Prop
 |.lst xs=>xs.length<=sizeLine/\∃(b:List Value) (n:Nat),Vals xs b/\h.get? a=some { cls:=.type "list",data:=.seq b.toArray n}
 |.tup xs=>xs.length<=sizeLine/\∃b:List Value,Vals xs b/\Tup0 h a b.toArray
 |.dK kvs=>kvs.length<=sizeLine/\(a==sysModules)=false/\∃vs,KV kvs vs/\h.DictOf (bK P w) a vs
 |.dT kvs=>kvs.length<=sizeLine/\(a==sysModules)=false/\∃xs:List (List Key × Addr × Value),
   Paired (fun (p:List Key × V) (q:List Key × Addr × Value)=>p.1=q.1/\H q.2.1=some (.tup (p.1.map kV))/\RelV p.2 q.2.2) kvs xs /\
   ∃o g ep,h.get? a=some o/\o.ExactDict/\o.data=.dict g ep/\g.toList=xs.map (entryOfKey (tupleKind (bK P w)))/\(xs.map (·.1)).Nodup
 |.set S n=>h.SetOf (intKind P w) a S n
 |.ins C c fs=>H c=some (.own a)/\fs.length<=1000/\c≠a/\h.get? a=some (instObj C c) /\
   ∃mA,h.Ns1 c mA/\(∀f,RelO (fs.lookup f) (mA f))/\PySem.Within mA (fs.map (·.1))
 |.own _=>∃o,h.get? a=some o
 |.xd fs=>∃mA,h.Ns1 a mA/\∀f,RelO (fs.lookup f) (mA f)
 |.rng k j=>∃t u v,h.get? a=some { cls:=.type "range",data:=.fields #[.int k t,.int j u,.int 1 v]}
 |.frz o u=>h.get? a=some o/\ObjOk H h a u
 |.tbl i=>h.get? a=some { cls:=.none,data:=.fields i}
 |.met f x=>h.get? a=some (methodObj (.ref f) (.ref x))
 |.ext φ=>φ h/\(∃o,h.get? a=some o)/\∀d e:Heap,φ d->(∀o,d.get? a=some o->e.get? a=some o)->φ e
def HOk (H:Hp) (h:Heap):Prop:=∀a o,H a=some o->ObjOk P w H h a o
end
section
variable {P:Program}{w:World}{a:Addr}
def ObjOk.lt (x:ObjOk P w H h a o):a<h.objs.size:=by
 cases o with
 |lst xs=>obtain⟨_,_,_,_,e⟩:=x;exact p_ e
 |tup xs=>obtain⟨_,_,_,p⟩:=x;exact p.is.lt
 |dK kvs=>obtain⟨_,_,_,_,o,_,_,e,_⟩:=x;exact p_ e
 |dT kvs=>obtain⟨_,_,_,_,o,_,_,e,_⟩:=x;exact p_ e
 |set S n=>obtain⟨o,_,_,_,e,_⟩:=x;exact p_ e
 |ins C d fs=>obtain⟨_,_,_,e,_⟩:=x;exact p_ e
 |own y=>obtain⟨_,e⟩:=x;exact p_ e
 |xd fs=>obtain⟨_,⟨_,_,_,e,_⟩,_⟩:=x;exact p_ e
 |rng i g=>obtain⟨_,_,_,e⟩:=x;exact p_ e
 |frz c u=>obtain⟨e,_⟩:=x;exact p_ e
 |tbl b=>exact p_ (show h.get? a=some _ from x)
 |met f y=>exact p_ (show h.get? a=some _ from x)
 |ext φ=>obtain⟨_,⟨_,e⟩,_⟩:=x;exact p_ e
def Paired.mapP:∀{l₁:List d}{l₂:List c},Paired F l₁ l₂->(∀a b,F a b->G a b)->Paired G l₁ l₂
 |_,_,.nil,_=>.nil
 |_,_,.cons r t,f=>.cons (f _ _ r) (Paired.mapP t f)
def ObjOk.stay (x:ObjOk P w H h a o) (k:∀b u,(b=a\/H b=some (.own a))->h.get? b=some u->h'.get? b=some u)
  (s:∀b,H b=some (.own a)->H' b=some (.own a)) (B:∀b xs,H b=some (.tup xs)->H' b=some (.tup xs)):ObjOk P w H' h' a o:=by
 induction o with
 |lst xs=>obtain⟨z,j,n,r,e⟩:=x;exact⟨z,j,n,r,k _ _ (.inl rfl) e⟩
 |tup xs=>obtain⟨z,j,r,g,e,c⟩:=x;exact⟨z,j,r,g,k _ _ (.inl rfl) e,c⟩
 |dK kvs=>obtain⟨z,y,vs,r,g,i,ep,e,c⟩:=x;exact⟨z,y,vs,r,g,i,ep,k _ _ (.inl rfl) e,c⟩
 |dT kvs=>obtain⟨z,y,xs,r,g,i,ep,e,c⟩:=x;exact⟨z,y,xs,Paired.mapP r fun p q z=>⟨z.1,B _ _ z.2.1,z.2.2⟩,g,i,ep,k _ _ (.inl rfl) e,c⟩
 |set S n=>obtain⟨g,i,ep,t,e,c⟩:=x;exact⟨g,i,ep,t,k _ _ (.inl rfl) e,c⟩
 |ins C E fs=>obtain⟨d,z,m,e,mA,⟨od,i,ep,D,c⟩,r⟩:=x;exact⟨s _ d,z,m,k _ _ (.inl rfl) e,mA,⟨od,i,ep,k _ _ (.inr d) D,c⟩,r⟩
 |own y=>obtain⟨g,e⟩:=x;exact⟨g,k _ _ (.inl rfl) e⟩
 |xd fs=>obtain⟨mA,⟨od,i,ep,e,c⟩,r⟩:=x;exact⟨mA,⟨od,i,ep,k _ _ (.inl rfl) e,c⟩,r⟩
 |rng G F=>obtain⟨t,u,v,e⟩:=x;exact⟨t,u,v,k _ _ (.inl rfl) e⟩
 |frz g u A=>obtain⟨e,q⟩:=x;exact⟨k _ _ (.inl rfl) e,A q⟩
 |tbl l =>
  have e:h.get? a=some { cls:=.none,data:=.fields l}:=x
  show h'.get? a=some { cls:=.none,data:=.fields l}
  exact k a _ (.inl rfl) e
 |met f y =>
  have e:h.get? a=some (methodObj (.ref f) (.ref y)):=x
  show h'.get? a=some (methodObj (.ref f) (.ref y))
  exact k a _ (.inl rfl) e
 |ext φ=>obtain⟨p,⟨o,e⟩,st⟩:=x;exact⟨st _ _ p fun o q=>k _ _ (.inl rfl) q,⟨o,k _ _ (.inl rfl) e⟩,st⟩
def HOk.lt (x:HOk P w H h) (e:H a=some o):a<h.objs.size:=(x a o e).lt
def HOk.fresh (x:HOk P w H h) (e:h.objs.size<=a):H a=none:=by
 cases q:H a with
 |none=>rfl
 |some u=>exact absurd (K_ (x.lt q) e) (YM _)
def HOk.kept (x:HOk P w H h) (k:∀b u,h.get? b=some u->h'.get? b=some u):HOk P w H h':=fun a o e =>
 (x a o e).stay (fun b u _ q=>k b u q) (fun _ q=>q) fun _ _ q=>q
def HOk.laid (x:HOk P w H h) (k:∀b u,h.get? b=some u->h'.get? b=some u) (i:h.objs.size<=a) (d:ObjOk P w (upd H a o) h' a o):HOk P w (upd H a o) h':=fun b u e=>by
 have f:=x.fresh i;by_cases g:b=a
 ·subst g;rw[aY] at e;cases e;exact d
 rw[aL g] at e;exact (x b u e).stay (fun c v _ q=>k c v q) (fun c q=>by rw[aL (cC q f)];exact q) fun c xs q=>by rw[aL (cC q f)];exact q
end
def Rd (H:Hp) (a:Addr) (u:HO):Prop:=H a=some u\/∃o,H a=some (.frz o u)
def Rd.ok (r:Rd H a u) (x:HOk P w H h):ObjOk P w H h a u:=by
 rcases r with r | ⟨o,r⟩
 ·exact x a u r
 obtain⟨_,q⟩:=x a _ r;exact q
def Mut:Option HO->Prop
 |some (.lst _)=>True
 |some (.dK _)=>True
 |some (.dT _)=>True
 |some (.set _ _)=>True
 |some (.ins _ _ _)=>True
 |some (.ext _)=>True
 |_=>False
section
variable {P:Program}{w:World}
def HOk.write (p:HOk P w H h) (mu:Mut (H x)) (m:e=x\/H e=some (.own x)) (k:∀b u,b≠e->h.get? b=some u->h'.get? b=some u) (l:∃u,h'.get? e=some u)
  (j:ObjOk P w (upd H x o') h' x o'):HOk P w (upd H x o') h':=fun b u q=>by
 have d:∀c y,H c=some (.own y)->c≠x:=fun c y r z=>by subst z;rw[r] at mu;exact mu
 have f:∀c xs,H c=some (.tup xs)->c≠x:=fun c xs r z=>by subst z;rw[r] at mu;exact mu
 by_cases g:b=x
 ·subst g;rw[aY] at q;cases q;exact j
 rw[aL g] at q;by_cases a:b=e
 ·have n:H b=some (.own x):=by
   rcases m with z | z
   ·exact absurd (a.trans z) g
   rw[a];exact z
  rw[q] at n;cases n;obtain⟨v,o⟩:=l;exact⟨v,by rw[a];exact o⟩
 refine (p b u q).stay (fun c v i r=>k c v ?_ r) (fun c r=>by rw[aL (d c b r)];exact r) fun c xs r=>by rw[aL (f c xs r)];exact r
 rcases i with rfl | i
 ·exact a
 rintro rfl;rcases m with z | z
 ·exact d c b i z
 rw[i] at z;cases z;exact g rfl
end
structure Un (fs ex:List Addr) (H H':Hp) (h h':Heap):Prop where
 keep:∀b o,h.get? b=some o->H b=none->b∉fs->b∉ex->h'.get? b=some o
 slot:∀b o,h.get? b=some o->H b=none->b∈fs->b∉ex->∃sl,h'.get? b=some { o with slots:=sl}
 free:∀b o,h.get? b=some o->H b=none->b∉ex->H' b=none
 there:∀b o,h.get? b=some o->b∉ex->∃o',h'.get? b=some o'
 tups:∀b xs,H b=some (.tup xs)->H' b=some (.tup xs)
 frzs:∀b o u,H b=some (.frz o u)->H' b=some (.frz o u)
 tbls:∀b ps,H b=some (.tbl ps)->∃more,H' b=some (.tbl (ps++more))
section
variable {h h1 h2 h':Heap}{a x e:Addr}
def Un.any (u:Un fs ex H H1 h h1) (q:h.get? b=some ob) (n:H b=none) (a:b∉ex):∃d,h1.get? b=some { ob with slots:=d}:=by
 by_cases c:b∈fs
 ·exact u.slot b ob q n c a
 exact⟨ob.slots,u.keep b ob q n c a⟩
def Un.kept (k:∀b u,h.get? b=some u->h'.get? b=some u):Un fs ex H H h h' :=
 ⟨fun b a q _ _ _=>k b a q,fun b a q _ _ _=>⟨a.slots,k b a q⟩,fun _ _ _ n _=>n,fun b a q _=>⟨a,k b a q⟩,fun _ _ q=>q,fun _ _ _ q=>q,fun _ c q=>⟨#[],by rw[q];simp⟩⟩
def Un.refl:Un fs ex H H h h:=Un.kept fun _ _ q=>q
def Un.laid (k:∀b u,h.get? b=some u->h'.get? b=some u) (d:h.objs.size<=a) (c:H a=none):Un fs ex H (upd H a o) h h' where
 keep:=fun b u q _ _ _=>k b u q
 slot:=fun b u q _ _ _=>⟨u.slots,k b u q⟩
 free:=fun b u q n _=>by rw[aL (I_ (K_ (p_ q) d))];exact n
 there:=fun b u q _=>⟨u,k b u q⟩
 tups:=fun b xs q=>by rw[aL (cC q c)];exact q
 frzs:=fun b u xs q=>by rw[aL (cC q c)];exact q
 tbls:=fun b e q=>⟨#[],by rw[aL (cC q c),q];simp⟩
def Un.write (mu:Mut (H x)) (i:e=x\/H e=some (.own x)) (k:∀b u,b≠e->h.get? b=some u->h'.get? b=some u) (d:∃u,h'.get? e=some u):Un fs ex H (upd H x o) h h':=by
 have f:∀b,H b=none->b≠x:=fun b n z=>by subst z;rw[n] at mu;exact mu
 have g:∀b,H b=none->b≠e:=fun b n z=>by
  subst z;rcases i with r | r
  ·exact f b n r
  rw[n] at r;cases r
 have c:∀b u,H b=some u->¬Mut (some u)->b≠x:=fun b u q nm z=>by subst z;rw[q] at mu;exact nm mu
 refine⟨fun b u q n _ _=>k b u (g b n) q,fun b u q n _ _=>⟨u.slots,k b u (g b n) q⟩,fun b u q n _=>by rw[aL (f b n)];exact n,fun b u q _=>?_,
  fun b xs q=>by rw[aL (c b _ q fun z=>z)];exact q,fun b u xs q=>by rw[aL (c b _ q fun z=>z)];exact q,fun b j q=>⟨#[],by rw[aL (c b _ q fun z=>z),q];simp⟩⟩
 by_cases a:b=e
 ·subst a;exact d
 exact⟨u,k b u a q⟩
end
def trk (h:Heap) (H:Hp):List Addr:=(List.range h.objs.size).filter fun a=>(H a).isSome
def pL (h:Heap) (H:Hp):Heap:=PySem.W.hideAll h (trk h H)
def yW (h:Heap) (H:Hp):(pL h H).objs.size=h.objs.size:=PySem.W.hideAll_size _ _
def Am (e:h.get? b=some o) (n:H b=none):(pL h H).get? b=some o :=
 PySem.W.hideAll_get _ e fun a=>by
  have q:(H b).isSome=true:=(B_.mp a).2;rw[n] at q;simp at q
def Hf (e:(pL h H).get? b=some o):h.get? b=some o/\H b=none:=by
 have a:h.get? b=some o:=PySem.W.of_hideAll (trk h H) e;refine⟨a,?_⟩;cases q:H b with
 |none=>rfl
 |some x =>
  have c:b∈trk h H:=B_.mpr ⟨YF.mpr (p_ a),by simp [q]⟩
  have z:(pL h H).get? b=none:=PySem.W.hideAll_none (trk h H) c
  rw[z] at e;cases e
def Hg (g h : Heap) (L : Addr) : List (Addr × Obj):=(List.range h.objs.size).filterMap fun a => if a = L \/ (g.get? a).isSome = true then none else (h.get? a).map fun o => (a,o)
def rest (g h:Heap) (L d:Addr):List (Addr × Obj):=(Hg g h L).filter fun p=>decide (p.1≠d)
structure Mod (K:Frag) (mg:Str->Option Value) (base:Heap):Prop where
 kin:K.In base
 glob:base.Ns mainGlobals mg
 blt:∃mb,base.Ns builtinsNs mb/\∀x:Str,x≠"__name__"->mb x=bootBuiltins x
 nolimit:base.NoLimit
structure Cx where
 prog:Program
 w:World
 K:Frag
 mg:Str->Option Value
 base:Heap
 A:Around
 N:List Str
 s₀:Shared
 H₀:Hp
 env:Env
 outer:List Env
 stack:List Env
 ex:List Addr
 fn:Str->Bool
 calm:Bool
 pn:List (Addr × Obj)
 xe:Value->Shared->Prop
def frs (l : List Env) : List Addr:=l.filterMap (·.frame)
abbrev Cx.fs (X:Cx):List Addr:=frs X.outer
def Vis (a:Scope) (x:Str):Prop:=a.names.lookup x=some .local\/a.names.lookup x=some .cell\/a.names.lookup x=some .free
def Loc (a:Scope) (x:Str):Prop:=a.names.lookup x=some .local\/a.names.lookup x=some .cell
def Look (env:Env) (h:Heap) (m:Str->Option Value) (x:Str) (u:Value):Prop :=
 (env.kindOf x=some .local/\m x=some u)\/((env.kindOf x=some .cell\/env.kindOf x=some .free)/\∃c,env.cells.lookup x=some c/\h.IsCell c (some u))
structure Cx.Ok (X:Cx):Prop where
 mod:Mod X.K X.mg X.base
 kind:X.env.scope.kind=.function
 glob:X.env.globals=mainGlobals
 blt:X.env.builtins=builtinsNs
 above:X.s₀.heap.objs.size<=X.env.locals
 inj:∀x y c,X.env.cells.lookup x=some c->X.env.cells.lookup y=some c->x=y
 has:∀x,(X.env.kindOf x=some .cell\/X.env.kindOf x=some .free)->∃c,X.env.cells.lookup x=some c
 cab:∀x c,X.fn x=true->X.env.cells.lookup x=some c->X.s₀.heap.objs.size<=c
 hd:X.calm=true->X.A.handled=none
 frames:X.A.frames=some X.stack
 stk:X.stack=X.outer\/(X.stack=X.env::X.outer/\X.env.frame=some X.env.locals)
 exf:∀b∈X.ex,b≠X.env.locals/\∀x c,X.env.cells.lookup x=some c->c≠b
 bs:∀b o,X.base.get? b=some o->X.s₀.heap.get? b=some o/\X.H₀ b=none
 bsz:X.base.objs.size<=X.s₀.heap.objs.size
 noex:∀b o,X.base.get? b=some o->b∉X.ex
 exfs:∀b∈X.ex,b∉X.fs
 funs:X.s₀.heap.FunFrames X.base X.outer
 frf:∀b∈X.fs,X.H₀ b=none
structure Inv (X:Cx) (pins:List (Addr × Obj)) (σ:List (Option V)) (H:Hp) (s:Shared):Prop where
 ok:X.Ok
 os:s.os=X.s₀.os
 bare:AllBare s.gens
 base:Un X.fs X.ex X.H₀ H X.s₀.heap s.heap
 loc:∃m,s.heap.Ns X.env.locals m/\∀(i:Nat) (x:Str) (v:V),X.N[i]?=some x->σ[i]?=some (some v)->Vis X.env.scope x->∃u,RelV v u/\Look X.env s.heap m x u
 cell:∀x c,X.env.cells.lookup x=some c->∃v,s.heap.IsCell c v
 free:H X.env.locals=none
 freeC:∀x c,X.env.cells.lookup x=some c->H c=none
 pin:∀p∈X.pn++pins,s.heap.get? p.1=some p.2/\H p.1=none/\p.1≠X.env.locals/\p.1∉X.fs/\∀v,p.2.data≠.cell v
 hok:HOk X.prog X.w H s.heap
 len:σ.length=X.N.length
section
variable {X:Cx}{pins:List (Addr × Obj)}{σ:List (Option V)}{H H':Hp}{s:Shared}
def Cx.Ok.nofr (c:X.Ok) (e:X.base.get? b=some o):b∉X.fs:=fun a=>by
 have:=(c.funs.mem a).1;rw[e] at this;cases this
def Inv.bs (I:Inv X pins σ H s):∀b o,X.base.get? b=some o->s.heap.get? b=some o/\H b=none:=fun b o e =>
 ⟨I.base.keep b o (I.ok.bs b o e).1 (I.ok.bs b o e).2 (I.ok.nofr e) (I.ok.noex b o e),I.base.free b o (I.ok.bs b o e).1 (I.ok.bs b o e).2 (I.ok.noex b o e)⟩
def Inv.bk (I:Inv X pins σ H s):∀b o,X.base.get? b=some o->s.heap.get? b=some o:=fun b o e=>(I.bs b o e).1
def Inv.mod (I:Inv X pins σ H s):Mod X.K X.mg X.base:=I.ok.mod
def Inv.kIn (I:Inv X pins σ H s):X.K.In s.heap:=I.ok.mod.kin.keeps I.bk
def Inv.lt (I:Inv X pins σ H s):X.env.locals<s.heap.objs.size:=let ⟨_,hn,_⟩:=I.loc;hn.lt
def Inv.sz (I:Inv X pins σ H s):X.s₀.heap.objs.size<=s.heap.objs.size:=Q_ I.ok.above (ZD I.lt)
def Inv.nofs (I:Inv X pins σ H s) {a:Addr}(h:s.heap.objs.size<=a):a∉X.fs:=fun c=>by
 obtain⟨_,o,b,_⟩:=I.ok.funs.mem c;exact absurd (K_ (p_ b) (Q_ I.sz h)) (YM _)
def Inv.cne (I:Inv X pins σ H s):∀x c,X.env.cells.lookup x=some c->c≠X.env.locals:=fun x c e z=>by
 obtain⟨v,o,d,f⟩:=I.cell x c e;obtain⟨m,⟨g,h,ep,b,a,_⟩,_⟩:=I.loc;rw[z,b] at d;cases d;rw[a] at f;cases f
def Inv.funs (I:Inv X pins σ H s):s.heap.FunFrames X.base X.outer:=by
 have d:∀(l:List Env),(∀b∈frs l,b∈X.fs)->X.s₀.heap.FunFrames X.base l->s.heap.FunFrames X.base l:=by
  intro l;induction l with
  |nil=>intro _ _;trivial
  |cons env r i =>
  intro g m;obtain ⟨k,⟨L,o,a,p,j,n⟩,h⟩:=m;have c : L ∈ X.fs:=g L (by unfold frs; rw [aax,a]; exact k_);obtain ⟨q,e⟩:=I.base.slot L o j (I.ok.frf L c) c fun z => I.ok.exfs L z c;exact ⟨k,⟨L,_,a,p,e,n⟩,i (fun b f => g b (by unfold frs; rw [aax,a]; exact q_ _ f)) h⟩
 exact d X.outer (fun _ f=>f) I.ok.funs
def Inv.stack (I:Inv X pins σ H s):s.heap.FunFrames X.base X.stack:=by
 rcases I.ok.stk with e | ⟨e,a⟩
 ·rw[e];exact I.funs
 rw[e];obtain⟨m,b,_⟩:=I.loc;refine .cons (by rw[I.ok.kind];decide) a b ?_ I.funs;exact Heap.get?_none_of_le (Q_ I.ok.bsz I.ok.above)
def Inv.stkSub (I:Inv X pins σ H s):∀b∈frs X.stack,b∈X.env.locals::X.fs:=fun b a=>by
 rcases I.ok.stk with e | ⟨e,c⟩
 ·rw[e] at a;exact q_ _ a
 rw [e] at a;unfold frs at a;rw [aax,c] at a;exact a
def Inv.stkFree (I:Inv X pins σ H s):∀b∈frs X.stack,H b=none:=fun b a=>by
 rcases u_.mp (I.stkSub b a) with e | a
 ·rw[e];exact I.free
 obtain⟨_,o,c,_⟩:=I.ok.funs.mem a;exact I.base.free b o c (I.ok.frf b a) fun z=>I.ok.exfs b z a
def Inv.step {t':Nat}{d':Drawn}{ch:List Addr} (I:Inv X pins σ H s) (t:∀b∈ch,(b∈X.ex\/X.s₀.heap.objs.size<=b)/\b≠X.env.locals/\(∀x c,X.env.cells.lookup x=some c->c≠b)/\∀p∈X.pn++pins,p.1≠b) (g:∀b o,b≠X.env.locals->b∉X.fs->b∉ch->s.heap.get? b=some o->H b=none->h'.get? b=some o) (B:∀b o,b≠X.env.locals->b∈X.fs->b∉ch->s.heap.get? b=some o->H b=none->∃P,h'.get? b=some { o with slots:=P}) (f:∀b o,b∉ch->s.heap.get? b=some o->H b=none->H' b=none) (D:∀b o,b∉ch->s.heap.get? b=some o->∃G,h'.get? b=some G) (K:∀b xs,H b=some (.tup xs)->H' b=some (.tup xs)) (F:∀b o u,H b=some (.frz o u)->H' b=some (.frz o u)) (L:∀b N,H b=some (.tbl N)->∃more,H' b=some (.tbl (N++more))) (ns:∀m,s.heap.Ns X.env.locals m->h'.Ns X.env.locals m) (O:HOk X.prog X.w H' h') (Y:AllBare g'):
  Inv X pins σ H' { s with heap:=h',gens:=g',drawn:=d',toks:=t'}:=by
 have J:∀b o,X.s₀.heap.get? b=some o->b≠X.env.locals:=fun b o e=>I_ (K_ (p_ e) I.ok.above);have y:∀b o,X.s₀.heap.get? b=some o->b∉X.ex->b∉ch:=fun b o e a C=>by
  rcases (t b C).1 with z | z
  ·exact a z
  exact absurd (K_ (p_ e) z) (YM _)
 have h:∀x c,X.env.cells.lookup x=some c->∀v,s.heap.IsCell c v->h'.IsCell c v:=fun x c e v ⟨o,E,Q⟩=>by
  have j:c∉ch:=fun z=>(t c z).2.2.1 x c e rfl;by_cases V:c∈X.fs
  ·obtain⟨P,q⟩:=B c o (I.cne x c e) V j E (I.freeC x c e);exact⟨_,q,Q⟩
  exact⟨o,g c o (I.cne x c e) V j E (I.freeC x c e),Q⟩
 refine⟨I.ok,I.os,Y,⟨fun b o e n C a=>?_,fun b o e n C a=>?_,fun b o e n a=>?_,fun b o e a=>?_,fun b xs e=>K b xs (I.base.tups b xs e),fun b o xs e=>F b o xs (I.base.frzs b o xs e),fun b N e=>?_⟩,?_,fun x c e=>?_,?_,fun x c e=>?_,fun p S=>?_,O,I.len⟩
 ·exact g b o (J b o e) C (y b o e a) (I.base.keep b o e n C a) (I.base.free b o e n a)
 ·obtain⟨P,A⟩:=I.base.slot b o e n C a;obtain⟨R,M⟩:=B b _ (J b o e) C (y b o e a) A (I.base.free b o e n a);exact⟨R,M⟩
 ·obtain⟨G,A⟩:=I.base.there b o e a;exact f b G (y b o e a) A (I.base.free b o e n a)
 ·obtain⟨G,A⟩:=I.base.there b o e a;exact D b G (y b o e a) A
 ·obtain⟨m1,A⟩:=I.base.tbls b N e;obtain⟨W,M⟩:=L b _ A;exact⟨m1++W,by rw[M,Array.append_assoc]⟩
 ·obtain⟨m,hn,Z⟩:=I.loc;refine⟨m,ns m hn,fun i x v A M e3=>?_⟩;obtain⟨u,r,l⟩:=Z i x v A M e3;refine⟨u,r,?_⟩;rcases l with l | ⟨k,c,e,z⟩
  ·exact .inl l
  exact .inr ⟨k,c,e,h x c e _ z⟩
 ·obtain⟨v,z⟩:=I.cell x c e;exact⟨v,h x c e v z⟩
 ·obtain⟨m,⟨o,_,_,E,_⟩,_⟩:=I.loc;exact f _ o (fun z=>(t _ z).2.1 rfl) E I.free
 ·obtain⟨v,o,E,Q⟩:=I.cell x c e;exact f c o (fun z=>(t c z).2.2.1 x c e rfl) E (I.freeC x c e)
 obtain⟨e,n,U,T,d⟩:=I.pin p S;have j:p.1∉ch:=fun z=>(t p.1 z).2.2.2 p S rfl;exact⟨g p.1 p.2 U T j e n,f p.1 p.2 j e n,U,T,d⟩
def Inv.un (I:Inv X pins σ H s) (u:Un X.fs [] H H' s.heap h') (c:HOk X.prog X.w H' h'):Inv X pins σ H' { s with heap:=h',toks:=t'}:=by
 obtain⟨m,⟨o,q,ep,h,r⟩,_⟩:=id I.loc;obtain⟨t,j⟩:=u.any h I.free (by simp);exact I.step (g':=s.gens) (d':=s.drawn) (ch:=[]) (fun _ z=>nomatch z) (fun b o _ g _ e n=>u.keep b o e n g (by simp)) (fun b o _ g _ e n=>u.slot b o e n g (by simp)) (fun b o _ e n=>u.free b o e n (by simp)) (fun b o _ e=>u.there b o e (by simp)) u.tups u.frzs u.tbls (fun p i=>by
  obtain⟨l,d,f,a,k⟩:=i
  rw[h] at a;cases a
  exact⟨_,d,f,j,k⟩) c I.bare
def Inv.call (I:Inv X pins σ H s) (u:Un (frs X.stack) ch H H' s.heap h') (g:HOk X.prog X.w H' h') (l:AllBare g') (d:∀b∈ch,(b∈X.ex\/X.s₀.heap.objs.size<=b)/\b≠X.env.locals/\(∀x c,X.env.cells.lookup x=some c->c≠b)/\∀p∈X.pn++pins,p.1≠b):
  Inv X pins σ H' { s with heap:=h',gens:=g',drawn:=d',toks:=t'}:=by
 obtain⟨m,⟨o,B,ep,k,r⟩,_⟩:=id I.loc;obtain⟨C,h⟩:=u.any k I.free fun z=>(d _ z).2.1 rfl;exact I.step (ch:=ch) d (fun b o h v a e n=>u.keep b o e n (fun z=>(u_.mp (I.stkSub b z)).elim h v) a) (fun b o _ _ a e n=>u.any e n a) (fun b o a e n=>u.free b o e n a) (fun b o a e=>u.there b o e a) u.tups u.frzs u.tbls (fun A q=>by
  obtain⟨y,i,j,f,t⟩:=q
  rw[k] at f;cases f
  exact⟨_,i,j,h,t⟩) g l
def Inv.turned (I:Inv X pins σ H s) (k:∀b o,b≠it->s.heap.get? b=some o->h'.get? b=some o) (w:H it=none) (f:it≠X.env.locals) (j:it∈X.ex\/X.s₀.heap.objs.size<=it) (l:∀x c,X.env.cells.lookup x=some c->c≠it) (h:∀p∈X.pn++pins,p.1≠it):Inv X pins σ H { s with heap:=h',toks:=t'}:=by
 have d:∀b u,H b=some u->b≠it:=fun b u e z=>by rw[z,w] at e;cases e
 refine I.step (g':=s.gens) (d':=s.drawn) (ch:=[it]) (fun b y=>?_) (fun b o _ _ a e _=>k b o (fun z=>a (by simp [z])) e) (fun b o _ _ a e _=>⟨o.slots,k b o (fun z=>a (by simp [z])) e⟩) (fun _ _ _ _ n=>n)
  (fun b o a e=>⟨o,k b o (fun z=>a (by simp [z])) e⟩) (fun _ _ e=>e) (fun _ _ _ e=>e) (fun b A e=>⟨#[],by rw[e];simp⟩) (fun m g=>?_) (fun b u e=>?_) I.bare
 ·have e:b=it:=by simpa using y
  subst e;exact⟨j,f,l,h⟩
 ·obtain⟨o,t,ep,i,r⟩:=g;exact⟨o,t,ep,k _ o (Ne.symm f) i,r⟩
 refine (I.hok b u e).stay (fun c v a q=>k c v ?_ q) (fun _ q=>q) fun _ _ q=>q;rcases a with z | z
 ·rw[z];exact d b u e
 exact d c _ z
def Inv.tok (I:Inv X pins σ H s) (t:Nat):Inv X pins σ H { s with toks:=t}:=I.un (h':=s.heap) (t':=t) Un.refl I.hok
def Inv.kept (I:Inv X pins σ H s) (k:∀b u,s.heap.get? b=some u->h'.get? b=some u):Inv X pins σ H { s with heap:=h',toks:=t'}:=I.un (Un.kept k) (I.hok.kept k)
def Inv.laid {a:Addr} (I:Inv X pins σ H s) (k:∀b u,s.heap.get? b=some u->h'.get? b=some u) (c:s.heap.objs.size<=a) (d:ObjOk X.prog X.w (upd H a o) h' a o):
  Inv X pins σ (upd H a o) { s with heap:=h',toks:=t'}:=I.un (Un.laid k c (I.hok.fresh c)) (I.hok.laid k c d)
def Inv.write (I:Inv X pins σ H s) (mu:Mut (H x)) (d:e=x\/H e=some (.own x)) (k:∀b u,b≠e->s.heap.get? b=some u->h'.get? b=some u) (a:∃u,h'.get? e=some u) (c:ObjOk X.prog X.w (upd H x o) h' x o):Inv X pins σ (upd H x o) { s with heap:=h',toks:=t'}:=I.un (Un.write mu d k a) (I.hok.write mu d k a c)
def Inv.pins_of (I:Inv X pins σ H s) (h:∀p∈pins',s.heap.get? p.1=some p.2/\H p.1=none/\p.1≠X.env.locals/\p.1∉X.fs/\∀v,p.2.data≠.cell v):Inv X pins' σ H s :=
 ⟨I.ok,I.os,I.bare,I.base,I.loc,I.cell,I.free,I.freeC,fun p a=>(v_.mp a).elim (fun z=>I.pin p (T_ _ z)) (h p),I.hok,I.len⟩
def lW {N:List Str} (c:N.Nodup) {i j:Nat} (a:N[i]?=some x) (b:N[j]?=some x):i=j:=by
 obtain⟨f,d⟩:=Zc.mp a;obtain⟨g,e⟩:=Zc.mp b;exact (List.getElem_inj c).mp (d.trans e.symm)
def iz (I:Inv X pins σ H s) (hN:X.N.Nodup) (S:X.N[i]?=some x) (B:Loc X.env.scope x) (r:RelV v u) (h:∀s',Inv X pins (σ.set i (some v)) H s'->(∃a,Heap.SameBut a s.heap s'.heap/\(a=X.env.locals\/X.env.cells.lookup x=some a))->Q () s') (hf:X.fn x=true\/X.env.scope.names.lookup x=some .local:=by first | exact .inl rfl | exact .inr rfl | assumption):wpAny M A (storeName X.env x u) Q E s:=by
 obtain⟨m,hn,hl⟩:=id I.loc;have R:(X.env.scope.kind==.class||(X.env.scope.kind==.module&&X.env.locals != X.env.globals))=false:=by rw[I.ok.kind];rfl
 have G:i<σ.length:=by rw[I.len];exact (Zc.mp S).1
 have L:=I.cne;have g:∀{a:Addr} {h':Heap},(∃o,s.heap.get? a=some o/\H a=none)->Heap.SameBut a s.heap h'->HOk X.prog X.w H h':=fun {a h'} ha f b ob e=>by
  obtain⟨_,_,C⟩:=ha;refine (I.hok b ob e).stay (fun c Z t q=>(f.2 c ?_).trans q) (fun _ q=>q) fun _ _ q=>q;rintro rfl;rcases t with rfl | t
  ·rw[C] at e;cases e
  rw[C] at t;cases t
 rcases B with F | F
 ·refine wpAny_storeName_local F hn (fun h' hn' f=>?_) R;obtain⟨oL,_,_,hoL,_⟩:=id hn;refine h _ ⟨I.ok,I.os,I.bare,⟨fun b o e n K B=>?_,fun b o e n K B=>?_,I.base.free,fun b o e B=>?_,I.base.tups,I.base.frzs,I.base.tbls⟩,⟨_,hn',fun j y v' l D e3=>?_⟩,fun y c e=>?_,I.free,I.freeC,fun p hp=>?_,g ⟨oL,hoL,I.free⟩ f,by simpa using I.len⟩ ⟨_,f,.inl rfl⟩
  ·exact (f.2 b (I_ (K_ (p_ e) I.ok.above))).trans (I.base.keep b o e n K B)
  ·obtain⟨sl,l⟩:=I.base.slot b o e n K B;exact⟨sl,(f.2 b (I_ (K_ (p_ e) I.ok.above))).trans l⟩
  ·obtain⟨o',l⟩:=I.base.there b o e B;exact⟨o',(f.2 b (I_ (K_ (p_ e) I.ok.above))).trans l⟩
  ·by_cases O:j=i
   ·subst O;rw[S] at l;cases l;rw[Zd G] at D;cases D;exact⟨u,r,.inl ⟨F,by simp⟩⟩
   rw[Zr (Ne.symm O)] at D;obtain⟨u',r',q⟩:=hl j y v' l D e3;refine⟨u',r',?_⟩;rcases q with ⟨k,e⟩ | ⟨k,c,e,z⟩
   ·refine .inl ⟨k,?_⟩;have:y≠x:=fun e=>O (lW hN l (e▸S));simp [this,e]
   exact .inr ⟨k,c,e,z.sameBut f (L y c e)⟩
  ·obtain⟨Z,z⟩:=I.cell y c e;exact⟨Z,z.sameBut f (L y c e)⟩
  obtain⟨e,n,ne,nf,d⟩:=I.pin p hp;exact⟨(f.2 p.1 ne).trans e,n,ne,nf,d⟩
 have J:X.fn x=true:=by
  rcases hf with z | z
  ·exact z
  rw[z] at F;cases F
 obtain⟨c,t⟩:=I.ok.has x (.inl F);obtain⟨Z,z⟩:=I.cell x c t;refine wpAny_storeName_cell I.ok.kind F t z (fun h' P f=>?_);obtain⟨oc,W,T⟩:=id z;refine h { s with heap:=h'} ⟨I.ok,I.os,I.bare,⟨fun b o e n K B=>?_,fun b o e n K B=>?_,I.base.free,fun b o e B=>?_,I.base.tups,I.base.frzs,I.base.tbls⟩,⟨m,hn.sameBut f (Ne.symm (L x c t)),fun j y v' l D e3=>?_⟩,fun y Y e=>?_,I.free,I.freeC,fun p hp=>?_,g ⟨oc,W,I.freeC x c t⟩ f,by simpa using I.len⟩ ⟨c,f,.inr t⟩
 ·exact (f.2 b (I_ (K_ (p_ e) (I.ok.cab x c J t)))).trans (I.base.keep b o e n K B)
 ·obtain⟨sl,l⟩:=I.base.slot b o e n K B;exact⟨sl,(f.2 b (I_ (K_ (p_ e) (I.ok.cab x c J t)))).trans l⟩
 ·obtain⟨o',l⟩:=I.base.there b o e B;exact⟨o',(f.2 b (I_ (K_ (p_ e) (I.ok.cab x c J t)))).trans l⟩
 ·by_cases O:j=i
  ·subst O;rw[S] at l;cases l;rw[Zd G] at D;cases D;exact⟨u,r,.inr ⟨.inl F,c,t,P⟩⟩
  rw[Zr (Ne.symm O)] at D;obtain⟨u',r',q⟩:=hl j y v' l D e3;refine⟨u',r',?_⟩;rcases q with q | ⟨k,Y,e,z'⟩
  ·exact .inl q
  refine .inr ⟨k,Y,e,z'.sameBut f ?_⟩;rintro rfl;exact O (lW hN l (I.ok.inj _ _ _ e t▸S))
 ·by_cases U:Y=c
  ·subst U;exact⟨_,P⟩
  obtain⟨w2,z2⟩:=I.cell y Y e;exact⟨w2,z2.sameBut f U⟩
 obtain⟨e,n,ne,nf,d⟩:=I.pin p hp;refine⟨(f.2 p.1 ?_).trans e,n,ne,nf,d⟩;intro q;rw[q,W] at e;have q':oc=p.2:=O_ e;exact d Z (by rw[<- q'];exact T)
def rB (I:Inv X pins σ H s) (b:X.N.Nodup) (e:X.N[i]?=some x) (d:Loc X.env.scope x) (r:RelV v u) (h:∀s',Inv X pins (σ.set i (some v)) H s'->Q () s') (a:X.fn x=true\/X.env.scope.names.lookup x=some .local:=by first | exact .inl rfl | exact .inr rfl | assumption):wpAny M A (storeName X.env x u) Q E s :=
 iz I b e d r (fun s' c _=>h s' c) a
def Inv.call' (I:Inv X pins σ H s) (h:s'.os=s.os) (u:Un (frs X.stack) ch H H' s.heap s'.heap) (a:HOk X.prog X.w H' s'.heap) (g:AllBare s'.gens) (d:∀b∈ch,(b∈X.ex\/X.s₀.heap.objs.size<=b)/\b≠X.env.locals/\(∀x c,X.env.cells.lookup x=some c->c≠b)/\∀p∈X.pn++pins,p.1≠b):Inv X pins σ H' s':=by
 obtain⟨h',g',d',t',f⟩:=s';have e:f=s.os:=h;subst e;exact I.call (g':=g') (t':=t') (d':=d') u a g d
end
abbrev XK:=Value->Option Addr->Hp->Prop
abbrev St:=List (Option V)
abbrev VK:=V->Hp->Prop
abbrev TE:=St->Hp->VK->Prop
abbrev TT:=St->Hp->(Bool->Hp->Prop)->Prop
abbrev TA:=St->Hp->(List V->Hp->Prop)->Prop
structure Ends where
 nx:St->Hp->Prop
 rt:VK
 bk:St->Hp->Prop:=fun _ _=>False
 ct:St->Hp->Prop:=fun _ _=>False
abbrev TS:=Ends->St->Hp->Prop
def EP (X:Cx) (a:List (Addr × Obj)) (b:St) (Q:VK) (u:Value) (s':Shared):Prop:=∃v H',Inv X a b H' s'/\RelV v u/\Q v H'
def TP (X:Cx) (a:List (Addr × Obj)) (c:St) (Q:Bool->Hp->Prop) (b:Bool) (s':Shared):Prop:=∃H',Inv X a c H' s'/\Q b H'
def AP (X:Cx) (a:List (Addr × Obj)) (b:St) (Q:List V->Hp->Prop) (us:List Value) (s':Shared):Prop:=∃vs H',Inv X a b H' s'/\Vals vs us/\Q vs H'
def SP (X:Cx) (b:List (Addr × Obj)) (D:Ends) (f:Flow) (s':Shared):Prop :=
 match f with
 |.next=>∃a H',Inv X b a H' s'/\D.nx a H'
 |.brk=>∃a H',Inv X b a H' s'/\D.bk a H'
 |.cont=>∃a H',Inv X b a H' s'/\D.ct a H'
 |.ret u=>∃v a H',Inv X b a H' s'/\RelV v u/\D.rt v H'
def PE (X:Cx) (e:Expr) (t:TE):Prop :=
 ∀(a:List (Addr × Obj)) (s:Shared) (b:St) (H:Hp) (Q:VK),Inv X a b H s->t b H Q->wpAny (model X.prog X.w) X.A (eval e X.env) (EP X a b Q) X.xe s
def PT (X:Cx) (e:Expr) (t:TT):Prop :=
 ∀(a:List (Addr × Obj)) (s:Shared) (b:St) (H:Hp) (Q:Bool->Hp->Prop),Inv X a b H s->t b H Q->wpAny (model X.prog X.w) X.A (isTrue e X.env (eval e X.env)) (TP X a b Q) X.xe s
def PW (X:Cx) (e:Expr) (t:TT):Prop :=
 ∀(b:Sem Value) (a:List (Addr × Obj)) (s:Shared) (c:St) (H:Hp) (Q:Bool->Hp->Prop),Inv X a c H s->t c H Q->wpAny (model X.prog X.w) X.A (isTrue e X.env b) (TP X a c Q) X.xe s
def PW.pt (h:PW X e t):PT X e t:=h _
def PA (X:Cx) (d:List Expr) (t:TA):Prop :=
 ∀(c:Pos) (a:List (Addr × Obj)) (s:Shared) (b:St) (H:Hp) (Q:List V->Hp->Prop),Inv X a b H s->t b H Q->wpAny (model X.prog X.w) X.A (spliced (backTo c (starEach d X.env))) (AP X a b Q) X.xe s
def PS (X:Cx) (st:Stmt) (t:TS):Prop :=
 ∀(a:List (Addr × Obj)) (s:Shared) (b:St) (H:Hp) (D:Ends),Inv X a b H s->t D b H->wpAny (model X.prog X.w) X.A (exec st X.env) (SP X a D) X.xe s
def PSs (X:Cx) (st:List Stmt) (t:TS):Prop :=
 ∀(a:List (Addr × Obj)) (s:Shared) (b:St) (H:Hp) (D:Ends),Inv X a b H s->t D b H->wpAny (model X.prog X.w) X.A (execs st X.env) (SP X a D) X.xe s
def thn {t:Sem b}{Q c:b->Shared->Prop} (h:wpAny M A t Q E s) (d:∀a s,Q a s->c a s):wpAny M A t c E s:=Y5 h d fun _ _ x=>x
section
variable {X:Cx}
def S7 (i:Nat):TE:=fun a H Q=>∃v,a[i]?=some (some v)/\Q v H
def tC (v:V):TE:=fun _ H Q=>Q v H
def Nq {k:Pos} (q:X.N[i]?=some x) (o:Vis X.env.scope x) (j:(x==("__debug__":Str))=false:=by decide) (g:(x==("__classdict__":Str))=false:=by decide):PE X (.Name x k) (S7 i):=by
 intro f s y H Q I h;obtain⟨v,e,h⟩:=h;obtain⟨m,w,t⟩:=I.loc;obtain⟨u,r,l⟩:=t i x v q e o;have b:EP X f y Q u s:=⟨v,H,I,r,h⟩;rcases l with ⟨d,p⟩ | ⟨d,c,n,a⟩
 ·exact wpAny_Name (wpAny_loadName_local I.ok.kind d w p b) j
 rcases d with d | d
 ·exact wpAny_Name (wpAny_loadName_cell I.ok.kind d n a b) j
 exact wpAny_Name (wpAny_loadName_free I.ok.kind d n a b g) j
def Nr:PE X (.Constant (.int i) j pos) (tC (.int i)):=fun _ _ _ H _ I h=>wpAny_Constant_int ⟨.int i,H,I.tok _,⟨_,rfl⟩,h⟩
def S8:PE X (.Constant (.bool b) j pos) (tC (.bl b)):=fun _ _ _ H _ I h=>Constant_bool ⟨.bl b,H,I,rfl,h⟩
def Nt:PE X (.Constant .none j pos) (tC .non):=fun _ _ _ H _ I h=>Constant_none ⟨.non,H,I,rfl,h⟩
def Nu:PE X (.Constant (.str x) j pos) (tC (.str x)):=fun _ _ _ H _ I h=>Calls.Constant_str ⟨.str x,H,I.tok _,⟨_,rfl⟩,h⟩
def Gl (X:Cx) (x:Str):Prop:=X.env.kindOf x=some .globalImplicit
def gA {f:St} (I:Inv X a f H s) (c:Gl X x) (d:X.mg x=some u) (h:Q u s) (e:(x==("__debug__":Str))=false:=by decide):wpAny (model X.prog X.w) X.A (eval (.Name x b) X.env) Q E s :=
 Calls.Name_function_global I.ok.kind c (Calls.loadGlobal_global (by rw[I.ok.glob];exact I.mod.glob.keeps I.bk) d h) e
def fU {E:Value->Shared->Prop}{k:St}{b:Pos} (I:Inv X a k H s) (d:Gl X x) (e:X.mg x=none) (c:bootBuiltins x=some u) (h:Q u s) (j:x≠"__name__":=by decide) (i:(x==("__debug__":Str))=false:=by decide):wpAny (model X.prog X.w) X.A (eval (.Name x b) X.env) Q E s:=by
 obtain⟨l,f,g⟩:=I.mod.blt;exact Calls.Name_function_global I.ok.kind d (Calls.loadGlobal_builtin (by rw[I.ok.glob];exact I.mod.glob.keeps I.bk) e (by rw[I.ok.blt];exact f.keeps I.bk) ((g x j).trans c) h) i
def Hh {a:Pos} (c:Gl X x) (d:X.mg x=none) (b:bootBuiltins x=some u) (r:RelV v u) (f:x≠"__name__":=by decide) (e:(x==("__debug__":Str))=false:=by decide):PE X (.Name x a) (tC v) :=
 fun _ _ _ H _ I h=>fU I c d b ⟨v,H,I,r,h⟩ f e
variable {ta tb:TE}
def PC (X:Cx) (g:CmpOp) (a b:Expr) (t:TE):Prop :=
 ∀(c:List (Addr × Obj)) (s:Shared) (f:St) (H:Hp) (Q:VK),Inv X c f H s->t f H Q ->
  wpAny (model X.prog X.w) X.A (eval a X.env) (fun v d=>wpAny (model X.prog X.w) X.A (eval b X.env) (fun u e=>wpAny (model X.prog X.w) X.A (compareOp g v u) (EP X c f Q) X.xe e) X.xe d) X.xe s
def An (b:Expr) {a:CmpOp}(h:a≠.In) (c:a≠.NotIn):behindInMarks a b=false:=by
 have d:(a==CmpOp.In)=false:=by cases a <;> first | rfl | exact absurd rfl h
 have e:(a==CmpOp.NotIn)=false:=by cases a <;> first | rfl | exact absurd rfl c
 cases b <;> simp [behindInMarks,d,e]
def tB (t:TE):TT:=fun b H Q=>t b H fun x a=>∃c,x=.bl c/\Q c a
def uT (h:PC X g a b t) (f:behindInMarks g b=false:=by first | exact An _ (by decide) (by decide) | rfl):PT X (.Compare a [g] [b] pos) (tB t):=by
 intro e s o H Q I n;refine wpAny_isTrue_Compare1 (thn (h e s o H _ I n) fun v w f=>thn f fun u r k=>thn k fun c p ⟨x,l,m,i,j⟩=>?_) f;obtain⟨d,rfl,q⟩:=j;cases i;exact ZR ⟨l,m,q⟩
def Nv (h:PE X e t) (c:∀whole,isTrue e X.env whole=(do let v <- whole;standAt e.pos;holding [v] (truthy v)):=by intro _;rfl):PT X e (tB t):=by
 intro a s k H Q I j;refine isTrue_plain (thn (h a s k H _ I j) fun v l ⟨x,g,i,b,f⟩=>?_) (c _);obtain⟨d,rfl,q⟩:=f;cases b;exact ZR ⟨g,i,q⟩
variable {rest:List Expr}
def Xd (t u:TT):TT:=fun b H Q=>t b H fun c a=>if c=true then u b a Q else Q false a
def tOr (t u:TT):TT:=fun b H Q=>t b H fun c a=>if c=true then Q true a else u b a Q
def Xe (t:TT):TT:=fun b H Q=>t b H fun c a=>Q (!c) a
def Hi (d:PT X a tA):PW X (.BoolOp .And [a] pos) tA:=by
 intro g b s f H Q I h;refine isTrue_and (thn (d b s f H Q I h) fun c i e=>?_);cases c with
 |true=>exact isTrue_and_nil e
 |false=>exact e
def Nx (d:PT X a tA):PW X (.BoolOp .Or [a] pos) tA:=by
 intro g b s f H Q I h;refine isTrue_or (thn (d b s f H Q I h) fun c i e=>?_);cases c with
 |false=>exact isTrue_or_nil e
 |true=>exact e
def Ny (j:PT X a tA) (k:PW X (.BoolOp .And (b::rest) pos) tB'):PW X (.BoolOp .And (a::b::rest) pos) (Xd tA tB'):=by
 intro l d s i H Q I h;refine isTrue_and (thn (j d s i H _ I h) fun c m ⟨f,g,e⟩=>?_);cases c with
 |true=>exact k l d m i f Q g e
 |false=>exact⟨f,g,e⟩
def S9 (j:PT X a tA) (k:PW X (.BoolOp .Or (b::rest) pos) tB'):PW X (.BoolOp .Or (a::b::rest) pos) (tOr tA tB'):=by
 intro l d s i H Q I h;refine isTrue_or (thn (j d s i H _ I h) fun c m ⟨f,g,e⟩=>?_);cases c with
 |true=>exact⟨f,g,e⟩
 |false=>exact k l d m i f Q g e
def Nz (f:PT X a tA):PT X (.UnaryOp .Not a pos) (Xe tA):=by
 intro b s e H Q I h;exact isTrue_not (f b s e H (fun c d=>Q (!c) d) I h)
def Tc (d tb:TE):TE:=fun b H Q=>d b H fun x a=>∃c,x=.bl c/\if c=true then tb b a Q else Q (.bl false) a
def Xf (d tb:TE):TE:=fun b H Q=>d b H fun x a=>∃c,x=.bl c/\if c=true then Q (.bl true) a else tb b a Q
def Td (b:TE):TE:=fun d H Q=>b d H fun x a=>∃c,x=.bl c/\Q (.bl (!c)) a
def NB (h:PE X a t):PE X (.BoolOp op [a] pos) t:=fun b s c H Q I d=>BoolOp_one (h b s c H Q I d)
def NK (k:PE X a ta) (l:PE X (.BoolOp .And (b::rest) pos) tb):PE X (.BoolOp .And (a::b::rest) pos) (Tc ta tb):=by
 intro d s i H Q I h;refine BoolOp_and (thn (k d s i H _ I h) fun v m ⟨x,f,g,j,e⟩=>?_);obtain⟨c,rfl,e⟩:=e;cases j;refine ZR ?_;cases c with
 |true=>exact l d m i f Q g e
 |false=>exact⟨.bl false,f,g,rfl,e⟩
def Te (k:PE X a ta) (l:PE X (.BoolOp .Or (b::rest) pos) tb):PE X (.BoolOp .Or (a::b::rest) pos) (Xf ta tb):=by
 intro d s i H Q I h;refine BoolOp_or (thn (k d s i H _ I h) fun v m ⟨x,f,g,j,e⟩=>?_);obtain⟨c,rfl,e⟩:=e;cases j;refine ZR ?_;cases c with
 |false=>exact l d m i f Q g e
 |true=>exact⟨.bl true,f,g,rfl,e⟩
def NP (f:PE X a ta):PE X (.UnaryOp .Not a pos) (Td ta):=by
 intro b s j H Q I h;refine UnaryOp_ (thn (f b s j H _ I h) fun v k ⟨x,g,i,e,d⟩=>?_);obtain⟨c,rfl,d⟩:=d;cases e;exact not_of (ZR ⟨.bl (!c),g,i,rfl,d⟩)
end
def SqL (K:Frag) (H:Hp) (a:Addr) (xs:List V):Prop :=
 Rd H a (.lst xs) \/
  ∃(o:Obj) (b:Array Value) (n:Nat),K.lookup a=some o/\o.cls=.type "list"/\o.dict=none/\o.data=.seq b n/\b.size<=sizeLine/\Vals xs b.toList
def SqT (K:Frag) (H:Hp) (a:Addr) (xs:List V):Prop :=
 Rd H a (.tup xs) \/
  ∃(o:Obj) (b:Array Value) (n:Nat),K.lookup a=some o/\o.cls=.type "tuple"/\o.dict=none/\o.data=.seq b n/\b.size<=sizeLine/\Vals xs b.toList
def Xg:Value->Option V
 |.none=>some .non
 |.bool b=>some (.bl b)
 |.int i _=>some (.int i)
 |.str x _=>some (.str x)
 |.bytes b _=>some (.byt b)
 |.float b _=>some (.flt b)
 |.ref a=>some (.ref a)
 |.type n=>some (.ty n)
 |_=>none
def RelV.abs (r:RelV x u):Xg u=some x:=by
 cases x with
 |non=>cases r;rfl
 |bl _=>cases r;rfl
 |int _=>obtain⟨t,rfl⟩:=r;rfl
 |str _=>obtain⟨t,rfl⟩:=r;rfl
 |byt _=>obtain⟨t,rfl⟩:=r;rfl
 |flt _=>obtain⟨t,rfl⟩:=r;rfl
 |ref _=>cases r;rfl
 |ty _=>cases r;rfl
def RelV.inj (r:RelV x u) (q:RelV y u):x=y:=O_ (r.abs.symm.trans q.abs)
def Vals.inj (h:Vals xs us) (h':Vals a us):xs=a:=by
 induction h generalizing a with
 |nil=>cases h';rfl
 |cons r t b =>
 cases h' with
 |cons c t'=>rw[r.inj c,b t']
section
variable {X:Cx}{pins:List (Addr × Obj)}{σ:St}
def SqL.of {K:Frag}(h:H a=some (.lst xs)):SqL K H a xs:=.inl (.inl h)
def SqT.of {K:Frag}(h:H a=some (.tup xs)):SqT K H a xs:=.inl (.inl h)
def Inv.list (I:Inv X pins σ H s) (h:SqL X.K H a xs):∃b:List Value,Vals xs b/\PlainL s.heap a b.toArray/\xs.length<=sizeLine:=by
 rcases h with h | ⟨o,b,n,d,g,f,c,i,r⟩
 ·obtain⟨z,b,n,r,e⟩:=h.ok I.hok;exact⟨b,r,⟨_,n,e,rfl,rfl,rfl⟩,z⟩
 refine⟨b.toList,r,⟨o,n,I.kIn a o d,g,f,by simpa using c⟩,?_⟩;have e:=r.length;simp only[aaf] at e;omega
def Inv.tuple (I:Inv X pins σ H s) (h:SqT X.K H a xs):∃b:List Value,Vals xs b/\IsTup s.heap a b.toArray/\xs.length<=sizeLine:=by
 rcases h with h | ⟨o,b,n,d,f,_,c,g,r⟩
 ·obtain⟨z,b,r,p⟩:=h.ok I.hok;exact⟨b,r,p.is,z⟩
 refine⟨b.toList,r,⟨o,I.kIn a o d,f,n,by simpa using c⟩,?_⟩;have e:=r.length;simp only[aaf] at e;omega
def Inv.list_inj (I:Inv X pins σ H s) (h:SqL X.K H a xs) (h':SqL X.K H a ys):xs=ys:=by
 obtain⟨b,r,⟨o,n,e,_,_,d⟩,_⟩:=I.list h;obtain⟨its',f,⟨g,i,c,_,_,d'⟩,_⟩:=I.list h';rw[e] at c;cases c;rw[d] at d';injection d' with d1 _;have:b=its':=by simpa using W_ Array.toList d1
 subst this;exact r.inj f
def Inv.tuple_inj (I:Inv X pins σ H s) (h:SqT X.K H a xs) (h':SqT X.K H a ys):xs=ys:=by
 obtain⟨b,r,⟨o,e,_,n,d⟩,_⟩:=I.tuple h;obtain⟨its',f,⟨g,c,_,i,d'⟩,_⟩:=I.tuple h';rw[e] at c;cases c;rw[d] at d';injection d' with d1 _;have:b=its':=by simpa using W_ Array.toList d1
 subst this;exact r.inj f
end
abbrev Cx.wish (X:Cx) (E:Value->Shared->Prop):Cx:={ X with xe:=E}
abbrev Cx.nox (X:Cx):Cx:=X.wish fun _ _=>False
def Cx.Ok.wish {X:Cx}(a:X.Ok) (E:Value->Shared->Prop):(X.wish E).Ok :=
 ⟨a.mod,a.kind,a.glob,a.blt,a.above,a.inj,a.has,a.cab,a.hd,a.frames,a.stk,a.exf,a.bs,a.bsz,a.noex,a.exfs,a.funs,a.frf⟩
def Cx.Ok.unwish {X:Cx} (a:(X.wish E).Ok):X.Ok :=
 ⟨a.mod,a.kind,a.glob,a.blt,a.above,a.inj,a.has,a.cab,a.hd,a.frames,a.stk,a.exf,a.bs,a.bsz,a.noex,a.exfs,a.funs,a.frf⟩
section
variable {X:Cx}{pins:List (Addr × Obj)}{σ:St}
def Inv.wish (I:Inv X pins σ H s) (E:Value->Shared->Prop):Inv (X.wish E) pins σ H s:=⟨I.ok.wish E,I.os,I.bare,I.base,I.loc,I.cell,I.free,I.freeC,I.pin,I.hok,I.len⟩
def Inv.unwish (I:Inv (X.wish E) pins σ H s):Inv X pins σ H s:=⟨I.ok.unwish,I.os,I.bare,I.base,I.loc,I.cell,I.free,I.freeC,I.pin,I.hok,I.len⟩
def SP.unwish (h:SP (X.wish E) pins D f s'):SP X pins D f s':=by
 cases f with
 |next=>obtain⟨a,H',I,q⟩:=h;exact⟨a,H',I.unwish,q⟩
 |brk=>obtain⟨a,H',I,q⟩:=h;exact⟨a,H',I.unwish,q⟩
 |cont=>obtain⟨a,H',I,q⟩:=h;exact⟨a,H',I.unwish,q⟩
 |ret u=>obtain⟨v,a,H',I,r,q⟩:=h;exact⟨v,a,H',I.unwish,r,q⟩
def PSs.nox {st:List Stmt} (h:PSs X.nox st t):PSs X st t:=fun a s b H D I c =>
 Y5 (h a s b H D (I.wish _) c) (fun _ _ q=>q.unwish) fun _ _ z=>False.elim z
variable {st:Stmt}{rest:List Stmt}
def Tf:TS:=fun D a H=>D.nx a H
def Xh (t u:TS):TS:=fun D a H=>t { D with nx:=u D} a H
def Hj:PSs X [] Tf:=fun _ _ a H _ I h=>aaY ⟨a,H,I,h⟩
def rC (h1:PS X st t) (d:PSs X rest u):PSs X (st::rest) (Xh t u):=by
 intro a s g H D I h;refine wpAny_execs_cons (thn (h1 a s g H { D with nx:=u D} I h) fun f e q=>?_);cases f with
 |next=>obtain⟨b,H',c,q⟩:=q;exact d a e b H' D c q
 |ret v=>exact q
 |brk=>exact q
 |cont=>exact q
def w6 (c:PS X st t):PSs X [st] t:=by
 intro a s b H D I h;refine wpAny_execs_cons (thn (c a s b H D I h) fun f d q=>?_);cases f with
 |next=>exact aaY q
 |ret v=>exact q
 |brk=>exact q
 |cont=>exact q
def Inv.quiet {b:St} (I:Inv X a b H s):interactive X.env=false:=by simp [interactive,I.ok.kind]
def Tg (te:TE):TS:=fun D a H=>te a H fun _ b=>D.nx a b
def Hk (c:PE X e te) (d:swapsWith e none pos.line X.env=pure false:=by rfl):PS X (.Expr e pos) (Tg te):=by
 intro a s b H D I h;exact wpAny_Expr_any (thn (c a s b H _ I h) fun v k ⟨x,g,i,j,f⟩=>⟨b,g,i,f⟩) I.quiet d
def Xi (te:TE):TS:=fun D a H=>te a H D.rt
def NQ (d:PE X e te):PS X (.Return (some e) pos) (Xi te):=by
 intro a s b H D I h;exact wpAny_Return_some (thn (d a s b H _ I h) fun v j ⟨x,g,i,c,f⟩=>⟨x,b,g,i,c,f⟩)
def Xj (c:TT) (t u:TS):TS:=fun D a H=>c a H fun b d=>if b=true then t D a d else u D a d
def Th (o:PT X c l) (m:PSs X a t) (n:PSs X b u):PS X (.If c a b pos) (Xj l t u):=by
 intro e s f H D I h;refine wpAny_If (thn (o e s f H _ I h) fun d k ⟨i,j,g⟩=>?_);cases d with
 |true=>exact m e k f i D j g
 |false=>exact n e k f i D j g
end
abbrev TG:=V->St->Hp->(St->Hp->Prop)->Prop
abbrev TGs:=List V->St->Hp->(St->Hp->Prop)->Prop
def PG (X:Cx) (a:Expr) (t:TG):Prop :=
 ∀(b:List (Addr × Obj)) (s:Shared) (d:St) (H:Hp) (v:V) (u:Value) (Q:St->Hp->Prop),Inv X b d H s->RelV v u->t v d H Q ->
  wpAny (model X.prog X.w) X.A (assign a X.env u) (fun _ s'=>∃c H',Inv X b c H' s'/\Q c H') X.xe s
def PGs (X:Cx) (ts:List Expr) (t:TGs):Prop :=
 ∀(a:List (Addr × Obj)) (s:Shared) (c:St) (H:Hp) (vs:List V) (us:List Value) (Q:St->Hp->Prop),Inv X a c H s->Vals vs us->t vs c H Q ->
  wpAny (model X.prog X.w) X.A (assignInOrder ((assignEach ts X.env).map (·.2)) us) (fun _ s'=>∃b H',Inv X a b H' s'/\Q b H') X.xe s
abbrev Ao:=V->V->V->Hp->(Hp->Prop)->Prop
def PSet (X:Cx) (t:Ao):Prop :=
 ∀(a:List (Addr × Obj)) (s:Shared) (c:St) (H:Hp) (o i v:V) (d b u:Value) (Q:Hp->Prop),Inv X a c H s->RelV o d->RelV i b->RelV v u->t o i v H Q ->
  wpAny (model X.prog X.w) X.A (setItem d b u) (fun _ s'=>∃H',Inv X a c H' s'/\Q H') X.xe s
section
variable {pos:Pos}
def K5 (i:Nat):TG:=fun v a H Q=>Q (a.set i (some v)) H
def Hl (c:X.N.Nodup) (f:X.N[i]?=some x) (e:Loc X.env.scope x) (b:X.fn x=true\/X.env.scope.names.lookup x=some .local:=by first | exact .inl rfl | exact .inr rfl | assumption):PG X (.Name x pos) (K5 i):=by
 intro a s g H v u Q I r h;exact wpAny_assign_Name (rB I c f e r (fun s' d=>⟨_,H,d,h⟩) b)
def Xk:TGs:=fun vs a H Q=>vs=[]/\Q a H
def Ti (t:TG) (u:TGs):TGs:=fun vs b H Q=>∃v r,vs=v::r/\t v b H fun a H'=>u r a H' Q
def Hm:PGs X [] Xk:=by
 intro a s b H vs us Q I r h;obtain⟨e,h⟩:=h;subst e;cases r;exact assignInOrder_nil ⟨b,H,I,h⟩
def Aq (i:PG X e t) (j:PGs X b u) (f:(assignEach (e::b) X.env).map (·.2)=assign e X.env::(assignEach b X.env).map (·.2):=by rfl):PGs X (e::b) (Ti t u):=by
 intro a s o H vs us Q I r h;obtain⟨v,p,l,h⟩:=h;subst l;cases r with
 |cons r d =>
 rw[f];refine assignInOrder_cons (thn (i a s o H _ _ _ I r h) fun _ n ⟨c,k,m,g⟩=>?_);exact j a n c k _ _ Q m d g
def Xl (K:Frag) (n:Nat) (t:TGs):TG:=fun v b H Q=>∃a xs,v=.ref a/\SqT K H a xs/\xs.length=n/\t xs b H Q
def NT {k:Nat} (m:X.calm=true) (h:PGs X d t) (y:(assignEach d X.env).length=n:=by rfl) (f:(assignEach d X.env).findIdx? (·.1)=none:=by rfl):PG X (.Tuple d k pos) (Xl X.K n t):=by
 intro c s j H v u Q I r g;obtain⟨a,xs,x,A,q,g⟩:=g;subst x;cases r;obtain⟨l,i,w,B⟩:=I.tuple A;refine assign_Tuple_tuple (I.ok.hd m) w (by simp [y,<- q,i.length]) f fun h' p=>?_;have z:Inv X c j H { s with heap:=h'}:=I.kept (t':=s.toks) fun b o e=>p b o (I_ (p_ e)) e;exact h c _ j H xs _ Q z (by simpa using i) g
def Xm (b d:TE) (t:Ao):TG:=fun v a H Q=>b a H fun o c=>d a c fun i e=>t o i v e fun H3=>Q a H3
def NZ (g:PE X o f) (F:PE X i e) (z:PSet X t) (w:∀v,assign (.Subscript o i pos) X.env v=(do
   let b <- holding [v] (eval o X.env)
   let c <- holding [v,b] (eval i X.env)
   standAt pos
   holding [v,b,c] (setItem b c v)
   release [v,b,c] []):=by intro _;rfl):PG X (.Subscript o i pos) (Xm f e t):=by
 intro a s d H v u Q I r h;rw[w];refine a_ (Zw (thn (g a s d H _ I h) fun b p ⟨x,A,k,m,n⟩=>?_));refine a_ (Zw (thn (F a p d A _ k n) fun c B ⟨y,l,C,E,D⟩=>?_));refine a_ (aaM (a_ (Zw (thn (z a B d l x y v b c u _ C m E r D) fun _ G ⟨H3,q,j⟩=>?_))));exact wpAny_release ⟨d,H3,q,j⟩
def Tj (te:TE) (g:TG):TS:=fun D a H=>te a H fun x b=>g x a b D.nx
def N5 (i:PE X e te) (d:PG X b g) (j:swapsWithSole [b] e pos.line X.env=pure false:=by rfl) (o:swappedStores [b] e X.env=pure none:=by rfl) (l:(assignEach [b] X.env).map (·.2)=[assign b X.env]:=by rfl):PS X (.Assign [b] e pos) (Tj te g):=by
 intro a s c H D I h;refine wpAny_Assign_stores (thn (i a s c H _ I h) fun v p ⟨x,m,n,f,k⟩=>?_) j o;rw[l];exact thn (d a p c m x v _ n f k) fun _ r q=>q
def N6 (d:X.N.Nodup) (q:X.N[i]?=some x) (l:Loc X.env.scope x) (g:PE X e te) (j:swapsWith e (some (.Name x a)) pos.line X.env=pure false:=by rfl) (c:X.fn x=true\/X.env.scope.names.lookup x=some .local:=by first | exact .inl rfl | exact .inr rfl | assumption):
  PS X (.Assign [.Name x a] e pos) (Tj te (K5 i)):=by
 intro b s p H D I h;refine wpAny_Assign_Name (thn (g b s p H _ I h) fun v t ⟨y,m,n,f,k⟩=>?_) j;exact rB n d q l f (fun r o=>⟨_,m,o,k⟩) c
def N7 (c:TT) (tb:TS):TS:=fun D a H=>∃W:Nat->St->Hp->Prop,(∃m,W m a H)/\∀m a H,W m a H ->
 c a H fun b e=>if b=true then ∃N:St->Hp->Prop,(∀d H',N d H'->∃f,f<m/\W f d H')/\tb { D with nx:=N,ct:=N,bk:=D.nx} a e else D.nx a e
def Ar (z:PassesOwn (model X.prog X.w) X.A X.env X.xe) (O:PT X c u) (G:PSs X g tb):PS X (.While c g [] pos) (N7 u tb):=by
 intro a s M H D I h;obtain⟨W,⟨C,K⟩,i⟩:=h;refine wpAny_While (codeAny_whileLoop (fun n s'=>∃j H',Inv X a j H' s'/\W n j H') ?_ C ⟨M,H,I,K⟩);rintro n F ⟨e,y,E,J⟩;refine aap z (thn (O a F e y _ E (i n e y J)) fun b L ⟨x,B,l⟩=>?_);cases b with
 |true =>
  obtain⟨N,t,l⟩:=l;rw[if_pos rfl];refine aap z (thn (G a L e x _ B l) fun f P k=>?_);cases f with
  |next=>obtain⟨d,H3,p,m⟩:=k;obtain⟨q,r,o⟩:=t d H3 m;exact⟨q,r,d,H3,p,o⟩
  |cont=>obtain⟨d,H3,p,m⟩:=k;obtain⟨q,r,o⟩:=t d H3 m;exact⟨q,r,d,H3,p,o⟩
  |brk=>exact k
  |ret v=>exact k
 |false =>
 rw[if_neg J_];exact aaY ⟨e,x,B,l⟩
end
structure It where
 go:Nat->Hp->Prop
 yld:Nat->Hp->V->Hp->Prop
 stop:Nat->Hp->Prop
def lY (X:Cx) (a:List (Addr × Obj)) (H:Hp) (b:Addr):Prop :=
 H b=none/\b≠X.env.locals/\b∉X.fs/\(b∈X.ex\/X.s₀.heap.objs.size<=b)/\(∀x c,X.env.cells.lookup x=some c->c≠b)/\∀p∈X.pn++a,p.1≠b
def Inv.fpOk {g:St}{b:Addr} (I:Inv X a g H s) (d:s.heap.objs.size<=b) (h:H' b=none):lY X a H' b:=by
 refine⟨h,Yz (K_ I.lt d),I.nofs d,.inr (Q_ I.sz d),fun x c e z=>?_,fun p f z=>?_⟩
 ·obtain⟨v,q⟩:=I.cell x c e;exact absurd (K_ q.lt (by rw[z];exact d)) (YM _)
 exact absurd (K_ (p_ (I.pin p f).1) (by rw[z];exact d)) (YM _)
structure Turn (P:Program) (w:World) (K:Frag) (tg:Expr) (J:It) (fp:List Addr) (it:Addr) (tn:Nat->Heap->Prop):Prop where
 mem:it∈fp
 obj:∀i h,tn i h->∀b∈fp,∃o,h.get? b=some o/\∀v,o.data≠.cell v
 keep:∀i h h',tn i h->(∀b∈fp,∀o,h.get? b=some o->h'.get? b=some o)->tn i h'
 item:∀(X:Cx),X.prog=P->X.w=w->X.K=K->X.calm=true->∀(i:Nat) (pins:List (Addr × Obj)) (s:Shared) (σ:St) (H:Hp) (E:Value->Shared->Prop),Inv X pins σ H s->(∀b∈fp,lY X pins H b)->tn i s.heap->J.go i H ->
  wpAny (model P w) X.A (pyNext (.ref it)) (fun r s1=>∃u,r=some u /\
   wpAny (model P w) X.A (letOwnedTupleGo tg (.ref it) u) (fun _ s2=>∃x H',Inv X pins σ H' s2/\RelV x u/\J.yld i H x H'/\tn (i+1) s2.heap/\∀b∈fp,H' b=none) E s1) E s
 done:∀(X:Cx),X.prog=P->X.w=w->X.K=K->X.calm=true->∀(i:Nat) (pins:List (Addr × Obj)) (s:Shared) (σ:St) (H:Hp) (E:Value->Shared->Prop),Inv X pins σ H s->(∀b∈fp,lY X pins H b)->tn i s.heap->J.stop i H ->
  wpAny (model P w) X.A (pyNext (.ref it)) (fun r s1=>r=none/\Inv X pins σ H s1) E s
 self:∀(A:Around) (i:Nat) (s:Shared) (Q:Value->Shared->Prop) (E:Value->Shared->Prop),tn i s.heap->Q (.ref it) s->wpAny (model P w) A (pyIter (.ref it)) Q E s
abbrev TI:=St->Hp->(It->Hp->Prop)->Prop
def PIE (X:Cx) (a:List (Addr × Obj)) (g:St) (h:Expr) (R:It->Hp->Prop) (c:Value) (f:Shared):Prop :=
 ∃(it:Addr) (e:List Addr) (d:Nat->Heap->Prop) (J:It) (H':Hp),c=.ref it/\Inv X a g H' f/\Turn X.prog X.w X.K h J e it d/\d 0 f.heap/\(∀b∈e,lY X a H' b)/\R J H'
def PI (X:Cx) (f b:Expr) (d:TI):Prop :=
 ∀(a:List (Addr × Obj)) (s:Shared) (c:St) (H:Hp) (R:It->Hp->Prop),Inv X a c H s->d c H R ->
  wpAny (model X.prog X.w) X.A (eval b X.env) (fun v e=>wpAny (model X.prog X.w) X.A (pyIter v) (PIE X a c f R) X.xe e) X.xe s
def xf (c:s.heap.get? it=some o) (d:o.cls=.type n) (e:o.data=.fields vs) (f:["enumerate","zip","dict_itemiterator","dict_reverseitemiterator","odict_iterator","itertools.zip_longest","itertools.pairwise"].contains n=false) (a:Q () s):wpAny M A (letOwnedTupleGo b (.ref it) u) Q E s:=by
 unfold letOwnedTupleGo;cases b <;> first
  |exact n_ a
  | (cases u <;> first
    |exact n_ a
    | (refine a_ (wpAny_load c ?_)
       rw[d,e]
       show wpAny M A (if (["enumerate","zip","dict_itemiterator","dict_reverseitemiterator","odict_iterator","itertools.zip_longest","itertools.pairwise"].contains n&&vs[0]?==some (rawInt _))=true then _ else _) Q E s
       rw[if_neg (by intro h;rw[f,aa5] at h;cases h)]
       exact n_ a))
def Itl (K:Frag) (a:Addr):It :=
 ⟨fun i H=>∃xs x,SqL K H a xs/\xs[i]?=some x,fun i H x H'=>H'=H/\∀xs,SqL K H a xs->xs[i]?=some x,fun i H=>∃xs,SqL K H a xs/\xs.length<=i⟩
def Itt (K:Frag) (a:Addr):It :=
 ⟨fun i H=>∃xs x,SqT K H a xs/\xs[i]?=some x,fun i H x H'=>H'=H/\∀xs,SqT K H a xs->xs[i]?=some x,fun i H=>∃xs,SqT K H a xs/\xs.length<=i⟩
def Itr (a:Int) (n:Nat):It:=⟨fun i _=>i<n,fun i H x H'=>H'=H/\x=.int (a+i),fun i _=>n<=i⟩
def yX {K:Frag} (a it:Addr):Turn P w K W (Itl K a) [it] it (fun i h=>h.IsListIter it a i) where
 mem:=by simp
 obj:=fun i h st b g=>by
  have e:b=it:=by simpa using g
  subst e
  obtain⟨o,e,c,d⟩:=st
  exact⟨o,e,fun v z=>by rw[d] at z;cases z⟩
 keep:=fun i h h' st k=>st.at fun o e=>k it (by simp) o e
 item:=by
  intro X G D C L i f s M H E I l st B
  subst G D C
  obtain⟨xs,x,m,q⟩:=B
  obtain⟨A,J,p,U⟩:=I.list m
  obtain⟨u,R,Q⟩:=J.get q
  obtain⟨t,n,S,F,r,y⟩:=l it (by simp)
  refine wpAny_pyNext_list_item st p.isList (x:=u) (by simpa using R) fun h' j V=>?_
  have O:Inv X f M H { s with heap:=h'}:=I.turned (t':=s.toks) (fun b o g e=>(V.2 b g).trans e) t n F r y
  obtain⟨o,e,c,d⟩:=id j
  exact⟨u,rfl,xf (s:={ s with heap:=h'}) e c d (by decide) ⟨x,H,O,Q,⟨rfl,fun Y N=>by rw[I.list_inj N m];exact q⟩,j,fun b g=>(l b g).1⟩⟩
 done:=by
  intro X G D C L i f s M H E I l st B
  subst G D C
  obtain⟨xs,m,q⟩:=B
  obtain⟨A,J,p,U⟩:=I.list m
  obtain⟨t,n,S,F,r,y⟩:=l it (by simp)
  have Z:=J.length
  exact wpAny_pyNext_list_end (I.ok.hd L) st p.isList (by simp;omega) fun h' T=>⟨rfl,I.turned (t':=s.toks) (fun b o g e=>T b o g e) t n F r y⟩
 self:=fun _ _ _ _ _ st h=>wpAny_pyIter_listiter st h
def uU {K:Frag} (a it:Addr):Turn P w K W (Itt K a) [it] it (fun i h=>h.IsTupleIter it a i) where
 mem:=by simp
 obj:=fun i h st b g=>by
  have e:b=it:=by simpa using g
  subst e
  obtain⟨o,e,c,d⟩:=st
  exact⟨o,e,fun v z=>by rw[d] at z;cases z⟩
 keep:=fun i h h' st k=>st.at fun o e=>k it (by simp) o e
 item:=by
  intro X G D C L i f s M H E I m st B
  subst G D C
  obtain⟨xs,x,n,r⟩:=B
  obtain⟨j,J,p,U⟩:=I.tuple n
  obtain⟨u,R,Q⟩:=J.get r
  obtain⟨y,q,S,F,t,A⟩:=m it (by simp)
  refine wpAny_pyNext_tuple_item st (show s.heap.IsTuple a j.toArray from p) (x:=u) (by simpa using R) fun h' l V=>?_
  have O:Inv X f M H { s with heap:=h'}:=I.turned (t':=s.toks) (fun b o g e=>(V.2 b g).trans e) y q F t A
  obtain⟨o,e,c,d⟩:=id l
  exact⟨u,rfl,xf (s:={ s with heap:=h'}) e c d (by decide) ⟨x,H,O,Q,⟨rfl,fun Y N=>by rw[I.tuple_inj N n];exact r⟩,l,fun b g=>(m b g).1⟩⟩
 done:=by
  intro X G D C L i f s M H E I m st B
  subst G D C
  obtain⟨xs,n,r⟩:=B
  obtain⟨j,J,p,U⟩:=I.tuple n
  obtain⟨y,q,S,F,t,A⟩:=m it (by simp)
  have Z:=J.length
  exact wpAny_pyNext_tuple_end (I.ok.hd L) st (show s.heap.IsTuple a j.toArray from p) (by simp;omega) fun h' T=>⟨rfl,I.turned (t':=s.toks) (fun b o g e=>T b o g e) y q F t A⟩
 self:=fun _ _ _ _ _ st h=>wpAny_pyIter_tupleiter st h
def uV {K:Frag} (it:Addr) (g:Int) (n:Nat):Turn P w K M (Itr g n) [it] it (fun i h=>IsRangeIter h it (g+(i:Nat)*1) ((n:Int) - (i:Nat)) 1) where
 mem:=by simp
 obj:=fun i h st b c=>by
  have e:b=it:=by simpa using c
  subst e
  exact⟨_,st,fun v z=>by
   have G:Data.fields _=Data.cell v:=z
   cases G⟩
 keep:=fun i h h' st k=>k it (by simp) _ st
 item:=by
  intro X A x u m i a s B H E I f st r
  subst A x u
  obtain⟨p,j,J,y,l,q⟩:=f it (by simp)
  have W:=Walks.range (prog:=X.prog) (w:=X.w) (I.ok.hd m) it g 1 n
  refine W.item i s _ _ r st fun v h' tk C d D=>?_
  obtain⟨t,rfl⟩:=C
  have F:Inv X a B H { s with heap:=h',toks:=tk}:=I.turned (fun b o c e=>D b o (by simpa using c) e) p j y l q
  refine⟨_,rfl,xf (s:={ s with heap:=h',toks:=tk}) (n:="range_iterator") d rfl rfl (by decide) ⟨.int (g+i),H,F,⟨t,?_⟩,⟨rfl,rfl⟩,d,fun b c=>(f b c).1⟩⟩
  rw[Int.mul_one]
 done:=by
  intro X A x u m i a s B H E I f st r
  subst A x u
  obtain⟨p,j,J,y,l,q⟩:=f it (by simp)
  exact wpAny_pyNext_range_end (I.ok.hd m) st (by have:n<=i:=r;omega) fun h' L=>⟨rfl,I.turned (t':=s.toks) (fun b o c e=>L b o c e) p j y l q⟩
 self:=fun _ _ _ _ _ st h=>wpAny_pyIter_rangeiter st h
section
variable {X:Cx}{tg:Expr}
def Tn (K:Frag) (d:TE):TI:=fun c H R=>d c H fun x b=>∃a,x=.ref a/\(∃xs,SqL K b a xs)/\R (Itl K a) b
def Xn (K:Frag) (d:TE):TI:=fun c H R=>d c H fun x b=>∃a,x=.ref a/\(∃xs,SqT K b a xs)/\R (Itt K a) b
def Hn (r:PE X l g):PI X tg l (Tn X.K g):=by
 intro c s t H R I h;refine thn (r c s t H _ I h) fun v f ⟨x,n,d,j,k⟩=>?_;obtain⟨a,e,⟨xs,u⟩,q⟩:=k;subst e;cases j;obtain⟨i,y,p,w⟩:=d.list u;refine wpAny_pyIter_list p.isList ?_;refine⟨f.heap.objs.size,[f.heap.objs.size],_,_,n,rfl,d.kept (t':=f.toks) fun b o e=>b_ _ e,yX a _,⟨_,o_ _ rfl,rfl,rfl⟩,fun b m=>?_,q⟩;have e:b=f.heap.objs.size:=by simpa using m
 subst e;exact d.fpOk (l_ _) (d.hok.fresh (l_ _))
def N8 (r:PE X l i):PI X tg l (Xn X.K i):=by
 intro d s t H R I h;refine thn (r d s t H _ I h) fun v c ⟨x,n,f,j,k⟩=>?_;obtain⟨a,e,⟨xs,u⟩,q⟩:=k;subst e;cases j;obtain⟨g,y,p,w⟩:=f.tuple u;refine aaF (show c.heap.IsTuple a g.toArray from p) ?_;refine⟨c.heap.objs.size,[c.heap.objs.size],_,_,n,rfl,f.kept (t':=c.toks) fun b o e=>b_ _ e,uU a _,⟨_,o_ _ rfl,rfl,rfl⟩,fun b m=>?_,q⟩;have e:b=c.heap.objs.size:=by simpa using m
 subst e;exact f.fpOk (l_ _) (f.hok.fresh (l_ _))
def rD {f:St} (I:Inv X d f H s) (j : -(2^62)<=a) (k:a<2^62) (i : -(2^62)<=c) (h:c<2^62) (q:R (Itr a (c - a).toNat) H):wpAny (model X.prog X.w) X.A (pyIter (.ref s.heap.objs.size)) (PIE X d f tg R) E { s with heap:=s.heap.push { cls:=.type "range",data:=.fields #[.int a t,.int c u,.int 1 v]},toks:=tk}:=by
 refine wpAny_pyIter_range (IsRange.new ..) (small_one j k i h) ?_;have g:Inv X d f H { s with heap:=s.heap.push { cls:=.type "range",data:=.fields #[.int a t,.int c u,.int 1 v]},toks:=tk}:=I.kept fun b o e=>b_ _ e;refine⟨(s.heap.push { cls:=.type "range",data:=.fields #[.int a t,.int c u,.int 1 v]}).objs.size,[(s.heap.push { cls:=.type "range",data:=.fields #[.int a t,.int c u,.int 1 v]}).objs.size],_,_,H,rfl,
  g.kept (t':=tk) fun b o e=>b_ _ e,uV _ a (c - a).toNat,?_,fun b n=>?_,q⟩
 ·have l:a+((0:Nat):Int)*1=a:=by simp
  have m:(((c - a).toNat:Nat):Int) - ((0:Nat):Int)=Builtin.Range.rangeSize a c 1:=by rw[rangeSize_one];split <;> omega
  show IsRangeIter _ _ (a+((0:Nat):Int)*1) ((((c - a).toNat:Nat):Int) - ((0:Nat):Int)) 1;rw[l,m];exact o_ _ rfl
 have e:b=(s.heap.push { cls:=.type "range",data:=.fields #[.int a t,.int c u,.int 1 v]}).objs.size:=by simpa using n
 subst e;exact g.fpOk (l_ _) (g.hok.fresh (l_ _))
def Tp (b:TA):TI:=fun c H R=>b c H fun vs a=>∃j:Int,vs=[.int j] /\ -(2^62)<=j/\j<2^62/\R (Itr 0 j.toNat) a
def Tq (b:TA):TI:=fun c H R=>b c H fun vs a=>∃i j:Int,vs=[.int i,.int j]/\(-(2^62)<=i/\i<2^62 /\ -(2^62)<=j/\j<2^62)/\R (Itr i (j - i).toNat) a
def yZ (i:Gl X "range") (k:X.mg "range"=none) (l:PA X [a] f) (o:starEach [a] X.env=[(false,eval a X.env)]:=by rfl):PI X tg (.Call (.Name "range" p) [a] [] b) (Tp f):=by
 intro c s v H R I h;refine Call_ (fU I i k boot_range (YS (thn (l b c s v H _ I h) fun us x ⟨vs,w,u,m,d⟩=>?_) o rfl));obtain⟨j,e,d,g,q⟩:=d;subst e;cases m with
 |cons r n =>
 cases n;obtain⟨t,rfl⟩:=r;exact call_range_1 (rD u (by omega) (by omega) d g (by simpa using q))
def za {p c:Pos} (v:Gl X "range") (A:X.mg "range"=none) (w:PA X [a,b] l) (x:starEach [a,b] X.env=[(false,eval a X.env),(false,eval b X.env)]:=by rfl) (f:starEach [b] X.env=[(false,eval b X.env)]:=by rfl):
  PI X tg (.Call (.Name "range" p) [a,b] [] c) (Tq l):=by
 intro d s y H R I h;refine Call_ (fU I v A boot_range (YS (thn (w c d s y H _ I h) fun us C ⟨vs,D,n,o,g⟩=>?_) (by rw[x,f]) (by rw[f];rfl)));obtain⟨i,j,e,⟨g,z,m,B⟩,q⟩:=g;subst e;cases o with
 |cons r k =>
 cases k with
 |cons u k =>
 cases k;obtain⟨t,rfl⟩:=r;obtain⟨t',rfl⟩:=u;exact call_range_2 (rD n g z m B q)
def Xo (h:TI) (g:TG) (tb:TS):TS:=fun D a H=>h a H fun J f=>∃W:Nat->Nat->St->Hp->Prop,(∃m,W 0 m a f)/\∀i m a H,W i m a H ->
 (J.stop i H/\D.nx a H)\/(J.go i H/\∃N:St->Hp->Prop,(∀b H',N b H'->∃d,d<m/\W (i+1) d b H')/\∀x H',J.yld i H x H'->g x a H' fun c e=>tb { D with nx:=N,ct:=N,bk:=D.nx} c e)
def lZ (a : List Addr) (h : Heap) : List (Addr × Obj):=a.filterMap fun b => (h.get? b).map fun o => (b,o)
def gB (c : b ∈ a) (e : h.get? b = some o): (b,o) ∈ lZ a h:=List.mem_filterMap.mpr ⟨b,c,by rw [e]; rfl⟩
def zb (c:p∈lZ a h):p.1∈a/\h.get? p.1=some p.2:=by
 obtain ⟨b,f,e⟩:=List.mem_filterMap.mp c;cases q : h.get? b with
 |none=>rw[q] at e;cases e
 |some o =>
 rw[q] at e;have d:(b,o)=p:=O_ e;subst d;exact⟨f,q⟩
def Inv.pinned {h:St} (I:Inv X a h H s) (i:∀b∈c,lY X a H b) (j:∀b∈c,∃o,s.heap.get? b=some o/\∀v,o.data≠.cell v):Inv X (a++lZ c s.heap) h H s :=
 I.pins_of fun p l=>(v_.mp l).elim (fun z=>I.pin p (U_ _ z)) fun z=>by
  obtain⟨g,e⟩:=zb z;obtain⟨n,k,m,_⟩:=i p.1 g;obtain⟨o,f,d⟩:=j p.1 g;rw[e] at f;cases f;exact⟨e,n,k,m,d⟩
def Inv.unpinned {b:St} (I:Inv X (a++pl) b H s):Inv X a b H s:=I.pins_of fun p c=>I.pin p (U_ _ (T_ _ c))
def Oa (P:PassesOwn (model X.prog X.w) X.A X.env X.xe) (hc:X.calm=true) (hi:PI X tg k wi) (hg:PG X tg g) (l:PSs X B tb) (hs:∀x,foldedSetIterable k X.env x=pure x:=by intro _;rfl):PS X (.For tg k B [] S) (Xo wi g tb):=by
 intro a s σ H D I h;refine wpAny_For (thn (hi a s σ H _ I h) fun v s1 h1=>thn h1 fun itv s2 h2=>?_) hs;obtain⟨it,G,tn,J,H2,e,I2,T,U,f2,W,⟨m0,w0⟩,Q⟩:=h2;subst e
 have j:∀{H':Hp},(∀b∈G,H' b=none)->∀b∈G,lY X a H' b:=fun hn b l=>⟨hn b l,(f2 b l).2⟩;refine codeAny_forLoop_any (fun n s'=>∃i z H',Inv X a z H' s'/\tn i s'.heap/\(∀b∈G,H' b=none)/\W i n z H') ?_ m0 ⟨0,σ,H2,I2,U,fun b l=>(f2 b l).1,w0⟩;rintro n s3 ⟨i,p,H3,I3,F,L,w3⟩;rcases Q i n p H3 w3 with ⟨O,qn⟩ | ⟨go,N,hN,M⟩
 ·refine aap P (thn (T.done X rfl rfl rfl hc i a s3 p H3 X.xe I3 (j L) F O) fun r s4 ⟨hr,I4⟩=>?_);subst hr;exact aaY ⟨p,H3,I4,qn⟩
 refine aap P (thn (T.item X rfl rfl rfl hc i a s3 p H3 X.xe I3 (j L) F go) fun r s4 ⟨u,hr,h4⟩=>?_);subst hr;refine aap P (thn h4 fun _ s5 ⟨x,H5,I5,r5,y5,E,Z⟩=>?_);have R:=I5.pinned (j Z) (T.obj _ _ E);refine aap P (thn (hg _ s5 p H5 x u _ R r5 (M x H5 y5)) fun _ s6 ⟨V,H6,I6,q6⟩=>?_);refine aap P (thn (l _ s6 V H6 _ I6 q6) fun f Y C=>?_);have q:∀{c:St} {t:Hp},Inv X (a++lZ G s5.heap) c t Y->N c t->∃m,m<n/\∃i z H',Inv X a z H' Y/\tn i Y.heap/\(∀b∈G,H' b=none)/\W i m z H':=fun {c t} y K=>by obtain⟨m',hm,w7⟩:=hN c t K;refine⟨m',hm,i+1,c,t,y.unpinned,T.keep _ _ _ E fun b l o e=>(y.pin (b,o) (U_ _ (U_ _ (gB l e)))).1,fun b l=>?_,w7⟩;obtain⟨o,e,d⟩:=T.obj _ _ E b l;exact (y.pin (b,o) (U_ _ (U_ _ (gB l e)))).2.1
 cases f with
 |next=>obtain⟨c,t,y,K⟩:=C;exact q y K
 |cont=>obtain⟨c,t,y,K⟩:=C;exact q y K
 |brk=>obtain⟨c,t,y,C⟩:=C;exact⟨c,t,y.unpinned,C⟩
 |ret v=>obtain⟨x7,c,t,y,r7,C⟩:=C;exact⟨x7,c,t,y.unpinned,r7,C⟩
end
abbrev R2:=V->V->Hp->VK->Prop
def OpR (X:Cx) (f:Value->Value->Sem Value) (r:R2):Prop :=
 ∀(a:List (Addr × Obj)) (s:Shared) (b:St) (H:Hp) (x y:V) (v u:Value) (Q:VK),Inv X a b H s->RelV x v->RelV y u->r x y H Q ->
  wpAny (model X.prog X.w) X.A (f v u) (EP X a b Q) X.xe s
def UnR (X:Cx) (f:Value->Sem Value) (r:V->Hp->VK->Prop):Prop :=
 ∀(a:List (Addr × Obj)) (s:Shared) (b:St) (H:Hp) (x:V) (v:Value) (Q:VK),Inv X a b H s->RelV x v->r x H Q ->
  wpAny (model X.prog X.w) X.A (f v) (EP X a b Q) X.xe s
def CallR (X:Cx) (f:Value) (r:List V->Hp->VK->Prop):Prop :=
 ∀(a:List (Addr × Obj)) (s:Shared) (b:St) (H:Hp) (xs:List V) (us:List Value) (Q:VK),Inv X a b H s->Vals xs us->r xs H Q ->
  wpAny (model X.prog X.w) X.A (call f us) (EP X a b Q) X.xe s
def tOp (r:R2) (c tb:TE):TE:=fun a H Q=>c a H fun x b=>tb a b fun y d=>r x y d Q
def tUn (r:V->Hp->VK->Prop) (b:TE):TE:=fun c H Q=>b c H fun x a=>r x a Q
def rI (C:Int->Int->Prop) (g:Int->Int->V):R2:=fun x y H Q=>∃i j,x=.int i/\y=.int j/\C i j/\Q (g i j) H
def rI0 (g:Int->Int->V):R2:=fun x y H Q=>∃i j,x=.int i/\y=.int j/\Q (g i j) H
def rU (g:Int->V):V->Hp->VK->Prop:=fun x H Q=>∃i,x=.int i/\Q (g i) H
section
variable {X:Cx}{a b c:Expr}
def Ob (p:PE X a ta) (r:PE X b tb) {c:List (Addr × Obj)}{d:St}{R:V->V->Hp->Prop} (I:Inv X c d H s) (h:ta d H fun x k=>tb d k fun y e=>R x y e) {f:Value->Value->Sem Value} (l:∀v u j x y e,Inv X c d e j->RelV x v->RelV y u->R x y e->wpAny (model X.prog X.w) X.A (f v u) Q X.xe j):
  wpAny (model X.prog X.w) X.A (eval a X.env) (fun v g=>wpAny (model X.prog X.w) X.A (eval b X.env) (fun u i=>wpAny (model X.prog X.w) X.A (f v u) Q X.xe i) X.xe g) X.xe s:=by
 refine thn (p c s d H _ I h) fun v n ⟨x,k,t,q,B⟩=>?_;refine thn (r c n d k _ t B) fun u j ⟨y,e,z,o,m⟩=>?_;exact l v u j x y e z q o m
def Tr (f:OpR X (binaryOp d) r) (e:PE X a ta) (g:PE X b tb):PE X (.BinOp a d b pos) (tOp r ta tb):=by
 intro c s l H Q I h;exact wpAny_BinOp (Ob e g I h fun v u i x y n k j m q=>f c i l n x y v u Q k j m q)
def Tt {c:UnaryOp} (g:UnR X (unaryOp c) r) (f:PE X a ta):PE X (.UnaryOp c a pos) (tUn r ta):=by
 intro b s d H Q I h;exact UnaryOp_ (thn (f b s d H _ I h) fun v l ⟨x,j,k,e,i⟩=>g b l d j x v Q k e i)
def opI {g:Int->Int->Int} (a:∀(i j:Int) (t u:Tok) (s:Shared) (Q:Value->Shared->Prop) (E:Value->Shared->Prop),C i j->Q (.int (g i j) s.toks) { s with toks:=s.toks+1}->wpAny (model X.prog X.w) X.A (f (.int i t) (.int j u)) Q E s):
  OpR X f (rI C fun i j=>.int (g i j)):=by
 intro b s k H x y v u Q I d e h;obtain⟨i,j,rfl,rfl,c,q⟩:=h;obtain⟨t,rfl⟩:=d;obtain⟨t',rfl⟩:=e;exact a i j t t' s _ _ c ⟨.int (g i j),H,I.tok _,⟨_,rfl⟩,q⟩
def Hq {g:Int->Int->Int} (a:∀(i j:Int) (t u:Tok) (s:Shared) (Q:Value->Shared->Prop) (E:Value->Shared->Prop),Q (.int (g i j) s.toks) { s with toks:=s.toks+1}->wpAny (model X.prog X.w) X.A (f (.int i t) (.int j u)) Q E s):
  OpR X f (rI0 fun i j=>.int (g i j)):=by
 intro b s e H x y v u Q I c d h;obtain⟨i,j,rfl,rfl,q⟩:=h;obtain⟨t,rfl⟩:=c;obtain⟨t',rfl⟩:=d;exact a i j t t' s _ _ ⟨.int (g i j),H,I.tok _,⟨_,rfl⟩,q⟩
def Oc {g:Int->Int->Bool} (a:∀(i j:Int) (t u:Tok) (s:Shared) (Q:Value->Shared->Prop) (E:Value->Shared->Prop),Q (.bool (g i j)) s->wpAny (model X.prog X.w) X.A (f (.int i t) (.int j u)) Q E s):
  OpR X f (rI0 fun i j=>.bl (g i j)):=by
 intro b s e H x y v u Q I c d h;obtain⟨i,j,rfl,rfl,q⟩:=h;obtain⟨t,rfl⟩:=c;obtain⟨t',rfl⟩:=d;exact a i j t t' s _ _ ⟨.bl (g i j),H,I,rfl,q⟩
def Tu (i j:Int):Prop:=0<=j/\j<=1000000/\i.natAbs<2^64
def CMul (i j:Int):Prop:=(-(2^64)<i/\i<2^64)\/(-(2^64)<j/\j<2^64)
def CMul.ok (h:CMul i j):IntMulOk i j:=by
 rcases h with ⟨b,a⟩ | ⟨b,a⟩
 ·exact .of_left (intBits_le_64 b a)
 exact .of_right (intBits_le_64 b a)
def op_add:OpR X (binaryOp .Add) (rI0 fun i j=>.int (i+j)):=Hq fun _ _ _ _ _ _ _ q=>add_int q
def Od:OpR X (binaryOp .Sub) (rI0 fun i j=>.int (i - j)):=Hq fun _ _ _ _ _ _ _ q=>sub_int q
def Oe:OpR X (binaryOp .Mult) (rI CMul fun i j=>.int (i*j)):=opI fun _ _ _ _ _ _ _ a q=>mul_int q a.ok
def Og:OpR X (binaryOp .Mod) (rI (fun _ j=>0<j) fun i j=>.int (i%j)):=opI fun i j _ _ _ _ _ a q=>by
 have b:(0:Int)<j:=a;exact mod_int' (by omega) (by rw[Int.fmod_eq_emod_of_nonneg i (by omega)];exact q)
def Oh:OpR X (binaryOp .Pow) (rI Tu fun i j=>.int (i^j.toNat)):=opI fun _ _ _ _ _ _ _ a q=>pow_int_small a.1 a.2.1 a.2.2 q
def Oi:OpR X (binaryOp .BitAnd) (rI0 fun i j=>.int (Builtin.bitAnd i j)):=Hq fun _ _ _ _ _ _ _ q=>and_int q
def Tv:OpR X (binaryOp .BitOr) (rI0 fun i j=>.int (Builtin.bitOr i j)):=Hq fun _ _ _ _ _ _ _ q=>or_int q
def unI {g:Int->Int} (a:∀(i:Int) (t:Tok) (s:Shared) (Q:Value->Shared->Prop) (E:Value->Shared->Prop),Q (.int (g i) s.toks) { s with toks:=s.toks+1}->wpAny (model X.prog X.w) X.A (f (.int i t)) Q E s):
  UnR X f (rU fun i=>.int (g i)):=by
 intro b s d H x v Q I c h;obtain⟨i,rfl,q⟩:=h;obtain⟨t,rfl⟩:=c;exact a i t s _ _ ⟨.int (g i),H,I.tok _,⟨_,rfl⟩,q⟩
def Oj:UnR X (unaryOp .USub) (rU fun i=>.int (-i)):=unI fun _ _ _ _ _ q=>neg_int q
end
def mj:V->V->Bool
 |.non,.non=>true | .non,.int _=>true | .int _,.non=>true | .non,.bl _=>true | .bl _,.non=>true | .non,.str _=>true | .str _,.non=>true
 |.int _,.int _=>true | .bl _,.bl _=>true | .str _,.str _=>true | .byt _,.byt _=>true
 |.int _,.str _=>true | .str _,.int _=>true | .bl _,.str _=>true | .str _,.bl _=>true
 |_,_=>false
section
variable {X:Cx}{a b c:Expr}
def pM {a:List (Addr × Obj)}{b:St}{k c:Bool} (I:Inv X a b H s) (q:Q (.bl k) H) (e:k=c):EP X a b Q (.bool c) s:=by
 subst e;exact⟨.bl k,H,I,rfl,q⟩
def Tw:OpR X (compareOp .LtE) (rI0 fun i j=>.bl (decide (i<=j))):=Oc fun _ _ _ _ _ _ _ q=>le_int q
def Tz:OpR X (compareOp .Gt) (rI0 fun i j=>.bl (decide (j<i))):=Oc fun _ _ _ _ _ _ _ q=>gt_int q
def TF:OpR X (compareOp .GtE) (rI0 fun i j=>.bl (decide (j<=i))):=Oc fun _ _ _ _ _ _ _ q=>ge_int q
def zf:OpR X (compareOp .In) (fun x y H Q=>∃i j,x=.str i/\y=.str j/\Q (.bl (!(Builtin.Str.occurrences j i 0 j.length 1).isEmpty)) H):=by
 intro a s d H x y v u Q I c b h;obtain⟨i,j,rfl,rfl,q⟩:=h;obtain⟨t,rfl⟩:=c;obtain⟨t',rfl⟩:=b;exact in_str (pM I q rfl)
def Ol:OpR X (compareOp .Is) (fun x y H Q=>y=.non/\Q (.bl (decide (x=.non))) H):=by
 intro a s d H x y v u Q I b c h;obtain⟨rfl,q⟩:=h;cases c;refine is_none_gen (pM I q ?_);cases x <;> first
  | (cases b;rfl)
  | (obtain⟨t,rfl⟩:=b;rfl)
def Hr:OpR X (compareOp .IsNot) (fun x y H Q=>y=.non/\Q (.bl (!decide (x=.non))) H):=by
 intro a s d H x y v u Q I b c h;obtain⟨rfl,q⟩:=h;cases c;refine isnot_none_gen (pM I q ?_);cases x <;> first
  | (cases b;rfl)
  | (obtain⟨t,rfl⟩:=b;rfl)
def pN:OpR X (compareOp .NotIn) (fun x y H Q=>∃i j,x=.str i/\y=.str j/\Q (.bl (!(!(Builtin.Str.occurrences j i 0 j.length 1).isEmpty))) H):=by
 intro a s d H x y v u Q I c b h;obtain⟨i,j,rfl,rfl,q⟩:=h;obtain⟨t,rfl⟩:=c;obtain⟨t',rfl⟩:=b;exact notIn_str (pM I q rfl)
def OpR.or {r c:R2} (h:OpR X f r) (h':OpR X f c):OpR X f (fun x y H Q=>r x y H Q\/c x y H Q):=by
 intro a s d H x y v u Q I b e q;rcases q with q | q
 ·exact h a s d H x y v u Q I b e q
 exact h' a s d H x y v u Q I b e q
def Av (b:Expr) {a:CmpOp}(h:a≠.In:=by decide) (c:a≠.NotIn:=by decide):behindInMarks a b=false:=by
 have d:(a==CmpOp.In)=false:=by cases a <;> first | rfl | exact absurd rfl h
 have e:(a==CmpOp.NotIn)=false:=by cases a <;> first | rfl | exact absurd rfl c
 cases b <;> simp [behindInMarks,d,e]
def Ht (g:OpR X (compareOp d) r) (f:PE X a ta) (i:PE X b tb) (e:behindInMarks d b=false):PE X (.Compare a [d] [b] pos) (tOp r ta tb):=by
 intro c s m H Q I h;exact wpAny_Compare1 (Ob f i I h fun v u j x y o l k n q=>g c j m o x y v u Q l k n q) e
def TJ (t:TE):TT:=fun a H Q=>t a H fun x H'=>∃k,x=.bl k/\Q k H'
def Hu (i:OpR X (compareOp g) r) (w:PE X a ta) (q:PE X b tb) (F:behindInMarks g b=false):PT X (.Compare a [g] [b] pos) (TJ (tOp r ta tb)):=by
 intro d s f H Q I h;refine wpAny_isTrue_Compare1 (thn (w d s f H _ I h) fun v p ⟨x,B,l,n,o⟩=>thn (q d p f B _ l o) fun u C ⟨y,m,D,G,E⟩ =>
  thn (i d C f m x y v u _ D n G E) fun c J ⟨z,H3,t,A,k,e,j⟩=>?_) F
 subst e;cases A;exact ZR ⟨H3,t,j⟩
def Aw (r f:R2) (g tb c:TE):TE:=fun a H Q=>g a H fun x d=>tb a d fun y h=>r x y h fun z H3=>∃k,z=.bl k /\
 (if k=true then c a H3 fun b e=>f y b e Q else Q (.bl false) H3)
def Ax (t:OpR X (compareOp l) r) (j:OpR X (compareOp g) n) (M:PE X a ta) (J:PE X b tb) (W:PE X c tc) (T:lastMarks [l,g] [b,c]=false:=by with_unfolding_all rfl):PE X (.Compare a [l,g] [b,c] pos) (Aw r n ta tb tc):=by
 intro f s i H Q I h;refine Compare_chain (thn (M f s i H _ I h) fun v K ⟨x,O,w,C,G⟩=>chain_link (thn (J f K i O _ w G) fun u P ⟨y,B,R,p,S⟩ =>
  thn (t f P i B x y v u _ R C p S) fun d F ⟨z,H3,o,N,k,e,m⟩=>?_)) T
 subst e;cases N;refine ZR ?_;cases k with
 |false=>exact ite_ff ⟨.bl false,H3,o,rfl,m⟩
 |true=>exact ite_tt (chain_last (thn (W f F i H3 _ o m) fun L U ⟨E,A,q,D,V⟩=>j f U i A y E u L Q q p D V))
def jT:(sizeLine:Nat)<2^63:=by rw[aaD];decide
def op_add_str:OpR X (binaryOp .Add) (fun x y H Q=>∃i j,x=.str i/\y=.str j/\i.length+j.length<=sizeLine/\Q (.str (i++j)) H):=by
 intro a s e H x y v u Q I c d h;obtain⟨i,j,rfl,rfl,b,q⟩:=h;obtain⟨t,rfl⟩:=c;obtain⟨t',rfl⟩:=d;exact add_str (fun t' tk=>⟨.str (i++j),H,I.tok _,⟨_,rfl⟩,q⟩) b
def vals1 (r:Vals [x] us):∃u,us=[u]/\RelV x u:=by
 cases r with
 |cons b a=>cases a;exact⟨_,rfl,b⟩
def vals2 (r:Vals [x,y] us):∃u a,us=[u,a]/\RelV x u/\RelV y a:=by
 cases r with
 |cons c b =>
 cases b with
 |cons d e=>cases e;exact⟨_,_,rfl,c,d⟩
def zg:CallR X (.type "int") (fun xs H Q=>(∃i,xs=[.int i]/\Q (.int i) H)\/∃k,xs=[.bl k]/\Q (.int (if k then 1 else 0)) H):=by
 intro a s c H xs us Q I r h;rcases h with ⟨i,rfl,q⟩ | ⟨k,rfl,q⟩
 ·obtain⟨u,rfl,t,rfl⟩:=vals1 r;exact call_int_int ⟨.int i,H,I,⟨_,rfl⟩,q⟩
 obtain⟨u,rfl,b⟩:=vals1 r;cases b;exact call_int_bool ⟨.int (if k then 1 else 0),H,I.tok _,⟨_,rfl⟩,q⟩
end
structure ObjM (h:Heap) (x dx C:Addr) (mA:Str->Option Value):Prop where
 obj:h.get? x=some (instObj C dx)
 ns:h.Ns1 dx mA
 ne:dx≠x
def iB {h:Heap} (n:h.Ns1 c mA):∃od,h.get? c=some od/\∀name,lookIn name od=some (mA name):=by
 obtain⟨o,d,ep,g,l,j,_,f⟩:=n;refine⟨o,g,fun name=>?_⟩;have e:=f name;unfold nsFind findBy at e;rw[<- Array.find?_toList] at e;unfold lookIn;rw[l];dsimp only;split
 ·rename_i y q;rw[q] at e;exact W_ some e
 rename_i q;rw[q] at e;have a:d.toList.any (·.refKey)=false:=by rw[List.any_eq_false];intro y k;obtain⟨z,t,b⟩:=j y (Array.mem_toList_iff.mp k);simp [DictEntry.refKey,b]
 have i:¬d.toList.any (·.refKey)=true:=by rw[a];exact J_
 rw[if_neg i];exact W_ some e
def ObjM.look (I:ObjM h x a C mA):∃od,InstAt h x (instObj C a) C (some od)/\∀name,lookIn name od=some (mA name) :=
 let ⟨od,ho,hl⟩:=iB I.ns
 ⟨od,⟨I.obj,rfl,rfl,ho⟩,hl⟩
section
variable {s:Shared}{K:Frag}
def Hv (X:K.In s.heap) (I:ObjM s.heap x dx C mA) (d:plainGet K C name=true) (g:hasDictIn K C=true) (e:findIn K (.ref C) name=some none) (c:mA name=some v) (b:handedIn v=true) (h:Q v { s with toks:=s.toks+1}):
  wpAny (model prog w) A (getAttr (.ref x) name a) Q E s:=by
 obtain⟨od,J,f⟩:=I.look;exact PySem.W.get_value X J (plainGet_of d).1 (findObj_own g e rfl (by rw[f,c])) b h
def Ay (X:K.In s.heap) (I:ObjM s.heap x dx C mA) (a:plainGet K C name=true) (c:findIn K (.ref C) name=some (some (.ref f))) (d:isFn K (.ref f)=true) (b:mA name=none) (h:Q (.ref f,[.ref x]) s):
  wpAny (model prog w) A (getMethod (.ref x) name pl) Q E s:=by
 obtain⟨od,J,e⟩:=I.look;exact PySem.W.method_fn X J (plainGet_of a).1 (plainGet_of a).2 c (Zt.mp d) (by show (lookIn name od).map (·.isSome)=some false;rw[e,b];rfl) h
def Hw (X:K.In s.heap) (I:ObjM s.heap x dx C mA) (j:findIn K (.ref C) "__setattr__"=some (some (.builtin "object.__setattr__"))) (n:plainOver K C=true) (m:takerIn K C name=some none) (q:hasDictIn K C=true) (o:PySem.Within mA ns) (hsz:ns.length<=sizeLine) (h:∀h',ObjM h' x dx C (fun y=>if y=name then some v else mA y)->Heap.SameBut dx s.heap h'->Q () { s with heap:=h',toks:=s.toks+2}):
  wpAny (model prog w) A (setAttr (.ref x) name v) Q E s:=by
 obtain⟨od,J,z⟩:=I.look;refine set_plain X J j (PySem.W.osa_open (s:={ s with toks:=s.toks+1}) (r:=none) X J n m fun b=>?_);obtain⟨u,t,e⟩:=any_some q;have k:s.heap.get? x=some ⟨.ref C,some dx,.plain,#[]⟩:=I.obj;refine a_ (n_ (a_ (a_ (wpAny_loadPart k (a_ (Zu (s:={ s with toks:=s.toks+1}) (looks_clsIn X t) ?_))))));rw[e];refine n_ (a:=some dx) (a_ (n_ (a_ ?_)));refine wpAny_nsSet1 (s:={ s with toks:=s.toks+1}) I.ns fun h' c d=>?_;obtain⟨oD,p,l,f,g,i⟩:=c.count (PySem.Within.cons name v o);refine a_ (wpAny_lookBehind f (by rw[g];exact pastItsLine_dict (Q_ i (by rw[j_];omega))) ?_);exact n_ (h _ ⟨(d.2 _ (Ne.symm I.ne)).trans I.obj,c,I.ne⟩ d)
def Az (X:K.In s.heap) (c:makesIn K C=true) (i:findIn K (.ref C) "__init__"=some (some (.ref f))) (e:typeIn K (.ref f)=some (.type "function")) (h:codeAny (model prog w) (A.under (.builtin "type.__call__" ⟨.ref C::vs,b⟩)) (.call (.ref f) ⟨.ref (s.heap.objs.size+1)::vs,b⟩) (PySem.W.InitBack (s.heap.objs.size+1) R)
   { s with heap:=(s.heap.push emptyDict).push (instObj C s.heap.objs.size)}):
  codeAny (model prog w) A (.call (.ref C) ⟨vs,b⟩) R s:=by
 obtain⟨j,g,d,t,k⟩:=s;exact PySem.W.make_core (PySem.W.makes_of X c) (aaR X i) (fun a=>PySem.W.bind_fn X a e) (.inl rfl) h
end
def d7 (f:Str) (v:V):List (Str × V)->List (Str × V)
 |[]=>[(f,v)]
 | (g,x)::r=>if g=f then (g,v)::r else (g,x)::d7 f v r
def gR (f g:Str) (v:V):∀fs:List (Str × V),(d7 f v fs).lookup g=if g=f then some v else fs.lookup g
 |[]=>by
  show List.lookup g [(f,v)]=_
  by_cases h:g=f
  ·
   have a:(g==f)=true:=Zt.mpr h
   simp only[List.lookup,a,if_pos h]
  ·
   have a:(g==f)=false:=YZ.mpr h
   simp only[List.lookup,a,if_neg h]
 | (k,x)::r=>by
  have c:=gR f g v r
  rw[show d7 f v ((k,x)::r)=(if k=f then (k,v)::r else (k,x)::d7 f v r) from rfl]
  by_cases b:k=f
  ·
   rw[if_pos b]
   by_cases h:g=k
   ·
    have a:(g==k)=true:=Zt.mpr h
    simp only[List.lookup,a,if_pos (h.trans b)]
   ·
    have a:(g==k)=false:=YZ.mpr h
    simp only[List.lookup,a,if_neg (fun e:g=f=>h (e.trans b.symm))]
  ·
   rw[if_neg b]
   by_cases h:g=k
   ·
    have a:(g==k)=true:=Zt.mpr h
    simp only[List.lookup,a,if_neg (fun e:g=f=>b (h.symm.trans e))]
   ·
    have a:(g==k)=false:=YZ.mpr h
    simp only[List.lookup,a]
    exact c
def fW (f:Str) (v:V):∀fs:List (Str × V),f∈(d7 f v fs).map (·.1)/\∀g,g∈fs.map (·.1)->g∈(d7 f v fs).map (·.1)
 |[]=>⟨by simp [d7],fun g h=>by simp at h⟩
 | (k,x)::r=>by
  obtain⟨c,b⟩:=fW f v r
  rw[show d7 f v ((k,x)::r)=(if k=f then (k,v)::r else (k,x)::d7 f v r) from rfl]
  by_cases a:k=f
  ·
   rw[if_pos a]
   subst a
   exact⟨by simp,fun g h=>by simpa using h⟩
  ·
   rw[if_neg a]
   refine⟨?_,fun g h=>?_⟩
   ·
    rw[G_]
    exact q_ _ c
   ·
    rw[G_] at h ⊢
    rcases u_.mp h with e | e
    ·
     exact u_.mpr (.inl e)
    ·
     exact q_ _ (b g e)
def kj (f:Str) (v:V):∀fs:List (Str × V),(d7 f v fs).length<=fs.length+1
 |[]=>by simp [d7]
 | (k,x)::r=>by
  have b:=kj f v r
  rw[show d7 f v ((k,x)::r)=(if k=f then (k,v)::r else (k,x)::d7 f v r) from rfl]
  by_cases a:k=f
  ·
   rw[if_pos a,j_,j_];omega
  ·
   rw[if_neg a,j_,j_];omega
def RelO.some_of (r:RelO (some v) o):∃u,o=some u/\RelV v u:=by
 cases o with
 |none=>exact (show False from r).elim
 |some u=>exact⟨u,rfl,r⟩
def RelO.none_of (r:RelO none o):o=none:=by
 cases o with
 |none=>rfl
 |some u=>exact (show False from r).elim
def oG (r:RelV v u):handedIn u=true:=by
 cases v with
 |non=>cases (show u=Value.none from r);rfl
 |bl b=>cases (show u=Value.bool b from r);rfl
 |int i=>obtain⟨t,e⟩:=(show ∃t,u=Value.int i t from r);cases e;rfl
 |str x=>obtain⟨t,e⟩:=(show ∃t,u=Value.str x t from r);cases e;rfl
 |byt b=>obtain⟨t,e⟩:=(show ∃t,u=Value.bytes b t from r);cases e;rfl
 |flt b=>obtain⟨t,e⟩:=(show ∃t,u=Value.float b t from r);cases e;rfl
 |ref a=>cases (show u=Value.ref a from r);rfl
 |ty n=>cases (show u=Value.type n from r);rfl
section
variable {P:Program}{w:World}
def lE (b:HOk P w H h) (e:H a=some (.ins C dx fs)):∃mA,ObjM h a dx C mA/\(∀f,RelO (fs.lookup f) (mA f))/\PySem.Within mA (fs.map (·.1))/\fs.length<=1000/\H dx=some (.own a):=by
 obtain⟨d,z,g,c,mA,n,r,q⟩:=(show ObjOk P w H h a (.ins C dx fs) from b a _ e);exact⟨mA,⟨c,n,g⟩,r,q,z,d⟩
end
structure Cls (K:Frag) (C:Addr):Prop where
 pg:plainGet K C Str.empty=true
 hd:hasDictIn K C=true
 po:plainOver K C=true
 sa:findIn K (.ref C) "__setattr__"=some (some (.builtin "object.__setattr__"))
def Cls.get {K:Frag} (c:Cls K C) (f:Str):plainGet K C f=true:=c.pg
def NoAttr (K:Frag) (C:Addr) (f:Str):Prop:=findIn K (.ref C) f=some none
def NoAttr.taker {K:Frag} (n:NoAttr K C f):takerIn K C f=some none:=by
 unfold takerIn;rw[show findIn K (.ref C) f=some none from n];rfl
structure Meth (K:Frag) (C:Addr) (m:Str) (f:Addr):Prop where
 at_:findIn K (.ref C) m=some (some (.ref f))
 fn:isFn K (.ref f)=true
 kp:keepIn K (.ref f)=true
section
variable {X:Cx}{pins:List (Addr × Obj)}{σ:St}
def uW (I:Inv X pins σ H s) (e:H a=some (.ins C dx fs)) (c:Cls X.K C) (n:NoAttr X.K C f) (l:fs.lookup f=some v) (h:∀u s',Inv X pins σ H s'->RelV v u->Q u s'):wpAny (model X.prog X.w) A (getAttr (.ref a) f b) Q E s:=by
 obtain⟨mA,O,r,_,_,_⟩:=lE I.hok e;obtain⟨u,g,d⟩:=RelO.some_of (v:=v) (o:=mA f) (by rw[<- l];exact r f);exact Hv I.kIn O (c.get f) c.hd n g (oG d) (h u _ (I.tok _) d)
def uX (I:Inv X pins σ H s) (e:H a=some (.ins C dx fs)) (c:Cls X.K C) (k:Meth X.K C m g) (l:fs.lookup m=none) (h:Q (.ref g,[.ref a]) s):wpAny (model X.prog X.w) A (getMethod (.ref a) m pl) Q E s:=by
 obtain⟨mA,O,r,_,_,_⟩:=lE I.hok e;have b:mA m=none:=RelO.none_of (by rw[<- l];exact r m);exact Ay I.kIn O (c.get m) k.at_ k.fn b h
def uY (I:Inv X pins σ H s) (e:H a=some (.ins C dx fs)) (c:Cls X.K C) (n:NoAttr X.K C f) (v:fs.length<1000) (t:RelV y u) (h:∀s',Inv X pins σ (upd H a (.ins C dx (d7 f y fs))) s'->Q () s'):wpAny (model X.prog X.w) A (setAttr (.ref a) f u) Q E s:=by
 obtain⟨mA,O,r,i,_,d⟩:=lE I.hok e;have k:(fs.map (·.1)).length<=sizeLine:=by rw[e_,aaD];omega
 refine Hw I.kIn O c.sa c.po n.taker c.hd i k fun h' O' m=>h _ ?_;have l:∃o,h'.get? dx=some o:=let ⟨o,_,_,e',_⟩:=O'.ns;⟨o,e'⟩;refine I.write (x:=a) (e:=dx) (by rw[e];exact True.intro) (.inr d) (fun b q p z=>(m.2 b p).trans z) l ?_;refine⟨by rw[aL O.ne];exact d,?_,O.ne,O'.obj,_,O'.ns,fun g=>?_,fun g j=>?_⟩
 ·have:=kj f y fs;omega
 ·show RelO ((d7 f y fs).lookup g) (if g=f then some u else mA g);rw[gR];by_cases q:g=f
  ·rw[if_pos q,if_pos q];exact t
  rw[if_neg q,if_neg q];exact r g
 by_cases q:g=f
 ·rw[q];exact (fW f y fs).1
 refine (fW f y fs).2 g (i g fun z=>j ?_);show (if g=f then some u else mA g)=none;rw[if_neg q];exact z
def Inv.made (I:Inv X pins σ H s):Inv X pins σ (upd (upd H s.heap.objs.size (.own (s.heap.objs.size+1))) (s.heap.objs.size+1) (.ins C s.heap.objs.size []))
  { s with heap:=(s.heap.push emptyDict).push (instObj C s.heap.objs.size)}:=by
 have d:(s.heap.push emptyDict).get? s.heap.objs.size=some emptyDict:=o_ s.heap rfl;have j:((s.heap.push emptyDict).push (instObj C s.heap.objs.size)).get? (s.heap.objs.size+1)=some (instObj C s.heap.objs.size):=by
  have:=o_ (s.heap.push emptyDict) (o:=instObj C s.heap.objs.size) rfl
  rwa [Y_] at this
 have g:(s.heap.push emptyDict).Ns s.heap.objs.size (fun _=>none):=⟨emptyDict,#[],_,d,rfl,(fun e f=>absurd f (by simp)),fun _=>rfl⟩;have i:=I.laid (a:=s.heap.objs.size) (o:=.own (s.heap.objs.size+1)) (h':=s.heap.push emptyDict) (t':=s.toks) (fun b u q=>b_ _ q) (l_ _) ⟨_,d⟩;refine i.laid (a:=s.heap.objs.size+1) (o:=.ins C s.heap.objs.size []) (t':=s.toks) (fun b u q=>b_ _ q) (aa6 (Y_ _ _)) ?_;have c:s.heap.objs.size≠s.heap.objs.size+1:=I_ (Zg _);refine⟨by rw[aL c,aY],Y7 _,c,j,fun _=>none,(Heap.Ns1.of_empty g).at fun o q=>b_ _ q,fun _=>True.intro,fun y h=>absurd rfl h⟩
def xg {a:Pos} (b:attributeBase e f env (eval e env)=eval e env) (h:wpAny (model prog w) A (eval e env) (fun o s₁=>wpAny (model prog w) A (getAttr o f true) Q E s₁) E s):wpAny (model prog w) A (eval (.Attribute e f a) env) Q E s :=
 Attribute_any_ h (by rw[arm_eval_Attribute,b])
end
def Xp (K:Frag) (c:TE) (f:Str):TE:=fun e H Q=>c e H fun x b=>∃a C d fs v,x=.ref a/\b a=some (.ins C d fs)/\Cls K C/\NoAttr K C f/\fs.lookup f=some v/\Q v b
def Xq (K:Frag) (g h:TE) (f:Str):TS:=fun D b H=>h b H fun y e=>g b e fun x d=>∃a C c fs,x=.ref a/\d a=some (.ins C c fs)/\Cls K C/\NoAttr K C f/\fs.length<1000 /\
 D.nx b (upd d a (.ins C c (d7 f y fs)))
section
variable {X:Cx}{o e value:Expr}
def Om (i:PE X e ta) (j:attributeBase e f X.env (eval e X.env)=eval e X.env):PE X (.Attribute e f pos) (Xp X.K ta f):=by
 intro b s t H Q I h;refine xg j (thn (i b s t H _ I h) fun u A ⟨x,k,o,p,a,C,w,fs,v,g,m,c,n,l,q⟩=>?_);subst g;obtain rfl:u=Value.ref a:=p;exact uW o m c n l fun z y r d=>⟨v,k,r,d,q⟩
def Oo (p:PE X o ta) (e:PE X value tv) (r:swapsWith value (some (.Attribute o f pos')) pos.line X.env=pure false):PS X (.Assign [.Attribute o f pos'] value pos) (Xq X.K ta tv f):=by
 intro b s d H D I h;refine aav (thn (e b s d H _ I h) fun u k ⟨y,t,i,z,q⟩=>thn (p b k d t _ i q) fun w J ⟨x,F,v,j,a,C,E,fs,B,g,c,n,l,A⟩=>?_) r;subst B;obtain rfl:w=Value.ref a:=j;exact uY v g c n l z fun G m=>⟨d,_,m,A⟩
variable {pins:List (Addr × Obj)}{σ:St}
inductive TyOf (K:Frag) (H:Hp):V->Value->Prop where
 |non:TyOf K H .non (.type "NoneType")
 |bl (x:Bool):TyOf K H (.bl x) (.type "bool")
 |int (i:Int):TyOf K H (.int i) (.type "int")
 |str (x:Str):TyOf K H (.str x) (.type "str")
 |flt (x:UInt64):TyOf K H (.flt x) (.type "float")
 |lst {a:Addr} {xs:List V} (e:H a=some (.lst xs)):TyOf K H (.ref a) (.type "list")
 |frz {a:Addr} {o:Obj} {xs:List V} (e:H a=some (.frz o (.lst xs))):TyOf K H (.ref a) (.type "list")
 |tup {a:Addr} {xs:List V} (e:H a=some (.tup xs)):TyOf K H (.ref a) (.type "tuple")
 |dK {a:Addr} {kvs:List (Key × V)} (e:H a=some (.dK kvs)):TyOf K H (.ref a) (.type "dict")
 |dT {a:Addr} {kvs:List (List Key × V)} (e:H a=some (.dT kvs)):TyOf K H (.ref a) (.type "dict")
 |ins {a C dx:Addr} {fs:List (Str × V)} (e:H a=some (.ins C dx fs)) (cl:Cls K C) (ha:findIn K (.ref C) "__class__"=some (some (.builtin "object.__class__")))
   (hn:specialIn K (.builtin "object.__class__") "__get__"=some (some (.builtin "getset_descriptor.__get__"))) (htk:takesIn K (.builtin "object.__class__")=some true)
   (hm:mroIn K C (.type "object")=some true):TyOf K H (.ref a) (.ref C)
def eU (I:Inv X pins σ H s) (f:RelV x u) (r:TyOf X.K H x t) (e:kitOne X.K t c=some b) (h:∀tk,Q (.bool b) { s with toks:=tk}):
  wpAny (model X.prog X.w) A (call (.builtin "isinstance") [u,c]) Q E s:=by
 cases r with
 |non=>cases (show u=Value.none from f);exact kia_one kitx_none I.kIn True.intro e (fun z=>nomatch z) h
 |bl y=>cases (show u=Value.bool y from f);exact kia_one PySem.W.kitx_bool I.kIn True.intro e (fun z=>nomatch z) h
 |int i=>obtain⟨t,q⟩:=(show ∃t,u=Value.int i t from f);cases q;exact kia_one PySem.W.kitx_int I.kIn True.intro e (fun z=>nomatch z) h
 |str y=>obtain⟨t,q⟩:=(show ∃t,u=Value.str y t from f);cases q;exact kia_one PySem.W.kitx_str I.kIn True.intro e (fun z=>nomatch z) h
 |flt y=>obtain⟨t,q⟩:=(show ∃t,u=Value.float y t from f);cases q;exact kia_one PySem.W.kitx_float I.kIn True.intro e (fun z=>nomatch z) h
 |@lst a xs d=>cases (show u=Value.ref a from f);obtain⟨_,_,n,_,g⟩:=(show ObjOk X.prog X.w H s.heap a (.lst xs) from I.hok a _ d);exact kia_one kitx_list I.kIn ⟨_,g,rfl⟩ e (fun z=>nomatch z) h
 |@frz a B xs d=>cases (show u=Value.ref a from f);obtain⟨_,_,_,n,_,g⟩:=(show ObjOk X.prog X.w H s.heap a (.frz B (.lst xs)) from I.hok a _ d);exact kia_one kitx_list I.kIn ⟨_,g,rfl⟩ e (fun z=>nomatch z) h
 |@tup a xs d=>cases (show u=Value.ref a from f);obtain⟨_,_,_,p⟩:=(show ObjOk X.prog X.w H s.heap a (.tup xs) from I.hok a _ d);obtain⟨o,g,j,_⟩:=p;exact kia_one kitx_tuple I.kIn ⟨o,g,j⟩ e (fun z=>nomatch z) h
 |@dK a kvs d=>cases (show u=Value.ref a from f);obtain⟨_,_,vs,_,p⟩:=(show ObjOk X.prog X.w H s.heap a (.dK kvs) from I.hok a _ d);obtain⟨o,D,ep,g,j,_⟩:=p;exact kia_one kitx_dict I.kIn ⟨o,g,j.1⟩ e (fun z=>nomatch z) h
 |@dT a kvs d=>cases (show u=Value.ref a from f);obtain⟨_,_,xs,_,o,D,ep,g,j,_⟩:=(show ObjOk X.prog X.w H s.heap a (.dT kvs) from I.hok a _ d);exact kia_one kitx_dict I.kIn ⟨o,g,j.1⟩ e (fun z=>nomatch z) h
 |@ins a C G fs d l v F k m =>
 cases (show u=Value.ref a from f);obtain⟨mA,O,_⟩:=lE I.hok d;obtain⟨od,J,_⟩:=O.look;exact kia_one (PySem.W.kitx_own (l.get _) l.hd v F k m) I.kIn J e (fun z=>nomatch z) h
end
structure Room (k:Nat) (A:Around):Prop where
 hd:A.handled=none
 dp:A.depth+3*k+5<recursionLimit
 un:A.units+16*k+200<cLine
 gd:A.guards=some []
def Room.mono (r:Room k A) (h:j<=k):Room j A:=⟨r.hd,by have:=r.dp;omega,by have:=r.un;omega,r.gd⟩
def Room.deeper (r:Room (k+1) A) (env:Env):Room k (A.deeper env) :=
 ⟨r.hd,by have:=r.dp;show A.depth+1+3*k+5<_;omega,by have:=r.un;show A.units+3+16*k+200<_;omega,r.gd⟩
def uZ {A:Around}:(A.under (.builtin "type.__call__" ⟨.ref C::us,a⟩)).depth=A.depth+1:=by
 first | rfl | simp [Around.under,Code.weight,Code.isCreation,Code.isGuard,Code.isCaller,Code.frames,Code.isFrame,guardIds]
def vd {A:Around}:(A.under (.builtin "type.__call__" ⟨.ref C::us,a⟩)).units=A.units+1:=by
 first | rfl | simp [Around.under,Code.cUnits,Code.frames,Code.isFrame]
def Room.make (r:Room (k+1) A) (C:Addr) (us:List Value) (a:List (Str × Value)):Room k (A.under (.builtin "type.__call__" ⟨.ref C::us,a⟩)) :=
 ⟨r.hd,by have:=r.dp;rw[uZ];omega,by have:=r.un;rw[vd];omega,by first | exact r.gd | (simp [Around.under,Code.guards,Code.isGuard,guardIds,pushGuards,r.gd])⟩
def Room.depth (r:Room k A):A.depth<recursionLimit:=by have:=r.dp;omega
def Xr:TA:=fun _ H Q=>Q [] H
def TQ (d:TE) (b:TA):TA:=fun a H Q=>d a H fun x c=>b a c fun xs e=>Q (x::xs) e
def Oq:PA X [] Xr:=fun _ _ _ _ H Q I h=>aaq ⟨[],H,I,.nil,h⟩
def Hy (j:PE X e te) (g:PA X es t) (l:starEach (e::es) X.env=(false,eval e X.env)::starEach es X.env:=by rfl):PA X (e::es) (TQ te t):=by
 intro b a s c H Q I h;rw[l];show wpAny _ _ (spliced ((false,eval e X.env)::backTo b (starEach es X.env))) _ _ s;refine Z1 (thn (j a s c H _ I h) fun u f ⟨x,m,n,k,p⟩=>?_);exact thn (g b a f c m _ n p) fun us r ⟨xs,q,o,i,d⟩=>⟨x::xs,q,o,.cons k i,d⟩
def Xu (t:TA):TE:=fun b H Q=>t b H fun xs a=>xs.length<=sizeLine/\∀p,a p=none->Q (.ref p) (upd a p (.tup xs))
def Xv (t:TA):TE:=fun b H Q=>t b H fun xs a=>xs.length<=sizeLine/\∀p,a p=none->Q (.ref p) (upd a p (.lst xs))
def Ot (h:PA X es t):PE X (.Tuple es x1 pos) (Xu t):=by
 intro a s i H Q I j;refine wpAny_Tuple_spliced (thn (h pos a s i H _ I j) fun us c ⟨xs,d,f,r,z,q⟩=>⟨by rw[<- r.length];exact z,?_⟩);have g:d c.heap.objs.size=none:=f.hok.fresh (l_ _);refine⟨.ref c.heap.objs.size,upd d c.heap.objs.size (.tup xs),f.laid (t':=c.toks) (fun b u e=>b_ _ e) (l_ _) ?_,rfl,q _ g⟩;exact⟨z,us,r,⟨_,o_ _ rfl,rfl,_,rfl,rfl⟩⟩
def Ou (h:PA X es t):PE X (.List es pos) (Xv t):=by
 intro a s i H Q I j;refine wpAny_List_spliced (thn (h pos a s i H _ I j) fun us c ⟨xs,d,f,r,z,q⟩=>⟨by rw[<- r.length];exact z,?_⟩);have g:d c.heap.objs.size=none:=f.hok.fresh (l_ _);refine⟨.ref c.heap.objs.size,upd d c.heap.objs.size (.lst xs),f.laid (t':=c.toks) (fun b u e=>b_ _ e) (l_ _) ?_,rfl,q _ g⟩;exact⟨z,us,0,r,o_ _ rfl⟩
abbrev Sp:=List V->Hp->VK->XK->Prop
abbrev CXT:=List Env->Hp->Shared->XK->Value->Shared->Prop
structure Env0 (P:Program) (w:World) (K:Frag) (mg:Str->Option Value) (base:Heap) (A:Around) (outer:List Env) (s:Shared) (H:Hp):Prop where
 frames:A.frames=some outer
 mod:Mod K mg base
 bs:∀b o,base.get? b=some o->s.heap.get? b=some o/\H b=none
 bsz:base.objs.size<=s.heap.objs.size
 funs:s.heap.FunFrames base outer
 frf:∀b∈frs outer,H b=none
 hok:HOk P w H s.heap
 bare:AllBare s.gens
def CE (outer:List Env) (P:Program) (w:World) (H:Hp) (s:Shared) (Q:VK) (u:Value) (s':Shared):Prop :=
 ∃v H',s'.os=s.os/\AllBare s'.gens/\Un (frs outer) [] H H' s.heap s'.heap/\HOk P w H' s'.heap/\RelV v u/\Q v H'
def CR (CX:CXT) (outer:List Env) (P:Program) (w:World) (H:Hp) (s:Shared) (Q:VK) (E:XK) (r:Result) (s':Shared):Prop :=
 match r with
 |.ok (.ret u)=>CE outer P w H s Q u s'
 |.ok _=>False
 |.error e=>CX outer H s E e s'
structure FnOk (P:Program) (w:World) (K:Frag) (mg:Str->Option Value) (base:Heap) (CX:CXT) (k:Nat) (f:Addr) (fd:FuncData) (ps:List Str) (sp:Sp):Prop where
 len:∀vs H Q E,sp vs H Q E->vs.length=ps.length
 run:∀(A:Around) (outer:List Env) (s:Shared) (H:Hp) (args:Args) (us:List Value) (vs:List V) (Q:VK) (E:XK),Room k A->Env0 P w K mg base A outer s H->BindsTo s fd args (ps.zip us)->Vals vs us->sp vs H Q E ->
  codeAny (model P w) A (.call (.ref f) args) (CR CX outer P w H s Q E) s
def Env0.make {K:Frag} (e:Env0 P w K a base A outer s H) (C:Addr) (us:List Value) (b:List (Str × Value)):
  Env0 P w K a base (A.under (.builtin "type.__call__" ⟨.ref C::us,b⟩)) outer s H:=⟨by first | exact e.frames | (simpa [Around.under,Code.envs,Code.isFrame,pushEnvs] using e.frames),e.mod,e.bs,e.bsz,e.funs,e.frf,e.hok,e.bare⟩
section
variable {X:Cx}{pins:List (Addr × Obj)}{σ:St}
def Inv.env0 (I:Inv X pins σ H s):Env0 X.prog X.w X.K X.mg X.base X.A X.stack s H :=
 ⟨I.ok.frames,I.ok.mod,I.bs,Q_ I.ok.bsz I.sz,I.stack,I.stkFree,I.hok,I.bare⟩
def Inv.after (I:Inv X pins σ H s) (h:CE X.stack X.prog X.w H s Q u s'):EP X pins σ Q u s':=by
 obtain⟨v,H',j,a,i,e,r,q⟩:=h;obtain⟨f,g,d,t,c⟩:=s';obtain rfl:c=s.os:=j;exact⟨v,H',I.call (h':=f) (g':=g) (d':=d) (t':=t) (ch:=[]) i e a (fun b z=>absurd z (by simp)),r,q⟩
end
def TV (sp:Sp) (dvs:List V) (E:XK) (t:TA):TE:=fun b H Q=>t b H fun vs a=>sp (vs++dvs) a Q E
def TX (C:Addr) (m:Str) (sp:Sp) (dvs:List V) (E:XK) (e:TE) (t:TA):TE:=fun c H Q=>e c H fun x b=>∃a d fs,x=.ref a/\b a=some (.ins C d fs)/\fs.lookup m=none /\
 t c b fun vs f=>sp (x::(vs++dvs)) f Q E
def TY (C:Addr) (sp:Sp) (dvs:List V) (E:XK) (t:TA):TE:=fun c H Q=>t c H fun vs b=>∀x a,b x=none->b a=none->a≠x ->
 sp (.ref x::(vs++dvs)) (upd (upd b a (.own x)) x (.ins C a [])) (fun v d=>v=.non/\Q (.ref x) d) E
def Binds (K:Frag) (c:FuncData) (b:List Str) (a:List Value):Prop :=
 ∀(s:Shared) (us:List Value),K.In s.heap->(us++a).length=b.length->BindsTo s c ⟨us,[]⟩ (b.zip (us++a))
def Binds.all {K:Frag} (h:∀us:List Value,us.length=a.length->bindArgs c ⟨us,[]⟩=pure (a.zip us)):Binds K c a []:=fun s us _ b=>by
 rw[S_] at b ⊢;exact .of_eq (h us b)
def jU (CX:CXT) (X:Cx) (E:XK):Prop:=∀(a:List (Addr × Obj)) (b:St) (H:Hp) (s:Shared) (e:Value) (s':Shared),Inv X a b H s->CX X.stack H s E e s'->X.xe e s'
section
variable {X:Cx}{CX:CXT}{p pos apos:Pos}
def Ba {c:St} (F:FnOk X.prog X.w X.K X.mg X.base CX k f fd ps sp) (g:Room k X.A) (j:Binds X.K fd ps ds) (n:Vals dvs ds) (i:jU CX X E) (I:Inv X a c H s) (r:Vals vs us) (h:sp (vs++dvs) H Q E):wpAny (model X.prog X.w) X.A (call (.ref f) us) (EP X a c Q) X.xe s:=by
 have d:Vals (vs++dvs) (us++ds):=r.append n;have l:(us++ds).length=ps.length:=by rw[<- d.length];exact F.len _ _ _ _ h
 refine aa1 (aaS (F.run X.A X.stack s H ⟨us,[]⟩ (us++ds) (vs++dvs) Q E g I.env0 (j s us I.kIn l) d h) fun r s' b=>?_);cases r with
 |error e=>exact i a c H s e s' I b
 |ok m =>
 cases m with
 |ret u=>exact I.after b
 |next=>exact False.elim b
 |brk=>exact False.elim b
 |cont=>exact False.elim b
def Hz (F:FnOk X.prog X.w X.K X.mg X.base CX k f fd ps sp) (j:Room k X.A) (g:Gl X x) (i:X.mg x=some (.ref f)) (u:keepIn X.K (.ref f)=true) (o:Binds X.K fd ps ds) (v:Vals dvs ds) (n:jU CX X E)
  (l:PA X (e::es) t) (b:(x==("__debug__":Str))=false:=by decide) (m:starEach (e::es) X.env=(false,eval e X.env)::starEach es X.env:=by rfl) (c:(backTo pos (starEach es X.env)).any (·.1)=false:=by rfl) :
  PE X (.Call (.Name x p) (e::es) [] pos) (TV sp dvs E t):=by
 intro a s y H Q I h;refine Y6 (gA I g i ?_ b);refine callWith_K (h₀:=X.base) I.ok.mod.kin u (thn (l pos a s y H _ I h) fun us B ⟨vs,z,d,r,q⟩=>⟨d.kIn,?_⟩) m c;exact Ba F j o v n d r q
def HB {pl:Sem Bool}(M:PE X o ta) (c:Cls X.K C) (p:Meth X.K C m f) (F:FnOk X.prog X.w X.K X.mg X.base CX k f fd ps sp) (P:Room k X.A) (J:Binds X.K fd ps ds) (B:Vals dvs ds) (v:jU CX X E) (L:PA X (e::es) t)
  (d:starEach (e::es) X.env=(false,eval e X.env)::starEach es X.env:=by rfl) (g:(backTo pos (starEach es X.env)).any (·.1)=false:=by rfl)
  (D:eval (.Call (.Attribute o m apos) (e::es) [] pos) X.env=(do
   let ov <- eval o X.env
   standAt apos.atName
   let (f,first) <- holding [ov] (getMethod ov m pl)
   callWith pos f first (backTo pos (starEach (e::es) X.env)) (backToKw pos (keywordEach [] X.env))):=by rfl) :
  PE X (.Call (.Attribute o m apos) (e::es) [] pos) (TX C m sp dvs E ta t):=by
 intro b s n H Q I h;refine PySem.W.methodCall_KW (pl:=pl) (thn (M b s n H _ I h) fun u G ⟨x,N,i,z,a,S,fs,R,y,l,q⟩=>?_) D;subst R;obtain rfl:u=Value.ref a:=z;refine uX i y c p l ?_;refine callWith_K (first:=[.ref a]) (h₀:=X.base) I.ok.mod.kin p.kp (thn (L pos b G n N _ i q) fun us U ⟨vs,T,j,r,O⟩=>⟨j.kIn,?_⟩) d g;exact Ba (us:=.ref a::us) (vs:=.ref a::vs) F P J B v j (.cons rfl r) O
structure Mk (K:Frag) (C f:Addr):Prop where
 makes:makesIn K C=true
 init:findIn K (.ref C) "__init__"=some (some (.ref f))
 fn:isFn K (.ref f)=true
 kp:keepIn K (.ref C)=true
def Bb {d:St} (M:Mk X.K C f) (F:FnOk X.prog X.w X.K X.mg X.base CX k f fd ps sp) (j:Room (k+1) X.A) (n:Binds X.K fd ps ds) (q:Vals dvs ds) (m:jU CX X E) (I:Inv X b d H s) (r:Vals vs us) (h:∀x dx,H x=none->H dx=none->dx≠x->sp (.ref x::(vs++dvs)) (upd (upd H dx (.own x)) x (.ins C dx [])) (fun v H2=>v=.non/\Q (.ref x) H2) E):
  wpAny (model X.prog X.w) X.A (call (.ref C) us) (EP X b d Q) X.xe s:=by
 have i:=h (s.heap.objs.size+1) s.heap.objs.size (I.hok.fresh (Z6 _)) (I.hok.fresh (l_ _)) (I_ (Zg _));have c:=Inv.made (C:=C) I;have g:Vals (V.ref (s.heap.objs.size+1)::(vs++dvs)) (Value.ref (s.heap.objs.size+1)::(us++ds)):=.cons rfl (r.append q);have o:(Value.ref (s.heap.objs.size+1)::us++ds).length=ps.length:=by have e:=g.length;rw[F.len _ _ _ _ i] at e;exact e.symm
 refine aa1 (Az (f:=f) I.kIn M.makes M.init (Zt.mp M.fn) (aaS (F.run _ X.stack _ _ ⟨Value.ref (s.heap.objs.size+1)::us,[]⟩ (Value.ref (s.heap.objs.size+1)::(us++ds)) _ _ E (j.make C us [])
  (c.env0.make C us []) (n _ (Value.ref (s.heap.objs.size+1)::us) c.kIn o) g i) fun r s' a=>?_))
 cases r with
 |error e=>exact m b d _ _ e s' c a
 |ok p =>
 cases p with
 |ret u=>obtain⟨v,H',y,t,z,l⟩:=c.after a;subst z;exact⟨t,⟨V.ref (s.heap.objs.size+1),H',y,rfl,l⟩⟩
 |next=>exact False.elim a
 |brk=>exact False.elim a
 |cont=>exact False.elim a
def HD (M:Mk X.K C f) (F:FnOk X.prog X.w X.K X.mg X.base CX k f fd ps sp) (j:Room (k+1) X.A) (g:Gl X x) (i:X.mg x=some (.ref C)) (o:Binds X.K fd ps ds) (u:Vals dvs ds) (n:jU CX X E)
  (l:PA X (e::es) t) (b:(x==("__debug__":Str))=false:=by decide) (m:starEach (e::es) X.env=(false,eval e X.env)::starEach es X.env:=by rfl) (c:(backTo pos (starEach es X.env)).any (·.1)=false:=by rfl) :
  PE X (.Call (.Name x p) (e::es) [] pos) (TY C sp dvs E t):=by
 intro a s v H Q I h;refine Y6 (gA I g i ?_ b);refine callWith_K (h₀:=X.base) I.ok.mod.kin M.kp (thn (l pos a s v H _ I h) fun us z ⟨vs,y,d,r,q⟩=>⟨d.kIn,?_⟩) m c;exact Bb M F j o u n d r q
end
structure FnScope (N P:List Str) (sc:Scope):Prop where
 kind:sc.kind=.function
 co:sc.isCoroutine=false
 gen:sc.isGenerator=false
 nd:N.Nodup
 pre:N.take P.length=P
 par:∀x∈P,sc.names.lookup x=some .local\/sc.names.lookup x=some .cell
 nofree:∀y∈sc.names,y.2≠.free
def oH:∀{a:List (Str × Value)}{m:Str->Option Value},(∀v,(x,v)∉a)->bindL b a m x=m x
 |[],_,_=>rfl
 | (n,v)::r,m,h=>by
  unfold bindL
  rw[oH fun w c=>h w (q_ _ c)]
  split
  ·
   have:x≠n:=by rintro rfl;exact h v k_
   simp [this]
  ·
   rfl
def oJ:∀{a:List (Str × Value)}{m:Str->Option Value},(∀v,(x,v)∉a)->bindC b a m x=m x
 |[],_,_=>rfl
 | (n,v)::r,m,h=>by
  unfold bindC
  rw[oJ fun w c=>h w (q_ _ c)]
  split
  ·
   rfl
  ·
   have:x≠n:=by rintro rfl;exact h v k_
   simp [this]
def oK:∀{P:List Str}{vs:List Value}{i:Nat}{m:Str->Option Value},P.Nodup->P[i]?=some x->vs[i]?=some v->a x=some .local ->
  bindL a (P.zip vs) m x=some v
 |[],_,_,_,_,h,_,_=>by simp at h
 |_::_,[],_,_,_,_,h,_=>by simp at h
 |p::P,w::vs,0,m,nd,h1,h2,hk=>by
  simp at h1 h2;subst h1;subst h2
  show bindL a ((p,w)::P.zip vs) m p=_
  unfold bindL
  rw[oH fun v b=>(Y9.mp nd).1 (aaI b).1,if_pos hk]
  simp
 |p::P,w::vs,i+1,m,nd,h1,h2,hk=>by
  show bindL a ((p,w)::P.zip vs) m x=_
  unfold bindL
  exact oK (i:=i) (Y9.mp nd).2 (by simpa using h1) (by simpa using h2) hk
def oM:∀{P:List Str}{vs:List Value}{i:Nat}{m:Str->Option Value},P.Nodup->P[i]?=some x->vs[i]?=some v->a x≠some .local ->
  bindC a (P.zip vs) m x=some v
 |[],_,_,_,_,h,_,_=>by simp at h
 |_::_,[],_,_,_,_,h,_=>by simp at h
 |p::P,w::vs,0,m,nd,h1,h2,hk=>by
  simp at h1 h2;subst h1;subst h2
  show bindC a ((p,w)::P.zip vs) m p=_
  unfold bindC
  rw[oJ fun v b=>(Y9.mp nd).1 (aaI b).1,if_neg hk]
  simp
 |p::P,w::vs,i+1,m,nd,h1,h2,hk=>by
  show bindC a ((p,w)::P.zip vs) m x=_
  unfold bindC
  exact oM (i:=i) (Y9.mp nd).2 (by simpa using h1) (by simpa using h2) hk
def start (N:List Str) (vs:List V):St:=vs.map some++List.replicate (N.length - vs.length) none
def mq (CX:CXT) (P:Program) (w:World) (K:Frag) (mg:Str->Option Value) (base:Heap) (N:List Str) (a:Str) (scope:Scope) (f:Addr) (c:Value) (A:Around) (outer:List Env) (s:Shared) (H:Hp) (E:XK):Cx where
 prog:=P
 w:=w
 K:=K
 mg:=mg
 base:=base
 A:=A.deeper (envOfC a scope s.heap.objs.size f c)
 N:=N
 s₀:=s
 H₀:=H
 env:=envOfC a scope s.heap.objs.size f c
 outer:=outer
 stack:=envOfC a scope s.heap.objs.size f c::outer
 ex:=[]
 calm:=true
 fn:=fun _=>true
 pn:=[]
 xe:=fun e s'=>wpAny (model P w) (A.deeper (envOfC a scope s.heap.objs.size f c)) (leaving (envOfC a scope s.heap.objs.size f c) e) (fun _ b=>CX outer H s E e b) (fun d b=>CX outer H s E d b) s'
def jq {a:Scope} (h:a.names.lookup x=some .cell):∃c,(cellsFrom n a.names []).lookup x=some c:=by
 have q:=cellsFrom_some a.names n [] (.inl h);exact aat.mp q
def zj {K:Frag} (S:FnScope N o scope) (M:A.handled=none) (j:Env0 P w K G base A outer s H) (U:vs.length=o.length) (r:Vals vs us) (x:InCallC s s.heap.objs.size (bindL (envOfC d scope s.heap.objs.size f D).kindOf (o.zip us) fun _=>none) (cellsFrom (s.heap.objs.size+1) scope.names []) (bindC (envOfC d scope s.heap.objs.size f D).kindOf (o.zip us) fun _=>none) L):
  Inv (mq CX P w K G base N d scope f D A outer s H E) [] (start N vs) H L:=by
 have O:o.length<=N.length:=by have:=W_ List.length S.pre;rw[aaT] at this;omega
 obtain⟨C,tk,rfl,I⟩:=x.done;have m:∀b:Addr,b∉(mq CX P w K G base N d scope f D A outer s H E).ex:=fun b z=>absurd (show b∈([]:List Addr) from z) (by simp);refine⟨⟨j.mod,S.kind,rfl,rfl,l_ _,fun y z c C g=>?_,fun y l=>?_,fun y c _ h=>?_,fun _=>M,Around.frames_deeper j.frames,.inr ⟨rfl,rfl⟩,fun b z=>absurd z (m b),j.bs,j.bsz,fun b _ _=>m b,fun b z=>absurd z (m b),j.funs,j.frf⟩,
  rfl,j.bare,Un.kept I,⟨_,x.toInCall.ns,fun i y v C g T=>?_⟩,fun y c h=>⟨_,x.cell y c h⟩,j.hok.fresh (l_ _),fun y c h=>?_,fun p t=>absurd (show p∈([]:List (Addr × Obj)) from t) (by simp),j.hok.kept I,?_⟩
 ·exact name_of_addr x.apart (mem_of_lookup C) (mem_of_lookup g)
 ·have l:scope.names.lookup y=some .cell\/scope.names.lookup y=some .free:=l;rcases l with l | l
  ·exact jq l
  exact absurd rfl (S.nofree _ (mem_of_lookup l))
 ·exact ZD (x.above y c (mem_of_lookup h))
 ·have F:i<vs.length:=by
   unfold start at g;by_cases F:i<vs.length
   ·exact F
   rw[Yx (by simpa using F)] at g;rw[Z_] at g;split at g <;> cases g
  have Q:vs[i]?=some v:=by
   unfold start at g;rw[YQ (by simpa using F),y_] at g;cases e:vs[i]? with
   |none=>rw[e] at g;cases g
   |some a=>rw[e] at g;cases g;rfl
  obtain⟨u,J,R⟩:=r.get Q;have t:o[i]?=some y:=by rw[<- S.pre,List.getElem?_take_of_lt (by omega)];exact C
  have B:o.Nodup:=by rw[<- S.pre];exact S.nd.sublist (List.take_sublist _ _)
  refine⟨u,R,?_⟩;rcases S.par y (X_ t) with k | k
  ·exact .inl ⟨k,oK B t J k⟩
  obtain⟨c,e⟩:=jq (n:=s.heap.objs.size+1) k;refine .inr ⟨.inl k,c,e,?_⟩;have q:=x.cell y c e;rw[oM B t J (by show scope.names.lookup y≠_;rw[k];decide)] at q;exact q
 ·exact j.hok.fresh (ZD (x.above y c (mem_of_lookup h)))
 unfold start;show _=N.length;rw[d_,e_,YX];omega
def K6 {K:Frag}{dV kV B Y c Z oc:Value} (lk:K.lookup f=some ⟨oc,od,.func (fnOf name a d g scope dV kV B Y T c Z),L⟩) (G:codeIn K c a=true) (S:FnScope N F scope) (C:∀vs H Q E,sp vs H Q E->vs.length=F.length) (j:∀(A:Around) (outer:List Env) (s:Shared) (H:Hp) (vs:List V) (Q:VK) (E:XK),Room k (A.deeper (envOfC a scope s.heap.objs.size f c))->sp vs H Q E ->
   ∃t,PSs (mq CX P w K D base N a scope f c A outer s H E) g t/\t { nx:=fun _ H'=>Q .non H',rt:=Q} (start N vs) H):
  FnOk P w K D base CX (k+1) f (fnOf name a d g scope dV kV B Y T c Z) F sp:=by
 refine⟨C,fun A outer s H U us vs Q E O m hb r p=>?_⟩;have hl:=C _ _ _ _ p;have KX:K.In s.heap:=m.mod.kin.keeps fun b o e=>(m.bs b o e).1;have M:s.heap.NoLimit:=m.mod.nolimit.keeps fun b o e=>(m.bs b o e).1;have i:∀y∈F.zip us,scope.names.lookup y.1=some .local\/(scope.names.lookup y.1=some .cell/\((cellsFrom (s.heap.objs.size+1) scope.names []).lookup y.1).isSome=true):=fun ⟨n,v⟩ hy=>by
  rcases S.par n (aaI hy).1 with q | q
  ·exact .inl q
  exact .inr ⟨q,cellsFrom_some _ _ _ (.inl q)⟩
 refine codeAny_call_function O.depth (KX _ _ lk) rfl S.co S.gen rfl (PySem.W.codeRec_of KX G) (hb _ _ _ _ ?_);refine wpAny_newFunctionEnv_cells S.kind i fun env he X x=>?_;subst he;refine⟨M.keeps x.toInCall.keep,codeAny_func ?_⟩;obtain⟨t,ht,hq⟩:=j A outer s H vs Q E (O.deeper _) p;have I:Inv (mq CX P w K D base N a scope f c A outer s H E) [] (start N vs) H X:=zj S O.hd m hl r x;refine Y5 (ht [] X (start N vs) H _ I hq) (fun fl s' l=>?_) fun e s' l=>l;have z:∀{h:St} {H':Hp} {v:V} {u:Value},Inv (mq CX P w K D base N a scope f c A outer s H E) [] h H' s'->RelV v u->Q v H'->CE outer P w H s Q u s' :=
  fun {h H' v u} J R q=>⟨v,H',J.os,J.bare,J.base,J.hok,R,q⟩
 cases fl with
 |ret u=>obtain⟨v,h,H',J,R,q⟩:=l;exact z J R q
 |next=>obtain⟨h,H',J,q⟩:=l;exact z (v:=V.non) (u:=Value.none) J rfl q
 |brk=>obtain⟨_,_,_,q⟩:=l;exact False.elim q
 |cont =>
 obtain⟨_,_,_,q⟩:=l;exact False.elim q
section
variable {p pos:Pos}{id T:String}
def tCB (r:List V->Hp->VK->Prop) (t:TA):TE:=fun b H Q=>t b H fun vs a=>r vs a Q
def Bc (n:CallR X (.builtin id) r) (g:Gl X x) (i:X.mg x=none) (f:bootBuiltins x=some (.builtin id)) (j:PA X (e::es) t) (q:x≠"__name__":=by decide) (b:(x==("__debug__":Str))=false:=by decide)
  (l:starEach (e::es) X.env=(false,eval e X.env)::starEach es X.env:=by rfl) (c:(backTo pos (starEach es X.env)).any (·.1)=false:=by rfl):PE X (.Call (.Name x p) (e::es) [] pos) (tCB r t):=by
 intro a s d H Q I h;refine Y6 (fU I g i f ?_ q b);exact PyProof.Rows.callWith_builtin1 (thn (j pos a s d H _ I h) fun us v ⟨vs,o,u,k,m⟩=>n a v d o vs us Q u k m) l c
def zm (n:CallR X (.type T) r) (g:Gl X x) (i:X.mg x=none) (f:bootBuiltins x=some (.type T)) (j:PA X (e::es) t) (q:x≠"__name__":=by decide) (b:(x==("__debug__":Str))=false:=by decide)
  (l:starEach (e::es) X.env=(false,eval e X.env)::starEach es X.env:=by rfl) (c:(backTo pos (starEach es X.env)).any (·.1)=false:=by rfl):PE X (.Call (.Name x p) (e::es) [] pos) (tCB r t):=by
 intro a s d H Q I h;refine Y6 (fU I g i f ?_ q b);exact YS (thn (j pos a s d H _ I h) fun us v ⟨vs,o,u,k,m⟩=>n a v d o vs us Q u k m) l c
end
end L2
namespace HT
open PySem PyProof.Rows
section
open PySem.SeqAt
open PySem.AutoSeq1 (wpAny_loadPart')
open PySem.MeetsSeq PySem.MeetsSeq2 PySem.MeetsSeq3
def cat_tup (v:IsTup s.heap t vs.toArray) (x:IsTup s.heap b ws.toArray) (k:vs≠[]) (y:ws=[]->Q (.ref t) s) (u:ws≠[]->Q (.ref s.heap.objs.size) { s with heap:=s.heap.push { cls:=.type "tuple",data:=.seq (vs++ws).toArray}}) (hsz:vs.length+ws.length<=sizeLine):wpAny (model prog w) A (binaryOp .Add (.ref t) (.ref b)) Q E s:=by
 obtain⟨⟨cls,q,data,m⟩,h,r,n,o⟩:=id v;obtain⟨⟨p,d,j,c⟩,a,f,l,g⟩:=id x;simp only at r o f g;subst r o f g;have e:vs.toArray++ws.toArray=(vs++ws).toArray:=by simp
 by_cases i:ws=[]
 ·exact concat_meets ⟨_,h,rfl⟩ ⟨_,a,rfl⟩ noFill_tuple_add seq_tuple_add PySem.F.slot_tuple_add PySem.F.entry_tuple_add (aaV _ _)
   (tuple_addW1 t b vs.toArray ws.toArray n l q d m c (by simpa using k) (by simp [i])) ⟨h,a,y i⟩
 refine concat_meets ⟨_,h,rfl⟩ ⟨_,a,rfl⟩ noFill_tuple_add seq_tuple_add PySem.F.slot_tuple_add PySem.F.entry_tuple_add (aaV _ _)
  (tuple_addW2 t b vs.toArray ws.toArray n l q d m c (by simpa using k) (by simpa using i) (by rw[t_,t_];exact hsz)) ⟨h,a,?_⟩
 rw[e];exact u i
def sIx (n d:Nat):Option Int->Nat
 |none=>d
 |some v=>if v<0 then (v+(n:Int)).toNat else min v.toNat n
def sIx_none (n d:Nat):sIx n d none=d:=rfl
def sIx_nat (n d k:Nat):sIx n d (some (k:Int))=min k n:=by
 show (if (k:Int)<0 then ((k:Int)+(n:Int)).toNat else min (k:Int).toNat n)=min k n;rw[if_neg (by omega),Zk]
def Ov (n d:Nat) (b:d<=n) (o:Option Int):sIx n d o<=n:=by
 cases o with
 |none=>exact b
 |some v =>
  show (if v<0 then (v+(n:Int)).toNat else min v.toNat n)<=n
  by_cases a:v<0
  ·
   rw[if_pos a];omega
  ·
   rw[if_neg a];exact Nat.min_le_right _ _
def xj (v:Int) (n d:Nat):(if v<0 then max (v+(n:Int)) 0 else min v (n:Int))=((sIx n d (some v):Nat):Int):=by
 show (if v<0 then max (v+(n:Int)) 0 else min v (n:Int))=(((if v<0 then (v+(n:Int)).toNat else min v.toNat n):Nat):Int);by_cases a:v<0
 ·simp only[if_pos a];omega
 simp only[if_neg a];omega
def vf (b a:Option Int) (n:Nat):Builtin.Slice.sliceAdjust b a 1 (n:Int)=(((sIx n 0 b:Nat):Int),((sIx n n a:Nat):Int)):=by
 have c:¬((1:Int)<0):=by omega
 unfold Builtin.Slice.sliceAdjust;simp only[c,YG];refine Prod.ext ?_ ?_
 ·cases b with
  |none=>rfl
  |some v=>exact xj v n 0
 cases a with
 |none=>rfl
 |some v=>exact xj v n n
def vg (i j:Nat):Builtin.Slice.slicePlaces (i:Int) (j:Int) 1=j - i:=by
 unfold Builtin.Slice.slicePlaces;have a:(1:Int)>0:=by omega
 simp only[a,if_true,Int.ediv_one];split <;> omega
def my (p:IsPart v o) (h:Q o s):wpAny (model prog w) A (Builtin.Slice.slicePartIndex v) Q E s:=by
 cases p with
 |none=>exact slicePart_none h
 |int i t=>exact slicePart_int h
def jV {Q:Int × Int × Nat->Shared->Prop} (j:s.heap.IsSliceOf g e f .none) (pl:IsPart e a) (i:IsPart f d) (h:Q (((sIx n 0 a:Nat):Int),1,sIx n n d - sIx n 0 a) s):wpAny (model prog w) A (Builtin.Slice.sliceApplied (.ref g) (pure (n:Int))) Q E s:=by
 obtain⟨l,c,k,b⟩:=id j;unfold Builtin.Slice.sliceApplied Builtin.Slice.sliceFields;refine a_ (a_ (YT c b (x:=e) rfl (a_ (YT c b (x:=f) rfl (a_ (YT c b (x:=.none) rfl (n_ ?_)))))));refine a_ (slicePart_none ?_);show wpAny _ _ (if ((1:Int)==0)=true then _ else _) _ _ s;rw[if_neg (by decide)];refine a_ (my pl (a_ (my i (a_ (n_ ?_)))));show wpAny _ _ (match Builtin.Slice.sliceAdjust a d 1 (n:Int) with | (a,d)=>pure (a,(1:Int),Builtin.Slice.slicePlaces a d 1)) _ _ s;rw[vf a d n];show wpAny _ _ (pure (((sIx n 0 a:Nat):Int),(1:Int),Builtin.Slice.slicePlaces ((sIx n 0 a:Nat):Int) ((sIx n n d:Nat):Int) 1)) _ _ s;rw[vg];exact n_ h
def Bd (xs : Array Value) (i k : Nat) : ((List.range k).filterMap fun (m : Nat) => xs[((i : Int) + (m : Int) * 1).toNat]?).toArray = ((xs.toList.drop i).take k).toArray:=by
 have e:(fun (m:Nat)=>xs[((i:Int)+(m:Int)*1).toNat]?)=fun m=>xs[i+m]?:=by
  funext m;have:((i:Int)+(m:Int)*1).toNat=i+m:=by omega
  rw[this]
 rw [e];have:=pick_run xs i k;rw [List.filterMap_map] at this;have a : ((fun x => xs[x]?) ∘ fun x => i + x) = fun m => xs[i + m]?:=rfl;rw [a] at this;rw [this]
def getItem_tuple_cut (e:IsTup s.heap t a) (n:s.heap.IsSliceOf k o l .none) (pl:IsPart o c) (p:IsPart l d) (r:¬(sIx a.size 0 c=0/\sIx a.size a.size d=a.size)) (h:Q (.ref s.heap.objs.size) { s with heap:=s.heap.push { cls:=.type "tuple",data:=.seq ((a.toList.drop (sIx a.size 0 c)).take (sIx a.size a.size d - sIx a.size 0 c)).toArray}}) (hsz:a.size<=sizeLine):wpAny (model prog w) A (getItem (.ref t) (.ref k)) Q E s:=by
 have b:sizeOk (.seq ((a.toList.drop (sIx a.size 0 c)).take (sIx a.size a.size d - sIx a.size 0 c)).toArray):=by show ((a.toList.drop (sIx a.size 0 c)).take (sIx a.size a.size d - sIx a.size 0 c)).toArray.size<=sizeLine;rw[t_,aaT,List.length_drop,aaf];omega
 have y:sIx a.size a.size d<=a.size:=Ov _ _ (l_ _) d;obtain⟨u,g,i,v⟩:=id n;have f:s.TypeIs (.ref k) "slice":=⟨u,g,i⟩;unfold getItem;try with_reducible refine Zw ?_
 first | refine a_ (n_ ?_) | skip
 refine a_ (wpAny_sequenceKey e.typeIs (by decide) ?_);refine a_ (aaa (name:=Str.ofString "__getitem__") e.typeIs aaw
  (Z2 aaw e.typeIs entry_tuple_getitem ?_ (args_tuple_getitem _ _)))
 show wpAny _ _ (Builtin.Tuple.tupleItemsOf (.ref t) >>= _) _ _ s;refine a_ (tupleItemsOf_ e ?_);refine a_ (wpAny_typeOf f ?_);rw[if_pos (by decide)];refine a_ (jV n pl p ?_);have j:¬((((sIx a.size 0 c:Nat):Int)==0&&(1:Int)==1&&(sIx a.size a.size d - sIx a.size 0 c)==a.size)=true):=by intro q;rw[YD,YD] at q;have x:((sIx a.size 0 c:Nat):Int)=0:=eq_of_beq q.1.1;have z:sIx a.size a.size d - sIx a.size 0 c=a.size:=eq_of_beq q.2;exact r ⟨by omega,by omega⟩
 show wpAny _ _ (if (((sIx a.size 0 c:Nat):Int)==0&&(1:Int)==1&&(sIx a.size a.size d - sIx a.size 0 c)==a.size)=true then _ else _) _ _ s;rw[if_neg j,Bd];first
  |exact a_ (m:=Builtin.Tuple.tupleExact _) (ZS (n_ ⟨_,rfl,n_ h⟩) b)
  |exact a_ (m:=Builtin.Tuple.tupleExact _) (ZS (a_ (n_ (n_ ⟨_,rfl,n_ h⟩))) b)
  |exact a_ (a_ (m:=Builtin.Tuple.tupleExact _) (ZS (n_ (n_ ⟨_,rfl,n_ h⟩)) b))
  |exact a_ (a_ (m:=Builtin.Tuple.tupleExact _) (ZS (n_ ⟨_,rfl,n_ h⟩) b))
end
end HT
namespace L2
abbrev TO:=St->Hp->(Option Int->Hp->Prop)->Prop
def PO (X:Cx) (e:Option Expr) (t:TO):Prop :=
 ∀(a:List (Addr × Obj)) (s:Shared) (b:St) (H:Hp) (Q:Option Int->Hp->Prop),Inv X a b H s->t b H Q ->
  wpAny (model X.prog X.w) X.A (evalPart e X.env) (fun u s'=>∃o H',Inv X a b H' s'/\IsPart u o/\Q o H') X.xe s
def HF:TO:=fun _ H Q=>Q none H
def T3 (t:TE):TO:=fun b H Q=>t b H fun x a=>∃i,x=.int i/\Q (some i) a
section
variable {lo hi:Option Expr}
def HH:PO X none HF:=by
 intro a s b H Q I h;rw[evalPart_none];exact n_ ⟨none,H,I,.none,h⟩
def HJ (h:PE X e te):PO X (some e) (T3 te):=by
 intro a s j H Q I g;rw[evalPart_some];refine thn (h a s j H _ I g) fun u k ⟨x,d,f,b,c⟩=>?_;obtain⟨i,rfl,q⟩:=c;obtain⟨t,rfl⟩:=b;exact⟨some i,d,f,.int i t,q⟩
def SlR (X:Cx) (r:V->Option Int->Option Int->Hp->VK->Prop):Prop :=
 ∀(a:List (Addr × Obj)) (s:Shared) (e:St) (H:Hp) (x:V) (v c b:Value) (d f:Option Int) (g:Addr) (Q:VK),Inv X a e H s->RelV x v->s.heap.IsSliceOf g c b .none->IsPart c d->IsPart b f->r x d f H Q ->
  ∃T h,typeLookup (.type T) "__getitem__"=pure (some (.builtin h))/\s.TypeIs v T/\wpAny (model X.prog X.w) X.A (getItem v (.ref g)) (EP X a e Q) X.xe s
def SlR.or (h:SlR X r) (h':SlR X j):SlR X (fun x b c H Q=>r x b c H Q\/j x b c H Q):=by
 intro a s k H x v g e b c l Q I i f pl d q;rcases q with q | q
 ·exact h a s k H x v g e b c l Q I i f pl d q
 exact h' a s k H x v g e b c l Q I i f pl d q
def tSl (r:V->Option Int->Option Int->Hp->VK->Prop) (te:TE) (c th:TO):TE:=fun a H Q=>te a H fun x b=>c a b fun l d=>th a d fun u H3=>r x l u H3 Q
def Be (L:SlR X r) (D:PE X e te) (F:PO X lo tl) (n:PO X hi th):PE X (.Subscript e (.Slice lo hi none p2) pos) (tSl r te tl th):=by
 intro a s c H Q I h;refine Subscript_ (thn (D a s c H _ I h) fun v z ⟨x,E,k,o,y⟩=>?_);refine wpAny_Slice (thn (F a z c E _ k y) fun f G ⟨l,m,J,pl,K⟩=>thn (n a G c m _ J K) fun d s3 ⟨u,H3,B,g,j⟩=>?_);rw[evalPart_none];refine n_ ?_;have i:Inv X a c H3 { s3 with heap:=s3.heap.push { cls:=.type "slice",data:=.fields #[f,d,.none]}}:=B.kept (t':=s3.toks) fun b M q=>b_ _ q;obtain⟨T,N,p,t,C⟩:=L a { s3 with heap:=s3.heap.push { cls:=.type "slice",data:=.fields #[f,d,.none]}} c H3 x v f d l u s3.heap.objs.size Q i o (Heap.IsSliceOf.new ..) pl g j;show wpAny (model X.prog X.w) X.A (subscriptTail e (.Slice lo hi none p2) v (.ref s3.heap.objs.size)) (EP X a c Q) X.xe { s3 with heap:=s3.heap.push { cls:=.type "slice",data:=.fields #[f,d,.none]}};exact tail_any (ops:=[.ref s3.heap.objs.size,v]) t p C (by with_unfolding_all rfl)
def rE (xs:List V) (a b:Option Int):List V:=(xs.drop (HT.sIx xs.length 0 a)).take (HT.sIx xs.length xs.length b - HT.sIx xs.length 0 a)
def km (xs:List V) (b a:Option Int):(rE xs b a).length<=xs.length:=by
 unfold rE;rw[aaT,List.length_drop];omega
def Xw (K:Frag):V->Option Int->Option Int->Hp->VK->Prop:=fun x c b H Q=>∃a xs,x=.ref a/\SqT K H a xs /\
 ¬(HT.sIx xs.length 0 c=0/\HT.sIx xs.length xs.length b=xs.length)/\∀p,H p=none->Q (.ref p) (upd H p (.tup (rE xs c b)))
def sl_tup:SlR X (Xw X.K):=by
 intro g s y H x v w u d f z Q I n l pl k h;obtain⟨a,xs,rfl,m,p,q⟩:=h;cases n;obtain⟨e,r,j,i⟩:=I.tuple m;have c:e.toArray.size=xs.length:=by rw[t_];exact r.length.symm
 refine⟨"tuple",_,aaw.lookup,j.typeIs,?_⟩;refine HT.getItem_tuple_cut j l pl k (by rw[c];exact p) ?_ (by rw[c];exact i);rw[c];refine⟨.ref s.heap.objs.size,_,I.laid (t':=s.toks) (o:=.tup (rE xs d f)) (fun b t q=>b_ _ q) (l_ _) ?_,rfl,q _ (I.hok.fresh (l_ _))⟩;exact⟨Q_ (km xs d f) i,_,(r.drop (HT.sIx xs.length 0 d)).take (HT.sIx xs.length xs.length f - HT.sIx xs.length 0 d),Tup0.new _ _⟩
def T4 (K:Frag):R2:=fun x y H Q=>∃a b xs c,x=.ref a/\y=.ref b/\SqT K H a xs/\SqT K H b c/\xs≠[]/\xs.length+c.length<=sizeLine /\
 (c=[]->Q (.ref a) H)/\(c≠[]->∀p,H p=none->Q (.ref p) (upd H p (.tup (xs++c))))
def Vals.nil_iff (r:Vals xs us):us=[]↔xs=[]:=by
 cases r with
 |nil=>simp
 |cons _ _=>simp
def op_catT:OpR X (binaryOp .Add) (T4 X.K):=by
 intro g s C H x y v u Q I r A h;obtain⟨a,b,xs,n,rfl,rfl,l,p,m,e,t,j⟩:=h;cases r;cases A;obtain⟨i,d,p1,_⟩:=I.tuple l;obtain⟨f,c,k,_⟩:=I.tuple p;refine HT.cat_tup p1 k (fun z=>m (d.nil_iff.mp z)) (fun z=>⟨.ref a,H,I,rfl,t (c.nil_iff.mp z)⟩) (fun z=>?_) (by rw[<- d.length,<- c.length];exact e);refine⟨.ref s.heap.objs.size,_,I.laid (t':=s.toks) (o:=.tup (xs++n)) (fun b B q=>b_ _ q) (l_ _) ?_,rfl,j (fun w=>z (c.nil_iff.mpr w)) _ (I.hok.fresh (l_ _))⟩;exact⟨by rw[d_];exact e,_,d.append c,Tup0.new _ _⟩
end
def ixN (n:Nat) (i:Int):Option Nat:=if 0<=i then (if i<n then some i.toNat else none) else if -(n:Int)<=i then some (i+n).toNat else none
def atI {a:Type}(xs:List a) (i:Int):Option a:=(ixN xs.length i).bind fun j=>xs[j]?
def xm (h:ixN n i=some j):seqIndex? i n=some j/\j<n /\ -(n:Int)<=i/\i<n:=by
 unfold ixN at h;by_cases b:0<=i
 ·rw[if_pos b] at h;by_cases a:i<n
  ·rw[if_pos a] at h;have e:i.toNat=j:=O_ h;exact⟨by rw[seqIndex_of b a,e],by omega,by omega,a⟩
  rw[if_neg a] at h;cases h
 rw[if_neg b] at h;by_cases a : -(n:Int)<=i
 ·rw[if_pos a] at h;have e:(i+n).toNat=j:=O_ h;exact⟨by rw[seqIndex_neg (by omega) a,e],by omega,a,by omega⟩
 rw[if_neg a] at h;cases h
def pQ {xs:List a}{v:a} (h:atI xs i=some v):∃j,seqIndex? i xs.length=some j/\xs[j]?=some v/\j<xs.length /\ -(xs.length:Int)<=i/\i<xs.length:=by
 unfold atI at h;cases e:ixN xs.length i with
 |none=>rw[e] at h;cases h
 |some j =>
 rw[e] at h;obtain⟨d,f,c,b⟩:=xm e;exact⟨j,d,h,f,c,b⟩
def cz {xs:List a}{j:Nat}{v:a} (h:xs[j]?=some v):atI xs (j:Int)=some v:=by
 have b:j<xs.length:=(Zc.mp h).1;have e:ixN xs.length (j:Int)=some j:=by unfold ixN;rw[if_pos (by omega),if_pos (by omega)];simp
 unfold atI;rw[e];exact h
def Bf (xs:List a) (v:a):atI (xs++[v]) (-1)=some v:=by
 have b:(xs++[v]).length=xs.length+1:=by simp
 have e:ixN (xs++[v]).length (-1)=some xs.length:=by unfold ixN;rw[b,if_neg (by decide),if_pos (by omega)];congr 1;omega
 unfold atI;rw[e];show (xs++[v])[xs.length]?=some v;simp
def xn (b:Expr):Prop:=∀o i,subscripted b false o i=operate [o,i] (getItem o i)
def IxR (X:Cx) (r:R2):Prop :=
 ∀(c a:Expr) (b:List (Addr × Obj)) (s:Shared) (d:St) (H:Hp) (x y:V) (v u:Value) (Q:VK),Inv X b d H s->RelV x v->RelV y u->r x y H Q ->
  subscripted a false v u=operate [v,u] (getItem v u)->wpAny (model X.prog X.w) X.A (subscriptTail c a v u) (EP X b d Q) X.xe s
def MtR (X:Cx) (c:String) (r:V->List V->Hp->VK->Prop):Prop :=
 ∀(a:List (Addr × Obj)) (s:Shared) (b:St) (H:Hp) (x:V) (xs:List V) (v:Value) (us:List Value) (Q:VK),Inv X a b H s->RelV x v->Vals xs us->r x xs H Q ->
  wpAny (model X.prog X.w) X.A (call (.builtin c) (v::us)) (EP X a b Q) X.xe s
section
variable {X:Cx}{a b:Expr}
def IxR.or (h:IxR X r) (h':IxR X f):IxR X (fun x y H Q=>r x y H Q\/f x y H Q):=by
 intro b a c s g H x y v u Q I e i q d;rcases q with q | q
 ·exact h b a c s g H x y v u Q I e i q d
 exact h' b a c s g H x y v u Q I e i q d
def T5 (d:IxR X r) (e:PE X a ta) (g:PE X b tb) (f:xn b):PE X (.Subscript a b pos) (tOp r ta tb):=by
 intro c s l H Q I h;exact Subscript_ (Ob e g I h fun v u i x y n k j m q=>d a b c i l n x y v u Q k j m q (f _ _))
def T6 (K:Frag):R2:=fun x y H Q=>∃p xs i v,x=.ref p/\y=.int i/\SqL K H p xs/\atI xs i=some v/\Q v H
def T7 (K:Frag):R2:=fun x y H Q=>∃p xs i v,x=.ref p/\y=.int i/\SqT K H p xs/\atI xs i=some v/\Q v H
def T8:R2:=fun x y H Q=>∃z i c,x=.str z/\y=.int i/\z.length<=sizeLine/\atI z.cps.toList i=some c/\Q (.str ⟨#[c]⟩) H
def ix_list:IxR X (T6 X.K):=by
 intro e d a s n H x y v u Q I C J h m;obtain⟨p,xs,i,z,rfl,rfl,G,E,q⟩:=h;cases C;obtain⟨t,rfl⟩:=J;obtain⟨f,r,pl,N⟩:=I.list G;obtain⟨j,c,B,L,A,D⟩:=pQ E;obtain⟨w,l,k⟩:=r.get B;have F:=r.length;have M:=jT;have b:EP X a n Q w s:=⟨z,H,I,k,q⟩;by_cases o:0<=i
 ·have g:i.toNat=j:=by rw[seqIndex_of o D] at c;exact O_ c
  exact item_listR pl.isList o (by omega) (by rw[g];simpa using l) b m
 have g:(i+(f.toArray.size:Int)).toNat=j:=by rw[seqIndex_neg (by omega) A] at c;rw[t_,<- F];exact O_ c
 exact subscriptTail_builtinR (x:=w) pl.isList.typeIs slot_list_getitem.lookup
  (wpAny_getItem_list_neg (Q:=fun r s'=>r=w/\EP X a n Q r s') pl.isList (by omega) (by rw[t_] <;> omega) (by omega) (by rw[g];simpa using l) ⟨rfl,b⟩) m
def ix_tup:IxR X (T7 X.K):=by
 intro c b a s f H x y v u Q I l D h o;obtain⟨p,xs,i,z,rfl,rfl,C,n,q⟩:=h;cases l;obtain⟨t,rfl⟩:=D;obtain⟨m,r,pl,L⟩:=I.tuple C;obtain⟨j,A,k,G,E,F⟩:=pQ n;obtain⟨w,g,e⟩:=r.get k;have B:=r.length;have J:=jT;have d:EP X a f Q w s:=⟨z,H,I,e,q⟩;exact subscriptTail_builtinR (x:=w) pl.typeIs slot_tuple_getitem.lookup
  (getItem_tuple (j:=j) (Q:=fun r s'=>r=w/\EP X a f Q r s') pl (by omega) (by omega) (by rw[t_,<- B];exact A) (by simpa using g) ⟨rfl,d⟩) o
def Ow:IxR X T8:=by
 intro b a e s D H x y v u Q I p w h k;obtain⟨z,i,c,rfl,rfl,B,l,q⟩:=h;obtain⟨t,rfl⟩:=p;obtain⟨t',rfl⟩:=w;obtain⟨j,d,m,A,f,g⟩:=pQ l;have n:z.cps.toList.length=z.length:=by simp [Str.length]
 rw[n] at d f g;have C:=jT;exact tail_any (typeIs_str s z t) slot_str_getitem.lookup (getItem_str (c:=c) (by
  have o:decide (i < -(2^63:Int))=false:=H_ (by omega)
  have r:decide (i ≥ 2^63)=false:=H_ (by omega)
  rw[o,r,Bool.or_false]) (by rw[d];simpa using m) ⟨.str ⟨#[c]⟩,H,I.tok _,⟨_,rfl⟩,q⟩) k
def rIx (K:Frag):R2:=fun x y H Q=>T6 K x y H Q\/T7 K x y H Q\/T8 x y H Q
def Ox:IxR X (rIx X.K):=ix_list.or (ix_tup.or Ow)
def vh (a:List Value) (n j:Nat) (u:Value):Obj.mapSeq (·.setIfInBounds j u) { cls:=.type "list",data:=.seq a.toArray n}={ cls:=.type "list",data:=.seq (a.set j u).toArray n}:=by
 simp [Obj.mapSeq]
def Inv.lst {b:List (Addr × Obj)}{c:St}{H:Hp}{s:Shared}{p:Addr}{xs:List V}(I:Inv X b c H s) (h:H p=some (.lst xs)) :
  ∃(a:List Value) (n:Nat),Vals xs a/\s.heap.get? p=some { cls:=.type "list",data:=.seq a.toArray n}/\xs.length<=sizeLine:=by
 obtain⟨z,a,n,r,e⟩:=I.hok p _ h;exact⟨a,n,r,e,z⟩
def Inv.lstUpd {a:List (Addr × Obj)}{j:St}{c its':List Value} (I:Inv X a j H s) (h:H p=some (.lst xs)) (l:s.heap.get? p=some { cls:=.type "list",data:=.seq c.toArray n}) (i:f { cls:=.type "list",data:=.seq c.toArray n}={ cls:=.type "list",data:=.seq its'.toArray g}) (r:Vals d its') (k:d.length<=sizeLine) (t:Nat):
  Inv X a j (upd H p (.lst d)) { s with heap:=s.heap.update p f,toks:=t}:=by
 have e:(s.heap.update p f).get? p=some { cls:=.type "list",data:=.seq its'.toArray g}:=by rw[ZC f l (by rw[i] <;> rfl),i]
 refine I.write (x:=p) (e:=p) (by rw[h];trivial) (.inl rfl) (fun b u m q=>(YJ _ _ (Ne.symm m)).trans q) ⟨_,e⟩ ?_;exact⟨k,its',g,r,e⟩
def T9:V->V->V->Hp->(Hp->Prop)->Prop:=fun o i v H Q=>∃p xs k j,o=.ref p/\i=.int k/\H p=some (.lst xs)/\ixN xs.length k=some j/\Q (upd H p (.lst (xs.set j v)))
def set_list:PSet X T9:=by
 intro b s A H o i v J F u Q I z D C h;obtain⟨p,xs,k,j,rfl,rfl,m,y,q⟩:=h;cases z;obtain⟨t,rfl⟩:=D;obtain⟨a,n,r,d,B⟩:=I.lst m;obtain⟨c,E,l,g⟩:=xm y;have f:=r.length;have G:=jT;have w:Inv X b A (upd H p (.lst (xs.set j v))) { s with heap:=s.heap.update p (Obj.mapSeq (·.setIfInBounds j u))} :=
  I.lstUpd m d (vh a n j u) (r.set C j) (by rw[aaZ];exact B) s.toks
 by_cases x:0<=k
 ·have e:k.toNat=j:=by rw[seqIndex_of x g] at c;exact O_ c
  exact PySem.W.ki_setAt d x (by omega) (by rw[t_,<- f];exact g) (by rw[e];exact⟨_,w,q⟩)
 have e:(k+(a.toArray.size:Int)).toNat=j:=by rw[seqIndex_neg (by omega) l] at c;rw[t_,<- f];exact O_ c
 exact PySem.W.ki_setBack d (by omega) (by rw[t_,<- f];exact l) (by omega) (by rw[e];exact⟨_,w,q⟩)
def pR (b a:Option Int) (n:Nat):(sliceBounds b a none n).1=((HT.sIx n 0 b:Nat):Int)/\(sliceBounds b a none n).2.1=((HT.sIx n n a:Nat):Int)/\(sliceBounds b a none n).2.2=1:=by
 refine⟨?_,?_,rfl⟩
 ·cases b with
  |none=>simp [sliceBounds,HT.sIx]
  |some i =>
  simp only[sliceBounds,HT.sIx,Option.getD_none,show (1:Int)>0 by decide,if_true];by_cases h:i<0
  ·simp only[h,if_true] <;> omega
  simp only[h,YG] <;> omega
 cases a with
 |none=>simp [sliceBounds,HT.sIx]
 |some i =>
 simp only[sliceBounds,HT.sIx,Option.getD_none,show (1:Int)>0 by decide,if_true];by_cases h:i<0
 ·simp only[h,if_true] <;> omega
 simp only[h,YG] <;> omega
def nP (a:List Value) (b c:Option Int):slicePick a.toArray b c none=((a.drop (HT.sIx a.length 0 b)).take (HT.sIx a.length a.length c - HT.sIx a.length 0 b)).toArray:=by
 obtain⟨e,f,d⟩:=pR b c a.toArray.size;unfold slicePick;rw[e,f,d];simp only[sliceRange_one,pick_run,t_] <;> rfl
def Xx (K:Frag):V->Option Int->Option Int->Hp->VK->Prop:=fun x c b H Q=>∃a xs,x=.ref a/\SqL K H a xs/\∀p,H p=none->Q (.ref p) (upd H p (.lst (rE xs c b)))
def sl_list:SlR X (Xx X.K):=by
 intro f s w H x v u t d e y Q I n l pl j h;obtain⟨a,xs,rfl,m,q⟩:=h;cases n;obtain⟨i,r,g,k⟩:=I.list m;have c:=r.length;refine⟨"list",_,slot_list_getitem.lookup,g.isList.typeIs,?_⟩;refine wpAny_getItem_list_slice g.isList l pl j .none (by simp) ?_ (by rw[t_] <;> omega);rw[nP,<- c];refine⟨.ref s.heap.objs.size,_,I.laid (t':=s.toks) (o:=.lst (rE xs d e)) (fun b p q=>b_ _ q) (l_ _) ?_,rfl,q _ (I.hok.fresh (l_ _))⟩;exact⟨Q_ (km xs d e) k,_,0,(r.drop (HT.sIx xs.length 0 d)).take (HT.sIx xs.length xs.length e - HT.sIx xs.length 0 d),o_ _ rfl⟩
def call_len_seq:CallR X (.builtin "len") (fun xs H Q=>∃p b,xs=[.ref p]/\(SqL X.K H p b\/SqT X.K H p b)/\Q (.int b.length) H):=by
 intro f s k H xs us Q I r h;obtain⟨p,b,rfl,c,q⟩:=h;obtain⟨u,rfl,i⟩:=vals1 r;cases i;have j:=jT;rcases c with c | c
 ·obtain⟨d,e,pl,g⟩:=I.list c;have a:=e.length;exact Calls.call_len_list pl.isList (by simp only[t_] <;> omega) ⟨.int b.length,H,I.tok _,⟨s.toks+1,by rw[t_,a]⟩,q⟩
 obtain⟨d,e,pl,g⟩:=I.tuple c;have a:=e.length;exact len_tuple pl (by simp only[t_] <;> omega) ⟨.int b.length,H,I.tok _,⟨s.toks+1,by rw[t_,a]⟩,q⟩
def pU:CallR X (.builtin "len") (fun xs H Q=>∃z,xs=[.str z]/\z.length<=sizeLine/\Q (.int z.length) H):=by
 intro a s c H xs us Q I r h;obtain⟨z,rfl,b,q⟩:=h;obtain⟨u,rfl,t,rfl⟩:=vals1 r;have d:=jT;exact len_str (by omega) ⟨.int z.length,H,I.tok _,⟨_,rfl⟩,q⟩
def CallR.or (h:CallR X f r) (h':CallR X f d):CallR X f (fun xs H Q=>r xs H Q\/d xs H Q):=by
 intro a s c H xs us Q I b q;rcases q with q | q
 ·exact h a s c H xs us Q I b q
 exact h' a s c H xs us Q I b q
def pW:CallR X (.type "list") (fun xs H Q=>∃p c,xs=[.ref p]/\(SqL X.K H p c\/SqT X.K H p c)/\∀l,H l=none->Q (.ref l) (upd H l (.lst c))):=by
 intro t s B H xs us Q I r h;obtain⟨p,c,rfl,m,q⟩:=h;obtain⟨u,rfl,A⟩:=vals1 r;cases A;have k:∀(a:List Value),Vals c a->c.length<=sizeLine->∀(h':Heap) (f:Nat),(∀b z,s.heap.get? b=some z->h'.get? b=some z) ->
   h'.get? s.heap.objs.size=some { cls:=.type "list",dict:=none,data:=.seq a.toArray f,slots:=#[]}->EP X t B Q (.ref s.heap.objs.size) { s with heap:=h'}:=fun a d i h' f j e =>
  ⟨.ref s.heap.objs.size,_,I.laid (t':=s.toks) j (l_ _) (show ObjOk X.prog X.w _ h' _ (.lst c) from ⟨i,a,f,d,e⟩),rfl,q _ (I.hok.fresh (l_ _))⟩
 rcases m with m | m
 ·obtain⟨a,d,pl,i⟩:=I.list m;have g:=d.length;obtain⟨o,v,x,n,y⟩:=pl.isList;exact call_list_seq p (.inl rfl) v x y (fun h' f j e=>k a d i h' f j e) (by simp only[t_] <;> omega)
 obtain⟨a,d,pl,i⟩:=I.tuple m;have g:=d.length;obtain⟨o,v,x,n,y⟩:=pl;exact call_list_seq p (.inr rfl) v x y (fun h' f j e=>k a d i h' f j e) (by simp only[t_] <;> omega)
def nQ:CallR X (.type "tuple") (fun xs H Q=>∃p d,xs=[.ref p]/\((SqL X.K H p d/\∀l,H l=none->Q (.ref l) (upd H l (.tup d)))\/(SqT X.K H p d/\Q (.ref p) H))):=by
 intro a s m H xs us Q I r h;obtain⟨p,d,rfl,h⟩:=h;obtain⟨u,rfl,t⟩:=vals1 r;cases t;rcases h with ⟨g,q⟩ | ⟨g,q⟩
 ·obtain⟨c,f,pl,j⟩:=I.list g;have i:=f.length;refine call_tuple_list pl.isList (fun h' n=>?_) (by simp only[t_] <;> omega);have k:Inv X a m H { s with heap:=h'}:=I.kept (t':=s.toks) n;have v:Inv X a m (upd H h'.objs.size (.tup d)) { s with heap:=h'.push { cls:=.type "tuple",data:=.seq c.toArray}} :=
   k.laid (t':=s.toks) (fun b o e=>b_ _ e) (l_ _) (show ObjOk X.prog X.w _ _ _ (.tup d) from ⟨j,c,f,Tup0.new _ _⟩)
  exact⟨.ref h'.objs.size,_,v,rfl,q _ (k.hok.fresh (l_ _))⟩
 obtain⟨c,f,pl,j⟩:=I.tuple g;exact call_tuple_same pl ⟨.ref p,H,I,rfl,q⟩
def tyV (K:Frag) (T:String) (x:V) (H:Hp):Prop:=match x with
 |.str _=>T="str"
 |.int _=>T="int"
 |.ref p=>(T="list"/\∃xs,SqL K H p xs)\/(T="tuple"/\∃xs,SqT K H p xs) \/
   (T="dict"/\((∃kvs,H p=some (.dK kvs))\/∃kvs,H p=some (.dT kvs)))\/(T="set"/\∃S n,H p=some (.set S n))
 |_=>False
def Bg {w:St} (I:Inv X g w H s) (r:RelV x v) (h:tyV X.K T x H):
  s.TypeIs v T/\∀a,v=.ref a->∃m,s.heap.get? a=some m/\m.dict=none:=by
 cases x with
 |str z=>obtain⟨t,rfl⟩:=r;cases (show T="str" from h);exact⟨typeIs_str s z t,fun _ e=>nomatch e⟩
 |int i=>obtain⟨t,rfl⟩:=r;cases (show T="int" from h);exact⟨typeIs_int s i t,fun _ e=>nomatch e⟩
 |ref p =>
  cases r;rcases h with ⟨rfl,xs,y⟩ | ⟨rfl,xs,b⟩ | ⟨rfl,b⟩ | ⟨rfl,S,n,b⟩
  ·obtain⟨f,_,pl,_⟩:=I.list y;refine⟨pl.isList.typeIs,fun a e=>?_⟩;cases e;obtain⟨o,n,e,c,j,_⟩:=pl;exact⟨o,e,j⟩
  ·rcases b with b | ⟨o,f,n,b,k,j,_⟩
   ·obtain⟨_,f,r,o,q,k,n,j,u⟩:=b.ok I.hok;refine⟨⟨o,q,k⟩,fun a e=>?_⟩;cases e;exact⟨o,q,u⟩
   refine⟨⟨o,I.kIn p o b,k⟩,fun a e=>?_⟩;cases e;exact⟨o,I.kIn _ o b,j⟩
  ·have z:∃o,s.heap.get? p=some o/\o.ExactDict:=by
    rcases b with ⟨kvs,b⟩ | ⟨kvs,b⟩
    ·obtain⟨_,_,_,_,o,_,_,e,d,_⟩:=I.hok p _ b;exact⟨o,e,d⟩
    obtain⟨_,_,_,_,o,_,_,e,d,_⟩:=I.hok p _ b;exact⟨o,e,d⟩
   obtain⟨o,e,d⟩:=z;refine⟨⟨o,e,d.1⟩,fun a l=>?_⟩;cases l;exact⟨o,e,d.2.1⟩
  obtain⟨o,_,_,_,e,d,_⟩:=I.hok p _ b;refine⟨⟨o,e,d.1⟩,fun a l=>?_⟩;cases l;exact⟨o,e,d.2.1⟩
 |_=>exact False.elim h
def Xy (K:Frag) (T:String) (r:V->List V->Hp->VK->Prop) (b:TE):TE:=fun c H Q=>b c H fun x a=>tyV K T x a/\r x [] a Q
def tBM (K:Frag) (T:String) (r:V->List V->Hp->VK->Prop) (c:TE) (t:TA):TE:=fun b H Q=>c b H fun x a=>tyV K T x a/\t b a fun xs d=>r x xs d Q
variable {apos cpos:Pos}{T id:String}
def Oz (t:PlainAttrs T) (d:Slot T name id) (e:typeOf (.builtin id)=pure (.type "method_descriptor")) (j:MtR X id r) (l:PE X o to)
  (c:attributeBase o name X.env (eval o X.env)=eval o X.env:=by rfl) (b:(apos.endLine==cpos.line)=true:=by rfl):PE X (.Call (.Attribute o name apos) [] [] cpos) (Xy X.K T r to):=by
 intro a s i H Q I h;refine wpAny_Call_method0_late c b (thn (l a s i H _ I h) fun v u ⟨x,q,g,f,k,m⟩=>?_);obtain⟨n,p⟩:=Bg g f k;exact⟨T,id,t,d,e,n,p,aaG rfl (PySem.evalArgs_none (j a u i q x [] v [] Q g f .nil m))⟩
def Ua (L:PlainAttrs T) (f:Slot T name id) (i:typeOf (.builtin id)=pure (.type "method_descriptor")) (G:MtR X id r) (p:PE X o to) (z:PA X (e::es) t)
  (c:attributeBase o name X.env (eval o X.env)=eval o X.env:=by rfl)
  (g:((backTo cpos (starEach (e::es) X.env)).all (fun x=>!x.1)&&(backToKw cpos (keywordEach [] X.env)).all (fun x=>x.1.isSome)
   && decide ((e::es).length+([]:List Keyword).length+(if ([]:List Keyword).isEmpty then 0 else 1)<30))=true:=by rfl)
  (d:(apos.endLine==cpos.line)=true:=by rfl) (A:starEach (e::es) X.env=(false,eval e X.env)::starEach es X.env:=by rfl) (b:(backTo cpos (starEach es X.env)).any (·.1)=false:=by rfl) :
  PE X (.Call (.Attribute o name apos) (e::es) [] cpos) (tBM X.K T r to t):=by
 intro a s j H Q I h;refine wpAny_Call_method_late c g d rfl (thn (p a s j H _ I h) fun v w ⟨x,C,k,l,n,y⟩=>?_);obtain⟨B,q⟩:=Bg k l n;refine⟨T,id,L,f,i,B,q,?_⟩;have m:=z cpos a w j C _ k y;rw[A] at m ⊢;refine aaG (by show (false||(backTo cpos (starEach es X.env)).any (·.1))=false;rw[b] <;> rfl) (Calls.evalArgs_plain ?_);exact thn m fun us D ⟨vs,u,E,J,F⟩=>G a D j u x vs v us Q E l J F
end
def MtM (X:Cx) (c:String) (r:V->List V->Hp->VK->Prop):Prop :=
 ∀(a:List (Addr × Obj)) (s:Shared) (b:St) (H:Hp) (x:V) (xs:List V) (v:Value) (us:List Value) (Q:VK),Inv X a b H s->RelV x v->Vals xs us->r x xs H Q ->
  wpAny (model X.prog X.w) X.A (call (.builtin c) (v::us)) (EP X a b Q) X.xe s
def Vals.one (r:Vals [x] us):∃u,us=[u]/\RelV x u:=vals1 r
def Vals.zero:∀{us:List Value},Vals [] us->us=[]
 |_,.nil=>rfl
def Vals.dropLast (h:Vals xs us):Vals xs.dropLast us.dropLast:=by
 induction h with
 |nil=>exact .nil
 |cons r t a =>
 cases t with
 |nil=>exact .nil
 |cons q t'=>exact .cons r a
def Vals.reverse (h:Vals xs us):Vals xs.reverse us.reverse:=by
 induction h with
 |nil=>exact .nil
 |cons r t a=>rw[List.reverse_cons,List.reverse_cons];exact Vals.append a (.cons r .nil)
def Vals.rep (h:Vals xs us):∀k:Nat,Vals (List.replicate k xs).flatten (List.replicate k us).flatten
 |0=>.nil
 |k+1=>by
  rw[Y8,Y8,Zm,Zm]
  exact Vals.append h (Vals.rep h k)
def vm {d:Type}(l:List d):l.eraseIdx (l.length - 1)=l.dropLast:=by
 induction l with
 |nil=>rfl
 |cons a r c =>
 cases r with
 |nil=>rfl
 |cons b r =>
  have e:(a::b::r).length - 1=((b::r).length - 1)+1:=by
   have g:(a::b::r).length=r.length+2:=rfl
   have f:(b::r).length=r.length+1:=rfl
   omega
  rw[e,List.eraseIdx_cons_succ,c]
  all_goals rfl
def foldl_rep (a:List Value):∀(k:Nat) (b:List Value),
  List.foldl (fun d c=>d++c) b.toArray (List.replicate k a.toArray)=(b++(List.replicate k a).flatten).toArray
 |0,b=>by simp
 |k+1,b=>by
  have e:b.toArray++a.toArray=(b++a).toArray:=by simp
  have f:(b++a)++(List.replicate k a).flatten=b++(List.replicate (k+1) a).flatten:=by
   rw[Y8,Zm,YW]
  rw[<- f,<- foldl_rep a k (b++a),<- e,Y8,aa0]
section
variable {X:Cx}{pins:List (Addr × Obj)}{σ:St}
def Inv.lset {a its':List Value} (I:Inv X pins σ H s) (h:H l=some (.lst xs)) (e:s.heap.get? l=some { cls:=.type "list",data:=.seq a.toArray n}) (b:f a.toArray=its'.toArray) (c:Vals ys its') (g:ys.length<=sizeLine):
  Inv X pins σ (upd H l (.lst ys)) { s with heap:=s.heap.update l (Obj.mapSeq f),toks:=t'}:=by
 have q:=PySem.IsL.update e f;rw[b] at q;refine I.write (x:=l) (e:=l) (by rw[h];exact trivial) (.inl rfl) (fun j u i d=>(YJ s.heap (Obj.mapSeq f) (Ne.symm i)).trans d) ⟨_,q⟩ ?_;exact⟨g,its',_,c,q⟩
def Inv.lnew (I:Inv X pins σ H s) (c:Vals ys a) (b:ys.length<=sizeLine):
  Inv X pins σ (upd H s.heap.objs.size (.lst ys)) { s with heap:=s.heap.push { cls:=.type "list",data:=.seq a.toArray},toks:=t'} :=
 I.laid (fun _ _ q=>b_ _ q) (l_ _) ⟨b,a,0,c,o_ _ rfl⟩
def Inv.fresh (I:Inv X pins σ H s):H s.heap.objs.size=none:=I.hok.fresh (l_ _)
def Inv.lstM (I:Inv X pins σ H s) (b:H l=some (.lst xs)):xs.length<=sizeLine/\∃(a:List Value) (n:Nat),Vals xs a/\xs.length=a.length/\s.heap.get? l=some { cls:=.type "list",data:=.seq a.toArray n}:=by
 obtain⟨z,a,n,r,e⟩:=I.hok l _ b;exact⟨z,a,n,r,r.length,e⟩
def rF (h:n<=sizeLine):Builtin.List.listTooLong n=false:=by
 unfold Builtin.List.listTooLong;exact H_ (by omega)
def HN:V->List V->Hp->VK->Prop:=fun x vs H Q=>∃l xs y,x=.ref l/\vs=[y]/\H l=some (.lst xs)/\xs.length<sizeLine/\Q .non (upd H l (.lst (xs++[y])))
def zp:MtM X "list.append" HN:=by
 intro c s k H x vs v us Q I d f h;obtain⟨l,xs,y,rfl,rfl,b,i,q⟩:=h;cases d;obtain⟨u,rfl,g⟩:=f.one;obtain⟨z,a,n,r,j,e⟩:=I.lstM b;refine aa9 F.slot_list_append ⟨_,e,rfl⟩ F.entry_list_append (F.args_list_append_2 _ _) (list_append l a.toArray n u (by rw[t_];omega)) ⟨e,?_⟩;refine⟨.non,_,I.lset (its':=a++[u]) b e (by simp) (r.append (.cons g .nil)) ?_,rfl,q⟩;rw[d_,A_];omega
def HQ:V->List V->Hp->VK->Prop:=fun x vs H Q=>∃l b xs a,x=.ref l/\vs=[.ref b]/\H l=some (.lst xs)/\H b=some (.lst a)/\xs.length+a.length<=sizeLine/\Q .non (upd H l (.lst (xs++a)))
def zq:MtM X "list.extend" HQ:=by
 intro g s C H x vs v us Q I o p h;obtain⟨l,b,xs,D,rfl,rfl,f,t,y,q⟩:=h;cases o;obtain⟨u,rfl,w⟩:=p.one;cases w;obtain⟨z,c,n,r,A,e⟩:=I.lstM f;obtain⟨B,a,k,j,i,m⟩:=I.lstM t;have hsz:c.toArray.size+a.toArray.size<=sizeLine:=by rw[t_,t_];omega
 have d:¬(!c.toArray.isEmpty&&Builtin.List.listTooLong (c.toArray.size+a.toArray.size))=true:=by rw[rF hsz,Bool.and_false];exact J_
 refine aa9 F.slot_list_extend ⟨_,e,rfl⟩ F.entry_list_extend (F.args_list_extend_2 _ _)
  (AutoSeq1.list_extend_list_list_0 l c.toArray n b a.toArray k d (by rw[t_];omega) (by omega)) ⟨e,m,?_⟩
 refine⟨.non,_,I.lset (its':=c++a) f e (by simp) (r.append j) ?_,rfl,q⟩;rw[d_];omega
def Xz:V->List V->Hp->VK->Prop:=fun x vs H Q=>∃l xs y,x=.ref l/\vs=[]/\H l=some (.lst xs)/\xs[xs.length - 1]?=some y/\Q y (upd H l (.lst xs.dropLast))
def OD:MtM X "list.pop" Xz:=by
 intro f s p H x vs v us Q I k m h;obtain⟨l,xs,y,rfl,rfl,d,i,q⟩:=h;cases k;have c:=m.zero;subst c;obtain⟨z,a,n,r,j,e⟩:=I.lstM d;obtain⟨u,g,o⟩:=r.get i;have b:a.toArray[a.toArray.size - 1]?=some u:=by show a.toArray[a.length - 1]?=some u;rw[<- aaN,<- j];exact g
 refine aa9 F.slot_list_pop ⟨_,e,rfl⟩ F.entry_list_pop (F.args_list_pop_1 _) (MeetsSeq.list_pop_last l a.toArray n u b (by rw[t_];omega)) ⟨e,?_⟩;refine⟨y,_,I.lset (its':=a.dropLast) d e ?_ r.dropLast ?_,o,q⟩
 ·show a.toArray.eraseIdxIfInBounds (a.toArray.size - 1)=a.dropLast.toArray;rw[t_,List.eraseIdxIfInBounds_toArray,vm]
 rw[List.length_dropLast];omega
def Bh:V->List V->Hp->VK->Prop:=fun x vs H Q=>∃l xs,x=.ref l/\vs=[]/\H l=some (.lst xs)/\Q .non (upd H l (.lst xs.reverse))
def vo:MtM X "list.reverse" Bh:=by
 intro d s j H x vs v us Q I f g h;obtain⟨l,xs,rfl,rfl,c,q⟩:=h;cases f;have b:=g.zero;subst b;obtain⟨z,a,n,r,i,e⟩:=I.lstM c;refine aa9 F.slot_list_reverse ⟨_,e,rfl⟩ F.entry_list_reverse (F.args_list_reverse_1 _) (AutoSeq1.list_reverse_list_0 l a.toArray n (by rw[t_];omega)) ⟨e,?_⟩;refine⟨.non,_,I.lset (its':=a.reverse) c e (by simp) r.reverse ?_,rfl,q⟩;rw[ZW];omega
def XC:R2:=fun x y H Q=>∃l b xs a,x=.ref l/\y=.ref b/\H l=some (.lst xs)/\H b=some (.lst a)/\xs.length+a.length<=sizeLine/\∀p,H p=none->Q (.ref p) (upd H p (.lst (xs++a)))
def op_cat:OpR X (binaryOp .Add) XC:=by
 intro d s C H x y v u Q I k p h;obtain⟨l,b,xs,D,rfl,rfl,i,m,t,q⟩:=h;cases k;cases p;obtain⟨z,c,n,r,A,e⟩:=I.lstM i;obtain⟨B,a,w,g,f,o⟩:=I.lstM m;refine PySem.P.add_list e o ?_ (by rw[t_,t_];omega);have j:c.toArray++a.toArray=(c++a).toArray:=by simp
 rw[j];exact⟨.ref _,_,I.lnew (t':=s.toks) (r.append g) (by rw[d_];omega),rfl,q _ I.fresh⟩
def XD:R2:=fun x y H Q=>∃l k xs,x=.ref l/\y=.int k/\H l=some (.lst xs) /\ -(2^63)<=k/\k<2^63/\xs.length*k.toNat<=sizeLine /\
 ∀p,H p=none->Q (.ref p) (upd H p (.lst (List.replicate k.toNat xs).flatten))
def len_rep {b:Type}(xs:List b) (k:Nat):(List.replicate k xs).flatten.length=k*xs.length:=by
 induction k with
 |zero=>simp
 |succ k a=>rw[Y8,Zm,d_,a,Nat.succ_mul,Nat.add_comm]
def OJ:OpR X (binaryOp .Mult) XD:=by
 intro p s L H x y v u Q I B J h;obtain⟨l,k,xs,rfl,rfl,D,E,A,w,q⟩:=h;cases B;obtain⟨t,rfl⟩:=J;obtain⟨z,b,n,r,G,e⟩:=I.lstM D;have i:b.toArray.size*k.toNat<=sizeLine:=by rw[t_,<- G];exact w
 have f:¬b.toArray.size*k.toNat>(2^63 - 1) / 8:=by
  have:(sizeLine:Nat)<=(2^63 - 1) / 8:=by decide
  omega
 have d:¬(!Builtin.List.listFitsIndex k)=true:=by rw[fitsIndex_both E A];exact J_
 have c:¬Builtin.List.listTooLong (b.toArray.size*k.toNat)=true:=by rw[rF i];exact J_
 have g:List.foldl (fun o j=>o++j) #[] (List.replicate (if b.toArray.isEmpty=true then 0 else k.toNat) b.toArray)=(List.replicate k.toNat b).flatten.toArray:=by
  have C:∀m:Nat,List.foldl (fun o j=>o++j) #[] (List.replicate m b.toArray)=(List.replicate m b).flatten.toArray:=fun m=>by have:=foldl_rep b m [];rw[aaJ] at this;exact this
  rw[C];cases b with
  |nil=>simp
  |cons a K=>rw[if_neg (by simp)]
 refine wpAny_binaryOp_repeat_ref (T:="list") (U:="int") (by decide) ⟨_,e,rfl⟩ (fun s'=>typeIs_int s' k t) noFill_list_mul F.fills_int_mul F.slot_int_rmul repeat_list F.slot_int_index.lookup
  (aa9 F.slot_int_rmul (typeIs_int s k t) F.entry_int_rmul (F.args_int_rmul_2 _ _) (int___rmul___int_list k t l b.toArray n)
   ⟨e,rfl,⟨_,e,rfl⟩,aa9 F.slot_list_mul ⟨_,e,rfl⟩ F.entry_list_mul (F.args_list_mul_2 _ _) (AutoListH.list___mul___list_int_3 l b.toArray n k t d f c) ⟨e,?_⟩⟩)
 rw[g];exact⟨.ref _,_,I.lnew (t':=s.toks) (r.rep k.toNat) (by rw[len_rep,Nat.mul_comm];exact w),rfl,q _ I.fresh⟩
set_option maxRecDepth 100000 in
end
section
variable {κ:Type}[DecidableEq κ]
def eZ (kvs:List (κ × V)) (k:κ):Option V:=(kvs.find? fun a=>decide (a.1=k)).map (·.2)
def putK (kvs:List (κ × V)) (k:κ) (v:V):List (κ × V) :=
 if (kvs.any fun a=>decide (a.1=k))=true then kvs.map (fun a=>if a.1=k then (a.1,v) else a) else kvs++[(k,v)]
def fc {k:κ} (e:p.1=k):eZ (p::r) k=some p.2:=by simp [eZ,aac,e]
def fj {k:κ} (e:¬p.1=k):eZ (p::r) k=eZ r k:=by simp [eZ,aac,e]
def rG (k:κ):∀kvs:List (κ × V),(kvs.any fun a=>decide (a.1=k))=(eZ kvs k).isSome
 |[]=>rfl
 |p::r=>by
  rw[aaW]
  by_cases e:p.1=k
  ·
   simp only[fc e,L_ e,Bool.true_or,Option.isSome_some]
  ·
   rw[fj e,H_ e,Bool.false_or];exact rG k r
def fH (kvs:List (κ × V)) (k:κ) (v:V):(putK kvs k v).length<=kvs.length+1:=by
 unfold putK;split
 ·rw[e_];omega
 rw[d_,j_,Y0];omega
def RelO.isSome_eq (r:RelO o u):o.isSome=u.isSome:=by
 cases o with
 |none=>cases u with
  |none=>rfl
  |some _=>exact (show False from r).elim
 |some _=>cases u with
  |none=>exact (show False from r).elim
  |some _=>rfl
def KV.val (r:KV kvs vs) (k:κ):RelO (eZ kvs k) (valueAt vs k):=by
 unfold KV at r;induction r with
 |nil=>exact True.intro
 |@cons p q i a h t f =>
 obtain⟨d,g⟩:=h;by_cases e:p.1=k
 ·have c:q.1=k:=d.symm.trans e;have b:valueAt (q::a) k=some q.2:=by simp [valueAt,aac,c]
  rw[fc e,b];exact g
 have c:¬q.1=k:=fun z=>e (d.trans z);have b:valueAt (q::a) k=valueAt a k:=by simp [valueAt,aac,c]
 rw[fj e,b];exact f
def KV.any (r:KV kvs vs) (k:κ):(kvs.any fun a=>decide (a.1=k))=vs.any fun a=>decide (a.1=k):=by
 unfold KV at r;induction r with
 |nil=>rfl
 |cons h t b=>rw[aaW,aaW,b,h.1]
def KV.repl (r:KV kvs vs) (k:κ) (f:RelV y u):
  KV (kvs.map fun a=>if a.1=k then (a.1,y) else a) (vs.map fun a=>if a.1=k then (a.1,u) else a):=by
 unfold KV at r ⊢;induction r with
 |nil=>exact .nil
 |@cons p q i g h t c =>
 rw[G_,G_];refine .cons ?_ c;obtain⟨b,d⟩:=h;by_cases e:p.1=k
 ·rw[if_pos e,if_pos (b.symm.trans e)];exact⟨b,f⟩
 rw[if_neg e,if_neg (fun z=>e (b.trans z))];exact⟨b,d⟩
def KV.put (r:KV kvs vs) (k:κ) (a:RelV y u):KV (putK kvs k y) (stored vs k u):=by
 unfold putK stored;rw[r.any k];by_cases e:(vs.any fun b=>decide (b.1=k))=true
 ·rw[if_pos e,if_pos e];exact r.repl k a
 rw[if_neg e,if_neg e];exact Paired.snoc r ⟨rfl,a⟩
def KV.length {vs:List (κ × Value)} (r:KV kvs vs):kvs.length=vs.length:=aas r
end
def mz (r:RelV (kV k) u):(bK P w).is k u=true:=by
 cases k with
 |inl i=>obtain⟨t,e⟩:=(show ∃t,u=Value.int i t from r);subst e;exact rm P w i t
 |inr x=>obtain⟨t,e⟩:=(show ∃t,u=Value.str x t from r);subst e;exact rA P w x t
def oN:∀{a:List Key}{us:List Value},Vals (a.map kV) us->ItemsAre (bK P w) a us
 |[],_,r=>by rw[ZF] at r;cases r;exact .nil
 |k::a,_,r=>by
  rw[G_] at r
  cases r with
  |cons h t=>exact .cons (mz h) (oN t)
abbrev KT (H:Hp):List (List Key × V)->List (List Key × Addr × Value)->Prop:=Paired fun p q=>p.1=q.1/\H q.2.1=some (.tup (p.1.map kV))/\RelV p.2 q.2.2
def KT.val (r:KT H kvs xs) (k:List Key):RelO (eZ kvs k) ((atKey xs k).map (·.2)):=by
 induction r with
 |nil=>exact True.intro
 |@cons p q i a h t f =>
 obtain⟨d,_,g⟩:=h;by_cases e:p.1=k
 ·have c:q.1=k:=d.symm.trans e;have b:atKey (q::a) k=some q.2:=by simp [atKey,aac,c]
  rw[fc e,b];exact g
 have c:¬q.1=k:=fun z=>e (d.trans z);have b:atKey (q::a) k=atKey a k:=by simp [atKey,aac,c]
 rw[fj e,b];exact f
def KT.repl (r:KT H kvs xs) (k:List Key) (g:RelV y u):
  KT H (kvs.map fun b=>if b.1=k then (b.1,y) else b) (xs.map (putAt k u)):=by
 induction r with
 |nil=>exact .nil
 |@cons p q j i h t f =>
 rw[G_,G_];refine .cons ?_ f;obtain⟨a,c,d⟩:=h;unfold putAt;by_cases e:p.1=k
 ·rw[if_pos e,if_pos (a.symm.trans e)];exact⟨a,c,g⟩
 rw[if_neg e,if_neg (fun z=>e (a.trans z))];exact⟨a,c,d⟩
def KT.put (r:KT H kvs xs) (k:List Key) (d:H b=some (.tup (k.map kV))) (a:RelV y u):
  KT H (putK kvs k y) (storedH xs k b u):=by
 have e:(kvs.any fun c=>decide (c.1=k))=(atKey xs k).isSome:=by rw[rG,(r.val k).isSome_eq,Option.isSome_map]
 unfold putK storedH;rw[e];by_cases q:(atKey xs k).isSome=true
 ·rw[if_pos q,if_pos q];exact r.repl k a
 rw[if_neg q,if_neg q];exact Paired.snoc r ⟨rfl,d,a⟩
def KT.keeps (r:KT H kvs xs) (a:∀b ys,H b=some (.tup ys)->H' b=some (.tup ys)):KT H' kvs xs :=
 Paired.mapP r fun _ _ z=>⟨z.1,a _ _ z.2.1,z.2.2⟩
section
variable {P:Program}{w:World}
def K7 (b:HOk P w H h) (e:Rd H a u):ObjOk P w H h a u:=e.ok b
def oO (b:HOk P w H h) (e:Rd H a (.dK kvs)):kvs.length<=sizeLine/\(a==sysModules)=false/\∃vs,KV kvs vs/\h.DictOf (bK P w) a vs :=
 show ObjOk P w H h a (.dK kvs) from K7 b e
def rH (b:HOk P w H h) (e:H a=some (.dK kvs)):kvs.length<=sizeLine/\(a==sysModules)=false/\∃vs,KV kvs vs/\h.DictOf (bK P w) a vs:=oO b (.inl e)
def mC (i:HOk P w H h) (e:H a=some (.tup (c.map kV))):(tupleKind (bK P w)).is h c a:=by
 obtain⟨_,b,r,o,f,g,n,d,_⟩:=(show ObjOk P w H h a (.tup (c.map kV)) from i a _ e);exact⟨o,b.toArray,n,f,g,d,by simpa using oN r⟩
def oR (d:HOk P w H h) (e:Rd H a (.dT kvs)):kvs.length<=sizeLine/\(a==sysModules)=false /\
  ∃xs,KT H kvs xs/\h.DictOfH (tupleKind (bK P w)) a xs:=by
 obtain⟨z,y,xs,r,o,s,ep,n,u,i,g,j⟩:=(show ObjOk P w H h a (.dT kvs) from K7 d e);refine⟨z,y,xs,r,o,s,ep,n,u,i,g,fun x b=>?_,j⟩;have c:∀{l:List (List Key × V)} {m:List (List Key × Addr × Value)},KT H l m->∀x∈m,(tupleKind (bK P w)).is h x.1 x.2.1:=by
  intro l m q;induction q with
  |nil=>intro x b;exact nomatch b
  |@cons p q A v f t k =>
  intro x b;rcases u_.mp b with e | b
  ·subst e;exact mC d (by rw[<- f.1];exact f.2.1)
  exact k x b
 exact c r x b
def Ub (b:HOk P w H h) (e:H a=some (.dT kvs)):kvs.length<=sizeLine/\(a==sysModules)=false /\
  ∃xs,KT H kvs xs/\h.DictOfH (tupleKind (bK P w)) a xs:=oR b (.inl e)
end
def DGet (H:Hp) (a:Addr) (y:V) (r:Option V):Prop :=
 (∃kvs k,Rd H a (.dK kvs)/\y=kV k/\r=eZ kvs k)\/∃kvs k b,Rd H a (.dT kvs)/\y=.ref b/\H b=some (.tup (k.map kV))/\r=eZ kvs k
def DPut (H:Hp) (a:Addr) (y v:V) (H':Hp):Prop :=
 (∃kvs k,H a=some (.dK kvs)/\y=kV k/\kvs.length<sizeLine/\H'=upd H a (.dK (putK kvs k v))) \/
 ∃kvs k b,H a=some (.dT kvs)/\y=.ref b/\H b=some (.tup (k.map kV))/\kvs.length<sizeLine/\H'=upd H a (.dT (putK kvs k v))
def DGet.k {k:Key} (e:H a=some (.dK kvs)):DGet H a (kV k) (eZ kvs k):=.inl ⟨kvs,k,.inl e,rfl,rfl⟩
def DGet.t {k:List Key} (e:H a=some (.dT kvs)) (c:H b=some (.tup (k.map kV))):DGet H a (.ref b) (eZ kvs k):=.inr ⟨kvs,k,b,.inl e,rfl,c,rfl⟩
def DPut.k {k:Key} (e:H a=some (.dK kvs)) (b:kvs.length<sizeLine):DPut H a (kV k) v (upd H a (.dK (putK kvs k v))):=.inl ⟨kvs,k,e,rfl,b,rfl⟩
def DPut.t {k:List Key} (e:H a=some (.dT kvs)) (c:H b=some (.tup (k.map kV))) (d:kvs.length<sizeLine):
  DPut H a (.ref b) v (upd H a (.dT (putK kvs k v))):=.inr ⟨kvs,k,b,e,rfl,c,d,rfl⟩
section
variable {X:Cx}{pins:List (Addr × Obj)}{σ:St}
def Inv.big (I:Inv X pins σ H s):sysModules<s.heap.objs.size:=by
 have h:mainGlobals<s.heap.objs.size:=(I.mod.glob.keeps I.bk).lt;exact YL (by decide) h
def zr (t:A.units+1<cLine) (I:Inv X pins σ H s) (g:DGet H a y (some v)) (q:RelV y u) (h:∀f s',Inv X pins σ H s'->RelV v f->Q f s'):
  wpAny (model X.prog X.w) A (getItem (.ref a) u) Q E s:=by
 rcases g with ⟨kvs,k,e,n,l⟩ | ⟨kvs,k,b,e,n,r,l⟩
 ·subst n;obtain⟨z,x,vs,c,i⟩:=oO I.hok e;obtain⟨f,m,d⟩:=RelO.some_of (v:=v) (o:=valueAt vs k) (by rw[l];exact c.val k);exact wpAny_getItem_of (mz q) i.mapOf m (h f _ (I.tok _) d)
 subst n;cases (show u=Value.ref b from q);obtain⟨z,x,xs,c,i⟩:=oR I.hok e;obtain⟨f,m,d⟩:=RelO.some_of (v:=v) (o:=(atKey xs k).map (·.2)) (by rw[l];exact c.val k);obtain⟨p,B,j⟩:=Option.map_eq_some_iff.mp m;refine wpAny_getItem_heap (aa2 t) (mC I.hok r) i B ?_;rw[j];exact h f _ (I.tok _) d
def XF (n:A.units+1<cLine) (I:Inv X pins σ H s) (g:DGet H a y o) (j:RelV y u) (h:∀s',Inv X pins σ H s'->Q (.bool o.isSome) s'):
  wpAny (model X.prog X.w) A (compareOp .In u (.ref a)) Q E s:=by
 rcases g with ⟨kvs,k,e,i,l⟩ | ⟨kvs,k,b,e,i,m,l⟩
 ·subst i;obtain⟨z,f,vs,c,d⟩:=oO I.hok e;refine wpAny_in_of (mz j) f d.mapOf ?_;rw[<- (c.val k).isSome_eq,<- l];exact h _ (I.tok _)
 subst i;cases (show u=Value.ref b from j);obtain⟨z,f,xs,c,d⟩:=oR I.hok e;refine wpAny_in_heap (aa2 n) (mC I.hok m) f d ?_;have q:=(c.val k).isSome_eq;rw[Option.isSome_map] at q;rw[<- q,<- l];exact h _ (I.tok _)
def HR (n:A.units+1<cLine) (I:Inv X pins σ H s) (g:DGet H a y o) (j:RelV y u) (h:∀s',Inv X pins σ H s'->Q (.bool (!o.isSome)) s'):
  wpAny (model X.prog X.w) A (compareOp .NotIn u (.ref a)) Q E s:=by
 rcases g with ⟨kvs,k,e,i,l⟩ | ⟨kvs,k,b,e,i,m,l⟩
 ·subst i;obtain⟨z,f,vs,c,d⟩:=oO I.hok e;refine wpAny_notIn_of (mz j) f d.mapOf ?_;rw[<- (c.val k).isSome_eq,<- l];exact h _ (I.tok _)
 subst i;cases (show u=Value.ref b from j);obtain⟨z,f,xs,c,d⟩:=oR I.hok e;refine wpAny_notIn_heap (aa2 n) (mC I.hok m) f d ?_;have q:=(c.val k).isSome_eq;rw[Option.isSome_map] at q;rw[<- q,<- l];exact h _ (I.tok _)
def lF (I:Inv X pins σ H s) (mu:Mut (H a)) (g:Heap.SameBut a s.heap h') (f:∃q,h'.get? a=some q) (d:ObjOk X.prog X.w (upd H a c) h' a c):
  Inv X pins σ (upd H a c) { s with heap:=h',toks:=t'} :=
 I.write (x:=a) (e:=a) mu (.inl rfl) (fun b q h z=>(g.2 b h).trans z) f d
def vp (z:kvs.length<=sizeLine) (c:(a==sysModules)=false) (b:KV kvs vs) (d:h'.DictOf (bK P w) a vs):
  ObjOk P w H' h' a (.dK kvs):=⟨z,c,vs,b,d⟩
def zu (K:A.units+1<cLine) (I:Inv X pins σ H s) (g:DPut H a y v H') (C:RelV y u) (F:RelV v r) (h:∀s',Inv X pins σ H' s'->Q () s'):
  wpAny (model X.prog X.w) A (setItem (.ref a) u r) Q E s:=by
 rcases g with ⟨kvs,k,e,m,l,j⟩ | ⟨kvs,k,b,e,m,B,l,j⟩
 ·subst m j;obtain⟨z,n,vs,d,t⟩:=rH I.hok e;have x:vs.length<=sizeLine:=by rw[<- d.length];exact z
  have p:(putK kvs k v).length<=sizeLine:=by have:=fH kvs k v;omega
  refine wpAny_setItem_pairs (hsz:=x) (mz C) t fun h' f o=>h _ ?_;have N:∃q,h'.get? a=some q:=let ⟨q,_,_,i,_⟩:=f;⟨q,i⟩;exact lF I (by rw[e];exact True.intro) o N (vp p n (d.put k F) f)
 subst m j;cases (show u=Value.ref b from C);obtain⟨z,n,xs,d,t⟩:=Ub I.hok e;have x:xs.length<=sizeLine:=by rw[<- aas d];exact z
 have p:(putK kvs k v).length<=sizeLine:=by have:=fH kvs k v;omega
 refine wpAny_setItem_heap (hsz:=x) (aa2 K) (mC I.hok B) t fun h' f o=>h _ ?_;obtain⟨q,O,ep,i,J,M,G,_,L⟩:=f;refine lF I (by rw[e];exact True.intro) o ⟨q,i⟩ ⟨p,n,_,(d.put k B F).keeps fun c P D=>?_,q,O,ep,i,J,M,G,L⟩;rw[aL (S6 D e (fun z=>nomatch z))];exact D
end
def HS (i:Expr):Prop:=∀b a,subscripted i false b a=operate [b,a] (getItem b a)
def HW (p:typeLookup (.type T) "__getitem__"=pure (some (.builtin q))) (n:HS a) (h:wpAny (model prog w) A (eval b env) (fun o e=>wpAny (model prog w) A (eval a env) (fun i c=>c.TypeIs o T/\wpAny (model prog w) A (getItem o i) Q E c) E e) E s):
  wpAny (model prog w) A (eval (.Subscript b a l) env) Q E s:=by
 refine Subscript_ (Y5 h (fun o e k=>Y5 k (fun i c d=>?_) fun _ _ x=>x) fun _ _ x=>x);obtain⟨m,d⟩:=d;unfold subscriptTail;refine a_ ?_;rw[getitemInPython_of_ne m.not_modules];refine a_ (wpAny_specialOf m p ?_);have g:wpAny (model prog w) A (subscripted a false o i) (fun r f=>wpAny (model prog w) A (letTemporaryGo b o r >>= fun _=>pure r) Q E f) E c:=by rw[n o i];exact wpAny_operating (Y5 d (fun r f j=>a_ (wpAny_letTemporaryGo (n_ j))) fun _ _ x=>x)
 first
  |exact n_ (a_ g)
  |exact a_ (n_ (a_ g))
  |exact a_ g
def rJ {f:St} (I:Inv X c f H s) (g:DGet H a y o):s.TypeIs (.ref a) "dict":=by
 rcases g with ⟨kvs,k,e,_,_⟩ | ⟨kvs,k,b,e,_,_,_⟩
 ·obtain⟨_,_,vs,_,d⟩:=oO I.hok e;exact d.typeIs
 obtain⟨_,_,xs,_,d⟩:=oR I.hok e;exact d.typeIs
def Uc (d e:TE):TE:=fun b H Q=>d b H fun x f=>e b f fun y c=>∃a v,x=.ref a/\DGet c a y (some v)/\Q v c
def XH (e d:TE):TE:=fun b H Q=>e b H fun y f=>d b f fun x c=>∃a o,x=.ref a/\DGet c a y o/\Q (.bl o.isSome) c
def HX (e d:TE):TE:=fun b H Q=>e b H fun y f=>d b f fun x c=>∃a o,x=.ref a/\DGet c a y o/\Q (.bl (!o.isSome)) c
def Ud (d e g:TE):TS:=fun D b H=>g b H fun v f=>d b f fun x h=>e b h fun y H3=>∃a c,x=.ref a/\DPut H3 a y v c/\D.nx b c
def xq (m:X.A.units+1<cLine) (f:PE X o td) (C:PE X i ty) (r:HS i):PE X (.Subscript o i pos) (Uc td ty):=by
 intro b s e H Q I h;refine HW PySem.F.slot_dict_getitem.lookup r (thn (f b s e H _ I h) fun u p ⟨x,t,j,k,n⟩=>thn (C b p e t _ j n) fun D J ⟨y,l,d,w,a,v,B,g,z⟩=>?_);subst B;obtain rfl:u=Value.ref a:=k;exact⟨rJ d g,zr m d g w fun G E q c=>⟨v,l,q,c,z⟩⟩
def O1 (k:X.A.units+1<cLine) (z:PE X i ty) (d:PE X o td):PC X .In i o (XH ty td):=by
 intro b s c H Q I h;refine thn (z b s c H _ I h) fun B l ⟨y,p,e,t,m⟩=>thn (d b l c p _ e m) fun u D ⟨x,j,q,f,a,r,w,g,v⟩=>?_;subst w;obtain rfl:u=Value.ref a:=f;exact XF k q g t fun C n=>⟨.bl r.isSome,j,n,rfl,v⟩
def oU (k:X.A.units+1<cLine) (z:PE X i ty) (d:PE X o td):PC X .NotIn i o (HX ty td):=by
 intro b s c H Q I h;refine thn (z b s c H _ I h) fun B l ⟨y,p,e,t,m⟩=>thn (d b l c p _ e m) fun u D ⟨x,j,q,f,a,r,w,g,v⟩=>?_;subst w;obtain rfl:u=Value.ref a:=f;exact HR k q g t fun C n=>⟨.bl (!r.isSome),j,n,rfl,v⟩
def HY (p:X.A.units+1<cLine) (f:PE X o td) (L:PE X i ty) (d:PE X value tv) (z:swapsWith value (some (.Subscript o i pos')) pos.line X.env=pure false) :
  PS X (.Assign [.Subscript o i pos'] value pos) (Ud td ty tv):=by
 intro b s c H D I h;refine wpAny_Assign_Subscript (thn (d b s c H _ I h) fun r q ⟨v,B,k,K,t⟩=>thn (f b q c B _ k t) fun u C ⟨x,n,E,l,G⟩=>thn (L b C c n _ E G) fun M N ⟨y,H3,w,F,a,m,J,g,j⟩=>?_) z;subst J;obtain rfl:u=Value.ref a:=l;exact zu p w g F K fun O e=>⟨c,m,e,j⟩
def rK (h:Heap) (a:sysModules<h.objs.size):ObjOk P w H (h.push { cls:=.type "dict",data:=.dict #[]}) h.objs.size (.dK []) :=
 ⟨Y7 _,YZ.mpr (Ne.symm (I_ a)),[],.nil,Heap.DictOf.new h⟩
def O2:TE:=fun _ H Q=>∀p,H p=none->Q (.ref p) (upd H p (.dK []))
def rM:PE X (.Dict [] [] pos) O2:=fun b s c H Q I h =>
 wpAny_Dict_empty ⟨.ref s.heap.objs.size,_,I.laid (a:=s.heap.objs.size) (o:=.dK []) (t':=s.toks) (fun _ _ q=>b_ _ q) (l_ _) (rK s.heap I.big),rfl,h _ (I.hok.fresh (l_ _))⟩
def vz:List (TE × TE)->St->Hp->(List (V × V)->Hp->Prop)->Prop
 |[],_,H,Q=>Q [] H
 | (tk,tv)::r,σ,H,Q=>tk σ H fun x a=>tv σ a fun y c=>vz r σ c fun b H3=>Q ((x,y)::b) H3
abbrev VV:List (V × V)->List (Value × Value)->Prop:=Paired fun p q=>RelV p.1 q.1/\RelV p.2 q.2
def PPs (X:Cx) (d:Pos) (c:List (Option Expr)) (a:List Expr) (e:List (TE × TE)):Prop :=
 ∀(b:List (Addr × Obj)) (s:Shared) (f:St) (H:Hp) (Q:List (V × V)->Hp->Prop),Inv X b f H s->vz e f H Q ->
  wpAny (model X.prog X.w) X.A (evalPairs (pairTrees c a X.env d)) (fun vs s'=>∃g H',Inv X b f H' s'/\VV g vs/\Q g H') X.xe s
def xu:PPs X a [] [] []:=fun b s c H Q I h=>pairTrees_nil_walk ⟨[],H,I,.nil,h⟩
def rN (l:PE X k tk) (i:PE X v f) (C:PPs X b g vs c):
  PPs X b (some k::g) (v::vs) ((tk,f)::c):=fun a s e H Q I h =>
 pairTrees_cons_walk (thn (l a s e H _ I h) fun u p ⟨x,t,m,n,q⟩=>thn (i a p e t _ m q) fun F w ⟨y,o,z,A,B⟩ =>
  thn (C a w e o _ z B) fun ws E ⟨D,H3,r,d,j⟩=>⟨(x,y)::D,H3,r,.cons ⟨n,A⟩ d,j⟩)
def jc (kvs a:List (Key × V)):List (Key × V):=a.foldl (fun b c=>putK b c.1 c.2) kvs
def KV.merge:∀{a:List (Key × V)}{b:List (Key × Value)}{kvs:List (Key × V)}{vs:List (Key × Value)},KV a b->KV kvs vs->KV (jc kvs a) (merged vs b):=by
 intro a b kvs vs r;unfold KV at r;induction r generalizing kvs vs with
 |nil=>intro q;exact q
 |@cons p q g f h t c =>
 intro d;have e:KV (putK kvs p.1 p.2) (stored vs q.1 q.2):=by have:=d.put p.1 h.2;rw[<- h.1];exact this
 exact c e
def iZ:∀(a kvs:List (Key × V)),(jc kvs a).length<=kvs.length+a.length
 |[],kvs=>by show kvs.length<=kvs.length+0;omega
 |p::r,kvs=>by
  have c:=iZ r (putK kvs p.1 p.2)
  have b:=fH kvs p.1 p.2
  show (jc (putK kvs p.1 p.2) r).length<=_
  rw[j_];omega
def mD:∀{kvs:List (Key × V)}{ws:List (Value × Value)},VV (kvs.map fun e=>(kV e.1,e.2)) ws->∃d,Carries (bK P w) ws d/\KV kvs d
 |[],_,r=>by rw[ZF] at r;cases r;exact⟨[],True.intro,.nil⟩
 |p::kvs,_,r=>by
  rw[G_] at r
  cases r with
  |@cons a b j g h t =>
   obtain⟨d,c,q⟩:=mD (P:=P) (w:=w) t
   obtain⟨i,f⟩:=b
   exact⟨(p.1,f)::d,⟨mz h.1,rfl,c⟩,.cons ⟨rfl,h.2⟩ q⟩
def Ue (a:List (TE × TE)):TE:=fun e H Q=>∀p,H p=none->vz a e (upd H p (.dK [])) fun d c=>c p=some (.dK [])/\∃kvs:List (Key × V),d=kvs.map (fun b=>(kV b.1,b.2))/\kvs.length<=15/\Q (.ref p) (upd c p (.dK (jc [] kvs)))
def xx (h:PPs X g b d i) (j:b.all (·.isSome)=true) (B:b.length=d.length) (K:b≠[]) (m:b.length<=15):PE X (.Dict b d g) (Ue i):=by
 intro k s E H Q I q;have C:=I.hok.fresh (l_ s.heap.objs.size);have r:=I.laid (a:=s.heap.objs.size) (o:=.dK []) (h':=s.heap.push { cls:=.type "dict",data:=.dict #[]}) (t':=s.toks) (fun _ _ q=>b_ _ q) (l_ _) (rK s.heap I.big);refine wpAny_Dict_walk (knd:=bK X.prog X.w) j B K m (thn (h k _ E _ _ r (q _ C)) fun ws M ⟨N,L,n,l,e,kvs,ep,O,F⟩=>?_);subst ep;obtain⟨D,c,u⟩:=mD (P:=X.prog) (w:=X.w) l;obtain⟨z,v,p,t,G⟩:=rH n.hok e;cases t;refine⟨D,c,G,fun h' f y=>⟨.ref s.heap.objs.size,_,?_,rfl,F⟩⟩;have J:(jc [] kvs).length<=sizeLine:=by have A:=iZ kvs [];rw[Y0] at A;rw[aaD];omega
 have x:∃q,h'.get? s.heap.objs.size=some q:=let ⟨q,_,_,hq,_⟩:=f;⟨q,hq⟩;exact lF n (by rw[e];exact True.intro) y x (vp J v (u.merge .nil) f)
structure M2 (X:Cx) (o:Expr) (m:Str) (apos:Pos) (e f:Expr) (cpos:Pos):Prop where
 base:attributeBase o m X.env (eval o X.env)=eval o X.env
 few:((backTo cpos (starEach [e,f] X.env)).all (fun x=>!x.1)&&(backToKw cpos (keywordEach [] X.env)).all (fun x=>x.1.isSome)
  && decide (([e,f]:List Expr).length+([]:List Keyword).length+(if ([]:List Keyword).isEmpty then 0 else 1)<30))=true
 line:(apos.endLine==cpos.line)=true
 trees:backTo cpos (starEach [e,f] X.env)=[(false,eval e X.env),(false,eval f X.env)]
def IsD (H:Hp) (a:Addr):Prop:=(∃kvs,Rd H a (.dK kvs))\/∃kvs,Rd H a (.dT kvs)
def Bj {k:St} (I:Inv X g k H s) (d:IsD H a):
  s.TypeIs (.ref a) "dict"/\(∀b,Value.ref a=.ref b->∃c,s.heap.get? b=some c/\c.dict=none)/\(a==sysModules)=false:=by
 rcases d with ⟨kvs,e⟩ | ⟨kvs,e⟩
 ·obtain⟨_,j,vs,_,f⟩:=oO I.hok e;refine⟨f.typeIs,fun b q=>?_,j⟩;cases q;obtain⟨c,_,_,h,i,_⟩:=f;exact⟨c,h,i.2.1⟩
 obtain⟨_,j,xs,_,f⟩:=oR I.hok e;refine⟨f.typeIs,fun b q=>?_,j⟩;cases q;obtain⟨c,_,_,h,i,_⟩:=f;exact⟨c,h,i.2.1⟩
end L2
namespace Att
open PySem PySem.W PySem.Calls PyProof.Rows
def lz:∀(ns:List Int) (vs:List Value),WellAll P h vs (ns.map WData.int)->IntsAre vs ns:=by
 intro ns;induction ns with
 |nil=>intro vs w;rw[ZF] at w;cases w;exact .nil
 |cons n ns c =>
 intro vs w;rw[G_] at w;cases w with
 |cons a b =>
 cases a;exact .cons _ _ (c _ b)
def zx {l:OpenLaw} (v:l.most=some n) (b:l.row.toRowW.claim.pre args=true) (j:WellAll P h c args):
  ∃a vs ns,c=[Value.ref a]/\args=[WData.list (ns.map WData.int)]/\h.get? a=some { cls:=.type "list",data:=.seq vs.toArray}/\IntsAre vs ns/\ns.length<=n:=by
 have k:WShape.hasAll [] args [.list .int]=true:=(pre_splitW b).1;have m:l.pre.holds [] { args:=args}=true:=(pre_splitW b).2;obtain⟨d,r,rfl,t,u⟩:=hasAllW_cons k;obtain rfl:=hasAllW_nil u;obtain⟨xs,rfl,o⟩:=hasW_list t;obtain⟨ns,rfl⟩:=items_int o;have f:ns.length<=n:=by
  unfold OpenLaw.pre at m;have g:(WTm.not (.lt (.lit (.int (n:Int))) (.len (.arg 0)))).holds [] { args:=[.list (ns.map .int)]}=true:=by have g:=(holds_andW m).1;rw[v] at g;exact g
  have i:=condW_of g (w_not (w_lt w_lit (w_len_list (w_arg rfl))));rw[e_] at i;refine Nat.le_of_not_lt fun q=>?_;have w:(n:Int)<((ns.length:Nat):Int):=by omega
  first
   | (rw[L_ w] at i;exact absurd i (by decide))
   | (simp at i;omega)
 cases j with
 |cons x s =>
 cases s;cases x with
 |list p e=>exact⟨_,_,ns,rfl,rfl,p,lz ns _ e,f⟩
def zy (l:OpenLaw) (args:List WData):l.row.toRowW.claim.post args (.bool true) args=true :=
 postW_of (r:=l.row.toRowW) (X:=(true==true))
  (show WShape.has [] (.bool true) .bool=true by first | rfl | decide | simp [WShape.has,WShape.arms,WShape.armsAll])
  (show (WTm.eq .res (.lit (.bool true))).value [] { args:=args,res:=some (.bool true),after:=args}=some (.bool (true==true)) from w_eq_bool (w_res rfl) w_lit) rfl
def attach_call {l:OpenLaw} (M:l.most=some n) (u:d.params.defaults=[]) (j:∀(w:World) (c b:Shared) (p v:Str->Option Value) (k:Addr) (o:Obj) (x s e:Value) (a:Addr) (vs:List Value) (ns:List Int),
   Ground q loose [] XP w c p v b.heap->YP w b.heap ->
   b.heap.get? k=some o->o.data=.func (docDef d.name d.params d.body d.scope x s e)->b.heap.CodeRec s d.name->p d.name=some (.ref k) ->
   b.heap.get? a=some { cls:=.type "list",data:=.seq vs.toArray}->IntsAre vs ns->ns.length<=n->b.gens=#[] ->
   codeAny (model l.prog w) callerA (.call (.ref k) ⟨[.ref a],[]⟩) (fun r s'=>r=.ok (.ret (.bool true))/\OldK b.heap s'.heap/\s'.os=b.os/\AllBare s'.gens) b):
  WalkO q loose XP YP l.row.toRowW d [] (fun f vs=>PySem.call f vs):=by
 intro w c b p v G Y k o x s e dV kV F I t D z K C A Q i B P y J;obtain rfl:dV=.none:=Dflts.none D u;obtain rfl:kV=.none:=Dflts.noKw D;obtain⟨a,vs,ns,rfl,rfl,h,g,m⟩:=zx M i y;refine enter_call (aaS (j w c b p v k o x s e a vs ns G Y F (fd_plain I) t z h g m K) fun r s' N=>?_);obtain⟨rfl,H,L,E⟩:=N;exact⟨.inl ⟨.bool true,.bool true,[],rfl,fun _=>rfl,.bool true,zy l _,fun _=>⟨List.Pairwise.nil,fun _ O=>(nomatch O)⟩⟩,H,L,E⟩
def ledger (h : Heap) (L d : Addr) : List (Addr × Obj):=(List.range h.objs.size).filterMap fun a => if a = L \/ a = d then none else (h.get? a).map fun o => (a,o)
end Att
namespace L2
def oV:∀{vs:List Value}{ns:List Int},IntsAre vs ns->Vals (ns.map V.int) vs
 |_,_,.nil=>.nil
 |_,_,.cons n t h=>.cons ⟨t,rfl⟩ (oV h)
def Only (H:Hp):Prop:=∀b,H b=none\/∃o xs,H b=some (.frz o (.lst xs))
def Bk {K:Frag} (Z:K.In c.heap) (D:c.heap.Ns mainGlobals p) (g:c.heap.Ns builtinsNs Q) (L:∀x:Str,x≠"__name__"->Q x=bootBuiltins x) (G:c.heap.NoLimit) (hg:c.gens=#[]) (J:c.heap.get? a=some { cls:=.type "list",data:=.seq vs.toArray}) (hi:IntsAre vs ns) (X:ns.length<=sizeLine) (hr:Room k callerA) (F:∀base:Heap,K.In base->base.Ns mainGlobals p->FnOk P w K p base CX k R Y [x] sp) (l:∀(s:Shared) (u:Value),BindsTo s Y ⟨[u],[]⟩ [(x,u)]) (O:∀H:Hp,Only H->SqL K H a (ns.map V.int)->sp [.ref a] H (fun v _=>v=.bl true) fun _ _ _=>False) (N:∀H e s',CX [] H c (fun _ _ _=>False) e s'->False):
  codeAny (model P w) callerA (.call (.ref R) ⟨[.ref a],[]⟩) (fun r s'=>r=.ok (.ret (.bool true))/\OldK c.heap s'.heap/\s'.os=c.os/\AllBare s'.gens) c:=by
 have rv:=oV hi;have I:=hi.length
 have j:∀H:Hp,Only H->SqL K H a (ns.map V.int)->HOk P w H c.heap->(∀b,H b≠none->b=a)->(H a≠none->K.lookup a=none) ->
   codeAny (model P w) callerA (.call (.ref R) ⟨[.ref a],[]⟩) (fun r s'=>r=.ok (.ret (.bool true))/\OldK c.heap s'.heap/\s'.os=c.os/\AllBare s'.gens) c:=by
  intro H hO hS t W hK
  have f:∀{b:Addr} {o:Obj},c.heap.get? b=some o->H b=none->(pL c.heap H).get? b=some o:=fun e n=>Am e n
  have S:∀{b:Addr} {o:Obj} {E:Array DictEntry} {ep:Nat},c.heap.get? b=some o->o.data=.dict E ep->H b=none:=fun {b o E ep} e d=>by
   cases q:H b with
   |none=>rfl
   |some u =>
    have T:b=a:=W b (by rw[q];simp)
    subst T
    rw[J] at e;cases e
    have d':Data.seq vs.toArray _=Data.dict E ep:=d
    cases d'
  have i:∀{b:Addr} {m:Str->Option Value},c.heap.Ns b m->(pL c.heap H).Ns b m:=fun {b m} ⟨o,E,ep,e,d,r⟩=>⟨o,E,ep,f e (S e d),d,r⟩
  have A:K.In (pL c.heap H):=fun b o e=>f (Z b o e) (by
   cases q:H b with
   |none=>rfl
   |some u =>
    have T:b=a:=W b (by rw[q];simp)
    subst T
    rw[hK (by rw[q];simp)] at e;cases e)
  have hM:Mod K p (pL c.heap H):=⟨A,i D,⟨Q,i g,L⟩,let ⟨mc,h1,h2⟩:=G;⟨mc,i h1,h2⟩⟩
  have e0:Env0 P w K p (pL c.heap H) callerA [] c H:=⟨rfl,hM,fun b o e=>Hf e,aa6 (yW _ _),trivial,fun b g=>absurd (show b∈([]:List Addr) from g) (by simp),t,.of_eq hg⟩
  refine aaS ((F _ A (i D)).run callerA [] c H ⟨[.ref a],[]⟩ [.ref a] [.ref a] _ _ hr e0 (l c (.ref a)) (.cons rfl .nil) (O H hO hS)) fun r s' h=>?_
  cases r with
  |error e=>exact (N H e s' h).elim
  |ok fl =>
   cases fl with
   |next=>exact False.elim h
   |brk=>exact False.elim h
   |cont=>exact False.elim h
   |ret u =>
    obtain⟨v,H',os,y,U,B,r',q⟩:=h
    have q':v=.bl true:=q
    subst q'
    obtain rfl:u=Value.bool true:=r'
    refine⟨rfl,OldK.of_keep fun b o e=>?_,os,y⟩
    cases q:H b with
    |none=>exact U.keep b o e q (by intro z;exact absurd (show b∈([]:List Addr) from z) (by simp)) (by simp)
    |some u =>
     rcases hO b with z | ⟨ob,xs,z⟩
     ·
      rw[q] at z;cases z
     ·
      have z2:=U.frzs b ob _ z
      obtain⟨e1,_⟩:=t b _ z
      obtain⟨e2,_⟩:=B b _ z2
      rw[e] at e1;cases e1
      exact e2
 cases M:K.lookup a with
 |some o =>
  have e:=Z a o M
  rw[J] at e
  cases e
  refine j (fun _=>none) (fun _=>.inl rfl) (.inr ⟨_,vs.toArray,_,M,rfl,rfl,rfl,by rw[t_,I];exact X,by simpa using rv⟩) (fun b u z=>by have C:(none:Option HO)=some u:=z;cases C) (fun b z=>absurd rfl z) fun z=>absurd rfl z
 |none =>
 refine j (fun b=>if b=a then some (.frz { cls:=.type "list",data:=.seq vs.toArray} (.lst (ns.map V.int))) else none) (fun b=>?_) (.inl (.inr ⟨{ cls:=.type "list",data:=.seq vs.toArray},if_pos rfl⟩)) (fun b u z=>?_) (fun b z=>?_) fun _=>M
 ·by_cases g:b=a
  ·exact .inr ⟨_,_,if_pos g⟩
  exact .inl (if_neg g)
 ·by_cases g:b=a
  ·have C:=(if_pos g).symm.trans z;cases C;subst g;exact⟨J,by rw[e_];exact X,vs,_,rv,J⟩
  have C:=(if_neg g).symm.trans z;cases C
 by_cases g:b=a
 ·exact g
 exact absurd (if_neg g) z
abbrev KOf {K:Frag}{h:Heap}(_:K.In h):Frag:=K
def walk_of {l:PySem.W.OpenLaw}{K:Params->Frag}{CX:World->CXT}{sp:World->Sp} (P:l.most=some n) (A:n<=sizeLine) (z:d.params.defaults=[]) (R:Room k callerA) (L:∀(w:World) (h:Heap),YP w h->(K w.params).In h) (F:∀(w:World) (j:Str->Option Value) (r:Addr) (h:Heap),(K w.params).In h->h.Ns mainGlobals j->j d.name=some (.ref r) ->
   ∃B:FuncData,(∀(s:Shared) (u:Value),BindsTo s B ⟨[u],[]⟩ [(x,u)]) /\
    ∀base:Heap,(K w.params).In base->base.Ns mainGlobals j->FnOk l.prog w (K w.params) j base (CX w) k r B [x] (sp w)) (y:∀(w:World) (H:Hp) (a:Addr) (ns:List Int),ns.length<=n->Only H->SqL (K w.params) H a (ns.map V.int)->sp w [.ref a] H (fun v _=>v=.bl true) fun _ _ _=>False) (t:∀(w:World) (H:Hp) (s:Shared) (e:Value) (s':Shared),CX w [] H s (fun _ _ _=>False) e s'->False):
  PySem.W.WalkO q loose XP YP l.row.toRowW d [] (fun f vs=>PySem.call f vs):=by
 refine Att.attach_call P z fun w D p j Z r o pm cd M a vs ns G Y U X I C m i c O=>?_;have E:=L w _ Y;obtain⟨B,N,J⟩:=F w j r _ E G.T.g C;exact Bk E G.T.g G.T.b G.T.builtins G.T.nolimit O m i (Q_ c A) R J N (fun H S Q=>y w H a ns c S Q) fun H e s'=>t w H p e s'
end L2
namespace L2
abbrev CX0:CXT:=fun _ _ _ _ _ _=>False
abbrev E0:XK:=fun _ _ _=>False
def Bm:jU CX0 X E0:=fun _ _ _ _ _ _ _ h=>h.elim
structure Fun (K:Frag) (x qual:Str) (st:Stmt) (f:Addr) (fd:FuncData):Prop where
 ex:∃(oc:Value) (od:Option Addr) (kV doc pm:Value) (an:Option Addr) (cdv ct:Value) (osl:Array (Option Value)),
  fd=fnOf x qual (cV st) (cA st) (aC st) .none kV doc pm an cdv ct/\K.lookup f=some ⟨oc,od,.func fd,osl⟩/\codeIn K cdv qual=true
 kp:keepIn K (.ref f)=true
section
variable {P:Program}{w:World}{K:Frag}
def Fun.ok {st:Stmt} (F:Fun K x a st f j) (S:FnScope N g (aC st)) (i:∀vs H Q E,sp vs H Q E->vs.length=g.length) (c:∀(b:Value) (A:Around) (outer:List Env) (s:Shared) (H:Hp) (vs:List V) (Q:VK) (E:XK),Room k (A.deeper (envOfC a (aC st) s.heap.objs.size f b))->sp vs H Q E ->
   ∃t,PSs (mq CX0 P w K mg base N a (aC st) f b A outer s H E).nox (cA st) t/\t { nx:=fun _ H'=>Q .non H',rt:=Q} (start N vs) H):FnOk P w K mg base CX0 (k+1) f j g sp:=by
 obtain⟨u,od,kV,o,r,p,b,v,l,rfl,n,d⟩:=F.ex;refine K6 n d S i fun A outer s H vs Q E m e=>?_;obtain⟨t,h,q⟩:=c b A outer s H vs Q E m e;exact⟨t,h.nox,q⟩
def Fun.binds {st:Stmt} (F:Fun K x a st f j) (h:∀(kV c g:Value) (e:Option Addr) (b i:Value) (us:List Value),us.length=d.length->bindArgs (fnOf x a (cV st) (cA st) (aC st) .none kV c g e b i) ⟨us,[]⟩=pure (d.zip us)):Binds K j d []:=by
 obtain⟨n,od,kV,c,g,e,b,i,k,rfl,m,l⟩:=F.ex;exact .all (h kV c g e b i)
def Bo {st:Stmt}{kV d h b i:Value} (l:K.lookup f=some ⟨j,od,.func (fnOf x a (cV st) (cA st) (aC st) .none kV d h g b i),e⟩) (c:codeIn K b a=true) (k:keepIn K (.ref f)=true):Fun K x a st f (fnOf x a (cV st) (cA st) (aC st) .none kV d h g b i):=⟨⟨j,od,kV,d,h,g,b,i,e,rfl,l,c⟩,k⟩
variable {X:Cx}
def pv (i:Nat) {b:Pos} (d:X.N[i]?=some x:=by rfl) (c:Vis X.env.scope x:=by first | exact Or.inl rfl | exact Or.inr (Or.inl rfl) | exact Or.inr (Or.inr rfl)) (e:(x==("__debug__":Str))=false:=by decide) (a:(x==("__classdict__":Str))=false:=by decide):PE X (.Name x b) (S7 i):=Nq d c e a
end
def XJ {A B:Prop}(h:B):if false=true then A else B:=by
 rw[if_neg J_];exact h
def XM {A B:Prop}(h:A):if true=true then A else B:=by
 rw[if_pos rfl];exact h
section
variable {κ:Type}[DecidableEq κ]
def fJ:∀{l:List κ}{k:κ},l.Nodup->¬k∈l->(l++[k]).Nodup
 |[],k,_,_=>by simp
 |a::r,k,h,hk=>by
  obtain⟨c,b⟩:=Y9.mp h
  show (a::(r++[k])).Nodup
  refine Y9.mpr ⟨fun m=>?_,fJ b fun m=>hk (u_.mpr (Or.inr m))⟩
  rcases v_.mp m with q | q
  ·
   exact c q
  ·
   exact hk (u_.mpr (Or.inl (i_.mp q).symm))
end
def kE {F:Str × NameKind->Str × NameKind} (b:∀p,(F p).1=p.1):∀{a:List (Str × NameKind)},a.lookup x=some k->(a.map F).lookup x=some (F (x,k)).2
 |[],h=>by cases h
 | (m,q)::r,h=>by
  have d:=b (m,q)
  rw[G_,show F (m,q)=(m,(F (m,q)).2) from Prod.ext d rfl]
  by_cases e:x=m
  ·
   subst e
   rw[List.lookup_cons_self] at h ⊢
   cases h
   rfl
  ·
   have c:(x==m)=false:=YZ.mpr e
   simp only[List.lookup,c] at h ⊢
   exact kE b h
def iU {env:Env}{a:List (Str × NameKind)} (h:a.lookup x=some .free):
  (a.map fun (n,k)=>if (k==NameKind.free&&env.scope.kind==.function&&env.kindOf n==some .cell) then (n,NameKind.cell) else (n,k)).lookup x=some .cell \/
  (a.map fun (n,k)=>if (k==NameKind.free&&env.scope.kind==.function&&env.kindOf n==some .cell) then (n,NameKind.cell) else (n,k)).lookup x=some .free:=by
 rw[kE (F:=fun (n,k)=>if (k==NameKind.free&&env.scope.kind==.function&&env.kindOf n==some .cell) then (n,NameKind.cell) else (n,k)) (fun p=>by dsimp only;split <;> rfl) h];dsimp only;split
 ·exact .inl rfl
 exact .inr rfl
def mF (h:∀y∈scope.names,y.2=.free->∃c,env.cells.lookup y.1=some c):
  ∃d,closureFor scope env=pure d/\(∀x c,d.lookup x=some c->env.cells.lookup x=some c)/\∀y∈scope.names,y.2=.free->∃c,d.lookup y.1=some c:=by
 have key:∀(b:List (Str × NameKind)) (g:List (Str × Addr)),(∀y∈b,y.2=.free->∃c,env.cells.lookup y.1=some c)->(∀x c,g.lookup x=some c->env.cells.lookup x=some c) ->
   ∃d:List (Str × Addr),(forIn b g (fun (x:Str × NameKind) (r:List (Str × Addr))=>(do
    if x.2==.free then do
     let a <- cellOf env x.1
     pure (ForInStep.yield ((x.1,a)::r))
    else pure (ForInStep.yield r):Sem (ForInStep (List (Str × Addr))))):Sem (List (Str × Addr)))=pure d/\(∀x c,d.lookup x=some c->env.cells.lookup x=some c) /\
    (∀x c,g.lookup x=some c->∃s,d.lookup x=some s)/\∀y∈b,y.2=.free->∃c,d.lookup y.1=some c:=by
  intro b
  induction b with
  |nil=>intro g _ u;exact⟨g,rfl,u,fun x c e=>⟨c,e⟩,fun y f=>nomatch f⟩
  |cons y r A =>
   intro g w u
   obtain⟨n,k⟩:=y
   by_cases v:k=.free
   ·
    subst v
    obtain⟨c,z⟩:=w (n,.free) k_ rfl
    have i:cellOf env n=pure c:=by unfold cellOf;rw[z]
    obtain⟨d,e,o,p,l⟩:=A ((n,c)::g) (fun y f=>w y (q_ _ f)) (fun x s q=>by
     simp only[Zh] at q
     cases j:x==n with
     |true=>rw[j] at q;cases q;rw[eq_of_beq j];exact z
     |false=>rw[j] at q;exact u x s q)
    refine⟨d,?_,o,fun x s q=>?_,fun y f t=>?_⟩
    ·
     rw[List.forIn_cons]
     show ((if (NameKind.free==NameKind.free)=true then (cellOf env n >>= fun a=>pure (ForInStep.yield ((n,a)::g))) else pure (ForInStep.yield g)) >>= _)=_
     rw[i]
     exact e
    ·
     cases j:x==n with
     |true=>exact p x c (by simp only[Zh,j])
     |false=>exact p x s (by simp only[Zh,j];exact q)
    ·
     rcases u_.mp f with rfl | f
     ·
      exact p n c (by simp [Zh])
     ·
      exact l y f t
   ·
    obtain⟨d,e,o,p,l⟩:=A g (fun y f=>w y (q_ _ f)) u
    have B:(k==NameKind.free)=false:=by simpa using v
    refine⟨d,?_,o,p,fun y f t=>?_⟩
    ·
     rw[List.forIn_cons]
     show ((if (k==NameKind.free)=true then (cellOf env n >>= fun a=>pure (ForInStep.yield ((n,a)::g))) else pure (ForInStep.yield g)) >>= _)=_
     rw[B]
     exact e
    ·
     rcases u_.mp f with rfl | f
     ·
      exact absurd t v
     ·
      exact l y f t
 obtain⟨d,e,o,_,l⟩:=key scope.names [] h (fun x c q=>by simp at q);refine⟨d,?_,o,l⟩;unfold closureFor;exact W_ (fun m=>m >>= fun r=>pure r) e
def bU (X:Cx) (N':List Str) (scope:Scope) (c:List (Str × Addr)) (a:List (Addr × Obj)) (s:Shared) (H:Hp) (C:Addr) (b:List Addr):Cx where
 prog:=X.prog
 w:=X.w
 K:=X.K
 mg:=X.mg
 base:=X.base
 A:=X.A
 N:=N'
 s₀:=s
 H₀:=H
 env:=compEnvC scope c C X.env
 outer:=X.stack
 stack:=X.stack
 ex:=b
 fn:=fun x=>scope.names.lookup x==some .cell
 calm:=X.calm
 pn:=X.pn++a
 xe:=fun _ _=>False
def PIf (X:Cx) (b:List Expr) (t:TT):Prop :=
 ∀(a:List (Addr × Obj)) (s:Shared) (d:St) (H:Hp) (Q:Bool->Hp->Prop),Inv X a d H s->t d H Q ->
  wpAny (model X.prog X.w) X.A (forIn b true fun c r=>if r=true then do let e <- isTrue c X.env (eval c X.env);pure (ForInStep.yield e) else pure (ForInStep.yield r)) (TP X a d Q) X.xe s
def XN:TT:=fun _ H Q=>Q true H
def Ia:PIf X [] XN:=fun _ _ _ H _ I h=>wpAny_tests_nil ⟨H,I,h⟩
def Ib (h:PT X c t):PIf X [c] t:=fun a s b H Q I d=>wpAny_tests_one (h a s b H Q I d)
def pX (I:Nat->Shared->Prop) (D:∀n s,I n s->wpAny (model prog w) A (pyNext it) (fun r b=>match r with | .none=>R (.ok .next) b | .some v=>wpAny (model prog w) A (letOwnedTupleGo a it v) (fun _ d=>wpAny (model prog w) A (assign a env v) (fun _ p=>wpAny (model prog w) A (forIn u true fun c r=>if r=true then do let B <- isTrue c env (eval c env);pure (ForInStep.yield B) else pure (ForInStep.yield r)) (fun B e=>if B=true then wpAny (model prog w) A (eval y env) (fun x k=>wpAny (model prog w) A (call (.builtin "list.append") [t,x]) (fun _ f=>∃m,m<n/\I m f) (fun _ _=>False) k) (fun _ _=>False) e else ∃m,m<n/\I m e) (fun _ _=>False) p) (fun _ _=>False) d) (fun _ _=>False) b) (fun _ _=>False) s) (n:Nat) (h:I n s):codeAny (model prog w) A (.compLoop (.ListComp y [⟨a,i,u,0⟩] scope z) 0 it t env) R s:=by
 refine codeAny_loop rfl I (fun j l G=>?_) n h;show wpAny _ A ((compTurn (.ListComp y [⟨a,i,u,0⟩] scope z) 0 it t env).onRaise (fun x=>do noteFrame x env;theTreesLotGoes x)) _ _ l;refine wpAny_noted ?_;rw[compTurn_list];refine a_ (aaM (a_ (Y5 (D j l G) (fun r b g=>?_) fun _ _ h'=>h'.elim)));cases r with
 |none=>exact n_ g
 |some v =>
 refine a_ (Y5 g (fun _ d q=>?_) fun _ _ h'=>h'.elim);refine a_ (Y5 q (fun _ p E=>a_ (Y5 E (fun B e o=>?_) fun _ _ h'=>h'.elim)) fun _ _ h'=>h'.elim);cases B with
 |false=>exact (n_ (And.intro rfl o))
 |true =>
 exact a_ (a_ (Y5 o (fun x k C=>a_ (Y5 C (fun _ f F=>n_ (n_ ⟨rfl,F⟩)) fun _ _ h'=>h'.elim)) fun _ _ h'=>h'.elim))
def xF (J:It) (g:TG) (tt:TT) (te:TE) (h:List V->Hp->Prop) (c:St) (e:Hp):Prop :=
 ∃W:Nat->Nat->List V->St->Hp->Prop,(∃m,W 0 m [] c e)/\∀i m d j H,W i m d j H ->
  (J.stop i H/\d.length<=sizeLine/\h d H) \/
  (J.go i H/\∀x H',J.yld i H x H'->g x j H' fun a l=>tt a l fun b H3=>if b=true then te a H3 fun y k=>d.length<sizeLine/\∃f,f<m/\W (i+1) f (d++[y]) a k else ∃f,f<m/\W (i+1) f d a H3)
def nR (nt:Nat) (cap:List Nat) (a:St):St:=List.replicate nt none++cap.map fun j=>(a[j]?).getD none
structure CompSc (X:Cx) (N':List Str) (nt:Nat) (cap:List Nat) (scope:Scope):Prop where
 kind:scope.kind=.function
 cells:∀y∈scope.names,y.2=.cell->scope.names.lookup y.1=some .cell
 names:∀x∈scope.names,x.2=.local->scope.names.lookup x.1=some .local
 free:∀y∈scope.names,y.2=.free->X.env.kindOf y.1=some .cell\/X.env.kindOf y.1=some .free
 len:N'.length=nt+cap.length
 caps:∀(j:Nat) (x:Str),N'[nt+j]?=some x->∃i,cap[j]?=some i/\X.N[i]?=some x/\scope.names.lookup x=some .free
def lA (e:s.heap.get? l=some { cls:=.type "list",data:=.seq a.toArray n}) (f:a.length<sizeLine) (h:∀h' n',h'.get? l=some { cls:=.type "list",data:=.seq (a++[u]).toArray n'}->(∀b o,b≠l->s.heap.get? b=some o->h'.get? b=some o)->Q .none { s with heap:=h'}):
  wpAny (model P w) A (call (.builtin "list.append") [.ref l,u]) Q E s:=by
 refine aa9 F.slot_list_append ⟨_,e,rfl⟩ F.entry_list_append (F.args_list_append_2 _ _) (list_append l a.toArray n u (by rw[t_];omega)) ⟨e,?_⟩;have q:=PySem.IsL.update e (·.push u);rw[List.push_toArray] at q;exact h _ _ q (fun b o d c=>(YJ s.heap _ (Ne.symm d)).trans c)
def bW:∀(a:List (Str × NameKind)) (n:Nat) (b:List (Str × Addr)),cellsFrom n a b=cellsFrom n a []++b
 |[],_,_=>rfl
 | (x,k)::r,n,b=>by
  unfold cellsFrom
  split
  ·
   rw[bW r (n+1) ((x,n)::b),bW r (n+1) [(x,n)],YW]
   rfl
  ·
   exact bW r n b
def dR {a:Type}(x:Str):∀(l m:List (Str × a)),(l++m).lookup x=(l.lookup x).or (m.lookup x)
 |[],_=>rfl
 | (y,v)::r,m=>by
  rw[aay,Zh,Zh,dR x r m]
  cases x==y <;> rfl
def gC (h:(cellsFrom n a b).lookup x=some c):(cellsFrom n a []).lookup x=some c\/((cellsFrom n a []).lookup x=none/\b.lookup x=some c):=by
 rw[bW,dR] at h;cases e:(cellsFrom n a []).lookup x with
 |some d=>rw[e] at h;exact .inl h
 |none=>rw[e] at h;exact .inr ⟨rfl,h⟩
def jd:∀{a:List (Str × NameKind)}{n:Nat}{b:List (Str × Addr)},(x,c)∈cellsFrom n a b->(x,NameKind.cell)∈a\/(x,c)∈b
 |[],_,_,h=>.inr h
 | (y,k)::r,n,b,h=>by
  unfold cellsFrom at h
  split at h
  ·
   rename_i d
   rcases jd h with q | q
   ·
    exact .inl (q_ _ q)
   ·
    rcases u_.mp q with q | q
    ·
     cases q
     have:k=.cell:=by simpa using d
     subst this
     exact .inl k_
    ·
     exact .inr q
  ·
   rcases jd h with q | q
   ·
    exact .inl (q_ _ q)
   ·
    exact .inr q
def Ie (g:Q (newEnv scope s.heap.objs.size a (cellsFrom (s.heap.objs.size+1) scope.names b) c none .none (some env) builtinsNs) { s with heap:=pushCells (s.heap.push { cls:=.type "dict",data:=.dict #[]}) scope.names}):
  wpAny M A (newFunctionEnv scope a b [] c none .none (some env)) Q E s:=by
 simp only[newFunctionEnv,Option.isSome_some,if_true];refine a_ (wpAny_alloc ?_);refine a_ (wpAny_layCells _ (fun name d f=>by cases e:d==NameKind.cell <;> simp [e]) _ _ _ _ ?_);rw[show ({ s with heap:=s.heap.push { cls:=.type "dict",data:=.dict #[]}}:Shared).heap.objs.size=s.heap.objs.size+1 from Y_ ..];refine a_ ?_;rw[List.forIn_nil];exact n_ (n_ g)
def Bp {T:St}{U:List Addr}{C:Addr} (S:CompSc X N' nt cap scope) (I:Inv X g T H s) (O:∀x c,A.lookup x=some c->X.env.cells.lookup x=some c) (D:∀y∈scope.names,y.2=.free->∃c,A.lookup y.1=some c) (Y:∀b∈U,lY X g H b) (L:∀b∈U,b<s.heap.objs.size) (t:s.heap.objs.size<C) (hn:h'.Ns C fun _=>none) (F:∀b o,s.heap.get? b=some o->h'.get? b=some o) (hp:∀p∈pl,h'.get? p.1=some p.2/\s.heap.objs.size=p.1/\∀v,p.2.data≠.cell v) (l:CellsOk h' (C+1) (cellsFrom (C+1) scope.names [])):
  Inv (bU X N' scope (cellsFrom (C+1) scope.names A) g s H C U) pl (nR nt cap T) H { s with heap:=h',toks:=tk}:=by
 have h:∀x c,(cellsFrom (C+1) scope.names A).lookup x=some c->(C+1<=c/\(cellsFrom (C+1) scope.names []).lookup x=some c)\/X.env.cells.lookup x=some c:=fun x c e=>by
  rcases gC e with q | q
  ·exact .inl ⟨(l.empty x c (mem_of_lookup q)).2,q⟩
  exact .inr (O x c q.2)
 have R:∀x c,X.env.cells.lookup x=some c->c<s.heap.objs.size:=fun x c e=>by obtain⟨v,q⟩:=I.cell x c e;exact q.lt
 have Z:(bU X N' scope (cellsFrom (C+1) scope.names A) g s H C U).Ok:=by
  refine⟨I.ok.mod,S.kind,I.ok.glob,I.ok.blt,ZD t,fun x y c e1 B=>?_,fun x hx=>?_,fun x c z e=>?_,I.ok.hd,I.ok.frames,.inl rfl,fun b r=>?_,I.bs,Q_ I.ok.bsz I.sz,fun b o e r=>?_,fun b r z=>?_,I.stack,I.stkFree⟩
  ·rcases h x c e1 with ⟨V,p1⟩ | V
   ·rcases h y c B with ⟨K,p2⟩ | K
    ·exact name_of_addr l.apart (mem_of_lookup p1) (mem_of_lookup p2)
    exact absurd (K_ (Zn (YL (R y c K) t)) V) (YM _)
   rcases h y c B with ⟨K,p2⟩ | K
   ·exact absurd (K_ (Zn (YL (R x c V) t)) K) (YM _)
   exact I.ok.inj x y c V K
  ·have hx':(relabel scope X.env).names.lookup x=some .cell\/(relabel scope X.env).names.lookup x=some .free:=hx;have hm:∃k,(x,k)∈(relabel scope X.env).names/\(k=.cell\/k=.free):=by
    rcases hx' with z | z
    ·exact⟨_,mem_of_lookup z,.inl rfl⟩
    exact⟨_,mem_of_lookup z,.inr rfl⟩
   obtain⟨k,hm,F⟩:=hm;obtain⟨⟨n,W⟩,Q,e⟩:=z_.mp hm;have E:(if (W==NameKind.free&&X.env.scope.kind==.function&&X.env.kindOf n==some .cell)=true then (n,NameKind.cell) else (n,W))=(x,k):=e;by_cases J:W=.free
   ·subst J;have en:n=x:=by split at E <;> exact W_ Prod.fst E
    subst en;obtain⟨c,ec⟩:=D (n,.free) Q rfl;show ∃c,(cellsFrom (C+1) scope.names A).lookup n=some c;rw[bW,dR,ec];cases (cellsFrom (C+1) scope.names []).lookup n with
    |none=>exact⟨c,rfl⟩
    |some d=>exact⟨d,rfl⟩
   have r:(W==NameKind.free)=false:=by simpa using J
   rw[r] at E;simp only[aa5,C_,YG] at E;cases E;rcases F with rfl | rfl
   ·obtain⟨c,ec⟩:=jq (n:=C+1) (S.cells _ Q rfl);refine⟨c,?_⟩;show (cellsFrom (C+1) scope.names A).lookup _=some c;rw[bW,dR,ec];rfl
   exact absurd rfl J
  ·have z':scope.names.lookup x=some .cell:=by simpa [bU] using z
   obtain⟨d,ed⟩:=jq (n:=C+1) z';have E:(cellsFrom (C+1) scope.names A).lookup x=some c:=e;rw[bW,dR,ed] at E;cases E;have:=(l.empty x _ (mem_of_lookup ed)).2;show s.heap.objs.size<=_;omega
  ·obtain⟨f0,f1,f2,f3,f4,f5⟩:=Y b r;refine⟨fun z=>absurd (L b r) (aa3.mpr (by rw[show b=C from z];exact ZD t)),fun x c e=>?_⟩;rcases h x c e with ⟨q,_⟩ | q
   ·intro z;rw[z] at q;exact absurd (K_ (Zn (YL (L b r) t)) q) (YM _)
   exact f4 x c q
  ·obtain⟨f0,f1,f2,f3,f4,f5⟩:=Y b r;rcases f3 with q | q
   ·exact I.ok.noex b o e q
   exact absurd (p_ (I.ok.bs b o e).1) (aa3.mpr q)
  obtain⟨f0,f1,f2,f3,f4,f5⟩:=Y b r;rcases u_.mp (I.stkSub b z) with q | q
  ·exact f1 q
  exact f2 q
 obtain⟨m,hnm,hl⟩:=id I.loc;refine⟨Z,rfl,I.bare,Un.kept F,⟨_,hn,fun i x v e1 B e3=>?_⟩,fun x c e=>?_,I.hok.fresh (ZD t),fun x c e=>?_,fun p hp'=>?_,I.hok.kept F,?_⟩
 ·-- a name of the block: one that it takes from around
  unfold nR at B;by_cases hi:i<nt
  ·rw[YQ (by simpa using hi),Z_] at B;split at B <;> cases B
  obtain⟨j,rfl⟩:∃j,i=nt+j:=⟨i - nt,by omega⟩;obtain⟨k,ck,hN,f⟩:=S.caps j x e1;rw[Yx (by simp),YX,Nat.add_sub_cancel_left,y_,ck] at B;have w:(T[k]?).getD none=some v:=O_ B;have N:T[k]?=some (some v):=by
   cases q:T[k]? with
   |none=>rw[q] at w;cases w
   |some z=>rw[q] at w;exact W_ some w
  have P:=S.free (x,.free) (mem_of_lookup f) rfl;obtain⟨u,ru,lk⟩:=hl k x v hN N (.inr P);refine⟨u,ru,.inr ⟨iU f,?_⟩⟩;rcases lk with ⟨kl,_⟩ | ⟨_,c,hc,G⟩
  ·rcases P with z | z <;> (rw[kl] at z;cases z)
  obtain⟨c',M⟩:=D (x,.free) (mem_of_lookup f) rfl;have e:=O x c' M;rw[hc] at e;cases e;obtain⟨o,ho,hd⟩:=G;refine⟨c,?_,o,F _ _ ho,hd⟩;show (cellsFrom (C+1) scope.names A).lookup x=some c;rw[bW,dR];cases q:(cellsFrom (C+1) scope.names []).lookup x with
  |none=>exact M
  |some d =>
  rcases jd (mem_of_lookup q) with z | z
  ·have:=S.cells _ z rfl;rw[f] at this;cases this
  cases z
 ·rcases h x c e with ⟨_,q⟩ | q
  ·exact⟨none,(l.empty x c (mem_of_lookup q)).1⟩
  obtain⟨v,o,ho,hd⟩:=I.cell x c q;exact⟨v,o,F _ _ ho,hd⟩
 ·rcases h x c e with ⟨q,_⟩ | q
  ·exact I.hok.fresh (ZD (K_ (Zn t) q))
  exact I.freeC x c q
 ·rcases v_.mp hp' with z | z
  ·obtain⟨e,n,n1,n2,d⟩:=I.pin p z;refine⟨F _ _ e,n,fun q=>?_,fun q=>?_,d⟩
   ·exact absurd (p_ e) (aa3.mpr (by rw[show p.1=C from q];exact ZD t))
   rcases u_.mp (I.stkSub p.1 q) with q | q
   ·exact n1 q
   exact n2 q
  obtain⟨e,n,d⟩:=hp p z;refine⟨e,I.hok.fresh (by omega),fun q=>?_,fun q=>?_,d⟩
  ·exact absurd (n.trans (show p.1=C from q)) (I_ t)
  have:=I.stkSub p.1 q;rcases u_.mp this with q | q
  ·exact absurd I.lt (aa3.mpr (by rw[<- q,n];exact l_ _))
  exact I.nofs (by omega) q
 unfold nR;show _=N'.length;rw[d_,YX,e_,S.len]
def HOk.track (x:HOk P w H h) (g:H a=none) (l:H C=none) (k:∀b u,b≠C->h.get? b=some u->h'.get? b=some u) (d:ObjOk P w (upd H a o) h' a o):HOk P w (upd H a o) h':=fun b u e=>by
 by_cases i:b=a
 ·subst i;rw[aY] at e;cases e;exact d
 rw[aL i] at e;have j:∀c z,H c=some z->c≠C:=fun c z q r=>by rw[r,l] at q;cases q
 refine (x b u e).stay (fun c v f q=>k c v ?_ q) (fun c q=>by rw[aL (cC q g)];exact q) fun c xs q=>by rw[aL (cC q g)];exact q
 rcases f with rfl | f
 ·exact j c u e
 exact j c _ f
def rO {σ:St}{RR:Value->Addr->Result->Shared->Prop} (hc:X.calm=true) (S:CompSc X N' nt cap scope) (hcl:∀x c,M.lookup x=some c->X.env.cells.lookup x=some c) (hclh:∀y∈scope.names,y.2=.free->∃c,M.lookup y.1=some c) (hX:∀M a s H C l,PG (bU X N' scope M a s H C l) tg g/\PIf (bU X N' scope M a s H C l) ifs tt/\PE (bU X N' scope M a s H C l) elt te) (I:Inv X a σ f s₂) (T:Turn X.prog X.w X.K tg J l it tn) (st:tn 0 s₂.heap) (hf:∀b∈l,lY X a f b) (hw:xF J g tt te fin (nR nt cap σ) f) (hRR:∀(D C:Addr) (s₄:Shared) (m:Str->Option Value) (U:List V) (H':Hp),s₄.heap.Ns C m->s₂.heap.objs.size<=D->s₂.heap.objs.size<=C->C≠D->H' D=none->H' C=none->U.length<=sizeLine->fin U H' ->
   (∀h',(∀b o,b≠C->s₄.heap.get? b=some o->h'.get? b=some o)->Inv X a σ (upd H' D (.lst U)) { s₄ with heap:=h'})->RR (.ref D) C (.ok .next) s₄):
  wpAny (model X.prog X.w) X.A (newList []) (fun acc G=>wpAny (model X.prog X.w) X.A (newFunctionEnv scope X.env.globals M [] X.env.qual none .none (some X.env)) (fun cenv s₄ =>
   codeAny (model X.prog X.w) X.A (.compStart (.ListComp elt [⟨tg,iter,ifs,0⟩] scope pos) 0 (.ref it) acc { cenv with scope:=relabel scope X.env}) (RR acc cenv.locals) s₄) E G) E s₂:=by
 refine ZS (Ie ?_);dsimp only;generalize hH2:s₂.heap.push { cls:=.type "list",dict:=none,data:=.seq ([]:List Value).toArray}=B;generalize hD:s₂.heap.objs.size=D;have hB:B.objs.size=D+1:=by rw[<- hH2,Y_,hD]
 have F:CellsOk (pushCells (B.push { cls:=.type "dict",data:=.dict #[]}) scope.names) (B.objs.size+1) (cellsFrom (B.objs.size+1) scope.names []):=by have:=cellsFrom_ok scope.names (B.push { cls:=.type "dict",data:=.dict #[]}) (B.objs.size+1) [] ⟨fun _ _ hm=>(nomatch hm),List.Pairwise.nil⟩ (by rw[Y_];exact l_ _);rw[Y_] at this;exact this
 have t:(pushCells (B.push { cls:=.type "dict",data:=.dict #[]}) scope.names).Ns B.objs.size fun _=>none:=(Heap.Ns.new B (.type "dict")).keeps (pushCells_keeps _ _);have L:∀b o,B.get? b=some o->(pushCells (B.push { cls:=.type "dict",data:=.dict #[]}) scope.names).get? b=some o:=fun b o e=>pushCells_keeps _ _ b o (b_ _ e);generalize hCe:B.objs.size=C at t F ⊢;generalize pushCells (B.push { cls:=.type "dict",data:=.dict #[]}) scope.names=P at t F L ⊢;have hCD:C=D+1:=hCe.symm.trans hB;have hDC:D≠C:=by rw[hCD];exact I_ (Zg _)
 have Q:s₂.heap.objs.size<C:=by rw[hD,hCD];exact Zg _
 have Z:∀b o,s₂.heap.get? b=some o->b≠C/\b≠D:=fun b o e=>by have:=p_ e;rw[hD] at this;exact⟨by rw[hCD];exact I_ (Zn this),I_ this⟩
 have old:∀b o,s₂.heap.get? b=some o->P.get? b=some o:=fun b o e=>L b o (hH2▸b_ _ e);have hacc:P.get? D=some { cls:=.type "list",data:=.seq ([]:List Value).toArray 0}:=L _ _ (hH2▸hD▸o_ _ rfl);have O:tn 0 P:=T.keep _ _ _ st fun b j o e=>old b o e;have hfl:∀b∈l,b<s₂.heap.objs.size:=fun b j=>by obtain⟨o,e,_⟩:=T.obj _ _ st b j;exact p_ e
 obtain⟨W,⟨m0,w0⟩,turn⟩:=hw;obtain⟨hg,hi,he⟩:=hX (cellsFrom (C+1) scope.names M) a s₂ f C l;have Y:∀{H':Hp} {k:Nat} {h:List Value},(∀b∈l,H' b=none)->∀b∈l,lY (bU X N' scope (cellsFrom (C+1) scope.names M) a s₂ f C l) [(D,{ cls:=.type "list",data:=.seq h.toArray k})] H' b:=fun {H' k h} hn b j=>by
  obtain⟨f0,f1,f2,f3,f4,f5⟩:=hf b j;have hlt:=hfl b j;refine⟨hn b j,fun z=>?_,fun z=>?_,.inl j,fun x c e=>?_,fun p hp=>?_⟩
  ·rw[show b=C from z] at hlt;exact absurd hlt (aa3.mpr (ZD Q))
  ·rcases u_.mp (I.stkSub b z) with q | q
   ·exact f1 q
   exact f2 q
  ·rcases gC e with q | q
   ·have:=(F.empty x c (mem_of_lookup q)).2;intro z;rw[z] at this;exact absurd (K_ (Zn (YL hlt Q)) this) (YM _)
   exact f4 x c (hcl x c q.2)
  rcases v_.mp hp with z | z
  ·exact f5 p z
  rw[i_.mp z];intro e;rw[<- (show D=b from e),hD] at hlt;exact YM _ hlt
 have loop:∀G:Shared,G={ s₂ with heap:=P}->codeAny (model X.prog X.w) X.A (.compLoop (.ListComp elt [⟨tg,iter,ifs,0⟩] scope pos) 0 (.ref it) (.ref D) (compEnvC scope (cellsFrom (C+1) scope.names M) C X.env)) (RR (.ref D) C) G:=by
  rintro G rfl;refine pX (fun n s'=>∃i U h k σ' H',Inv (bU X N' scope (cellsFrom (C+1) scope.names M) a s₂ f C l) [(D,{ cls:=.type "list",data:=.seq h.toArray k})] σ' H' s'/\Vals U h/\tn i s'.heap/\(∀b∈l,H' b=none)/\W i n U σ' H'/\U.length<=sizeLine) ?_ m0
   ⟨0,[],[],0,nR nt cap σ,f,Bp (tk:=s₂.toks) S I hcl hclh hf hfl Q t old (fun p hp=>?_) F,.nil,O,fun b j=>(hf b j).1,w0,Y7 _⟩
  ·rintro n s3 ⟨i,U,h,k,σ3,H3,I3,rv,st3,fr3,w3,hz⟩;have pD:=I3.pin (D,{ cls:=.type "list",data:=.seq h.toArray k}) (U_ _ (i_.mpr rfl));rcases turn i n U σ3 H3 w3 with ⟨stop,hz',hfin⟩ | ⟨go,step⟩
   ·refine thn (T.done (bU X N' scope (cellsFrom (C+1) scope.names M) a s₂ f C l) rfl rfl rfl hc i _ s3 σ3 H3 (fun _ _=>False) I3 (Y fr3) st3 stop) fun r s4 ⟨hr,I4⟩=>?_;subst hr;obtain⟨m4,hn4,_⟩:=I4.loc;have pD4:=I4.pin (D,{ cls:=.type "list",data:=.seq h.toArray k}) (U_ _ (i_.mpr rfl));refine hRR D C s4 m4 U H3 hn4 (by rw[hD];exact l_ _) (ZD Q) (Ne.symm hDC) pD4.2.1 I4.free hz' hfin fun h' k'=>?_;have nD:∀b u,H3 b=some u->b≠D:=fun b u e z=>by rw[z,pD4.2.1] at e;cases e
    have nDs:∀b o,s₂.heap.get? b=some o->b≠D/\b≠C:=fun b o e=>⟨(Z b o e).2,(Z b o e).1⟩;have B4:=I4.base;refine I.call' (s':={ s4 with heap:=h'}) (ch:=l) I4.os ⟨fun b o e n j hx=>k' b o (nDs b o e).2 (B4.keep b o e n j hx),fun b o e n j hx=>?_,fun b o e n hx=>?_,fun b o e hx=>?_,fun b xs e=>?_,fun b o u e=>?_,fun b ps e=>?_⟩ ?_ I4.bare fun b j=>?_
    ·obtain⟨sl,q⟩:=B4.slot b o e n j hx;exact⟨sl,k' b _ (nDs b o e).2 q⟩
    ·rw[aL (nDs b o e).1];exact B4.free b o e n hx
    ·obtain⟨o',q⟩:=B4.there b o e hx;exact⟨o',k' b _ (nDs b o e).2 q⟩
    ·have q:=B4.tups b xs e;rw[aL (nD _ _ q)];exact q
    ·have q:=B4.frzs b o u e;rw[aL (nD _ _ q)];exact q
    ·obtain⟨more,q⟩:=B4.tbls b ps e;exact⟨more,by rw[aL (nD _ _ q)];exact q⟩
    ·exact I4.hok.track pD4.2.1 I4.free k' ⟨hz',h,k,rv,k' D _ hDC pD4.1⟩
    obtain⟨f0,f1,f2,f3,f4,f5⟩:=hf b j;exact⟨f3,f1,f4,f5⟩
   refine thn (T.item (bU X N' scope (cellsFrom (C+1) scope.names M) a s₂ f C l) rfl rfl rfl hc i _ s3 σ3 H3 (fun _ _=>False) I3 (Y fr3) st3 go) fun r s4 ⟨u,hr,h4⟩=>?_;subst hr;refine thn h4 fun _ s5 ⟨x,H5,I5,r5,y5,st5,fr5⟩=>?_;have I5':=I5.pinned (Y fr5) (T.obj _ _ st5);refine thn (hg _ s5 σ3 H5 x u _ I5' r5 (step x H5 y5)) fun _ s6 ⟨σ6,H6,I6,q6⟩=>?_;refine thn (hi _ s6 σ6 H6 _ I6 q6) fun ok s7 ⟨H7,I7,q7⟩=>?_;have N:∀{σ8:St} {H8:Hp} {s8:Shared},Inv (bU X N' scope (cellsFrom (C+1) scope.names M) a s₂ f C l) ([(D,{ cls:=.type "list",data:=.seq h.toArray k})]++lZ l s5.heap) σ8 H8 s8->tn (i+1) s8.heap/\∀b∈l,H8 b=none:=fun {σ8 H8 s8} I8 =>
    ⟨T.keep _ _ _ st5 fun b j o e=>(I8.pin (b,o) (U_ _ (U_ _ (gB j e)))).1,fun b j=>by
     obtain⟨o,e,d⟩:=T.obj _ _ st5 b j
     exact (I8.pin (b,o) (U_ _ (U_ _ (gB j e)))).2.1⟩
   cases ok with
   |false=>rw[if_neg J_] at q7 ⊢;obtain⟨m',hm,w7⟩:=q7;exact⟨m',hm,i+1,U,h,k,σ6,H7,I7.unpinned,rv,(N I7).1,(N I7).2,w7,hz⟩
   |true =>
   rw[if_pos rfl] at q7 ⊢;refine thn (he _ s7 σ6 H7 _ I7 q7) fun uy s8 ⟨y,H8,I8,ry,hz8,m',hm,w8⟩=>?_;have R:=I8.pin (D,{ cls:=.type "list",data:=.seq h.toArray k}) (U_ _ (T_ _ (i_.mpr rfl)));have hl:=rv.length;refine lA R.1 (by omega) fun h' k' e' kk=>?_;have I9:Inv (bU X N' scope (cellsFrom (C+1) scope.names M) a s₂ f C l) [] σ6 H8 { s8 with heap:=h'}:=by
    refine Inv.turned (t':=s8.toks) (it:=D) (I8.pins_of (pins':=[]) (fun p hp=>nomatch hp)) (fun b o j e=>kk b o j e) R.2.1 R.2.2.1 (.inr (by show s₂.heap.objs.size<=D;rw[hD];exact l_ _)) (fun x c e z=>?_) (fun p hp z=>?_)
    ·rcases gC e with q | q
     ·have:=(F.empty x c (mem_of_lookup q)).2;rw[z,hCD] at this;omega
     obtain⟨v,q⟩:=I.cell x c (hcl x c q.2);have:=q.lt;rw[z,hD] at this;exact YM _ this
    rw[S_] at hp;have:=p_ (I.pin p hp).1;rw[z,hD] at this;exact YM _ this
   refine⟨m',hm,i+1,U++[y],h++[uy],k',σ6,H8,I9.pins_of fun p hp=>?_,rv.append (.cons ry .nil),?_,(N I8).2,w8,?_⟩
   ·rw[i_.mp hp];exact⟨e',R.2.1,R.2.2.1,R.2.2.2.1,fun v z=>by cases z⟩
   ·refine T.keep _ _ _ (N I8).1 fun b j o e=>kk b o (fun z=>?_) e;have:=hfl b j;rw[z,hD] at this;exact YM _ this
   rw[d_,A_];omega
  rw[i_.mp hp];exact⟨hacc,hD,fun v z=>by cases z⟩
 exact codeAny_compStart_list (loop _ rfl) (T.self _ 0 _ _ _ O (loop _ rfl))
def Ug (c:TI) (g:TG) (tt:TT) (te:TE) (nt:Nat) (cap:List Nat):TE:=fun a H Q=>c a H fun J b=>xF J g tt te (fun d H'=>∀p,H' p=none->Q (.ref p) (upd H' p (.lst d))) (nR nt cap a) b
def Ig (K:X.calm=true) (S:CompSc X N' nt cap scope) (N:PI X B c E) (U:∀p a s H C n,PG (bU X N' scope p a s H C n) B g/\PIf (bU X N' scope p a s H C n) i tt/\PE (bU X N' scope p a s H C n) j te) (V:∀x,foldedSetIterable c X.env x=pure x:=by intro _;rfl):PE X (.ListComp j [⟨B,c,i,0⟩] scope q) (Ug E g tt te nt cap):=by
 intro a s F H Q I h;rw[eval_ListComp];obtain⟨p,d,u,f⟩:=mF (scope:=scope) (env:=X.env) fun y M G=>I.ok.has y.1 (S.free y M G);refine wpAny_comprehension_free (use:=none) rfl V d S.kind S.names (thn (N a s F H _ I h) fun v s1 W=>thn W fun itv s2 L=>?_);obtain⟨it,n,tn,J,H2,rfl,I2,T,r,O,hw⟩:=L;refine rO (RR:=fun t C=>compPost (model X.prog X.w) X.A X.xe none (EP X a F Q) t C) K S u f U I2 T r O hw fun D C s4 m ys H' Z hD hC Y P nC hz l k=>?_;refine⟨m,Z,fun h' z=>?_⟩;exact⟨.ref D,_,k h' fun b o R e=>z.extBut b o R e,rfl,l D P⟩
def Bq (c:TI) (g:TG) (tt:TT) (te:TE) (nt:Nat) (cap:List Nat) (i:Nat):TS:=fun D a H=>c a H fun J b=>xF J g tt te (fun d H'=>∀p,H' p=none->D.nx (a.set i (some (.ref p))) (upd H' p (.lst d))) (nR nt cap a) b
def Ih {t f r:Pos} (hc:X.calm=true) (hN:X.N.Nodup) (V:X.N[i]?=some x) (hx:Loc X.env.scope x) (S:CompSc X N' nt cap scope) (hi:PI X B j wi) (hX:∀P d s H C M,PG (bU X N' scope P d s H C M) B g/\PIf (bU X N' scope P d s H C M) l tt/\PE (bU X N' scope P d s H C M) n te) (U:swapsWith (.ListComp n [⟨B,j,l,0⟩] scope t) (some (.Name x f)) r.line X.env=pure true:=by rfl) (hs:∀x,foldedSetIterable j X.env x=pure x:=by intro _;rfl) (R:X.fn x=true\/X.env.scope.names.lookup x=some .local:=by first | exact .inl rfl | exact .inr rfl | assumption):
  PS X (.Assign [.Name x f] (.ListComp n [⟨B,j,l,0⟩] scope t) r) (Bq wi g tt te nt cap i):=by
 intro d s σ H Dn I h;rw[exec_Assign_Name_used _ _ _ _ U];obtain⟨P,u,hcl,G⟩:=mF (scope:=scope) (env:=X.env) fun y hy R=>I.ok.has y.1 (S.free y hy R);refine a_ (aaM (a_ ?_));show wpAny _ X.A (do let _ <- comprehension (.ListComp n [⟨B,j,l,0⟩] scope t) scope X.env _ (newList []) false (eval j X.env) (some (assign (.Name x f) X.env))) _ _ s;refine a_ (Y5 (wpAny_comprehension_free (use:=some (assign (.Name x f) X.env)) (Q:=fun _ s'=>SP X d Dn .next s') rfl hs u S.kind S.names
  (thn (hi d s σ H _ I h) fun v s1 h1=>thn h1 fun itv s2 h2=>?_)) (fun _ s' hq=>n_ (n_ hq)) fun _ _ e=>e)
 obtain⟨it,M,tn,J,H2,rfl,K,T,W,f2,hw⟩:=h2;refine rO (RR:=fun Z C=>compPost (model X.prog X.w) X.A X.xe (some (assign (.Name x f) X.env)) (fun _ s'=>SP X d Dn .next s') Z C) hc S hcl G hX K T W f2 hw fun D C s4 m ys H' hn hD O hDC nD nC hz L k=>?_;show wpAny _ X.A (assign (.Name x f) X.env (.ref D)) _ _ s4;have I4:=k s4.heap fun b o _ e=>e;have F:C≠X.env.locals:=fun z=>by have:=K.lt;rw[<- z] at this;exact absurd this (aa3.mpr O)
 have E:∀y c,X.env.cells.lookup y=some c->c≠C:=fun y c e z=>by obtain⟨v,q⟩:=K.cell y c e;have:=q.lt;rw[z] at this;exact absurd this (aa3.mpr O)
 refine wpAny_assign_Name (iz I4 hN V hx (show RelV (.ref D) (.ref D) from rfl) (fun s5 I5 ⟨a,sb,ha⟩=>?_) R);have Y:C≠a:=by
  rcases ha with rfl | ha
  ·exact F
  exact fun z=>E x a ha z.symm
 refine⟨m,hn.sameBut sb Y,fun h' hs'=>⟨_,_,Inv.turned (t':=s5.toks) (it:=C) I5 (fun b o hb e=>hs'.extBut b o hb e) (by rw[aL hDC];exact nC) F (.inr (Q_ K.sz O)) E (fun p hp z=>?_),L D nD⟩⟩;have:=p_ (K.pin p hp).1;rw[z] at this;exact absurd this (aa3.mpr O)
def exP (e C:Addr) (d:Option Addr) (b:Bool) (h:Heap):Prop:=∃vs a,h.get? e=some ⟨.ref C,d,.fields vs,a⟩/\(b=true->vs[1]?=some .none)
def exO (e C:Addr) (d:Option Addr) (a:Bool):HO:=.ext (exP e C d a)
def dxP (a:Addr) (fs:List (Str × V)) (h:Heap):Prop:=∃mA,h.Ns1 a mA/\(∀f,RelO (fs.lookup f) (mA f))/\PySem.Within mA (fs.map (·.1))
def dxO (a:Addr) (fs:List (Str × V)):HO:=.ext (dxP a fs)
section
variable {P:Program}{w:World}
def exP.at (x:exP e C d rd f) (k:∀o,f.get? e=some o->c.get? e=some o):exP e C d rd c:=let ⟨vs,sl,a,b⟩:=x;⟨vs,sl,k _ a,b⟩
def dxP.at {d c:Heap}(x:dxP dx fs d) (k:∀o,d.get? dx=some o->c.get? dx=some o):dxP dx fs c:=let ⟨mA,a,b⟩:=x;⟨mA,a.at k,b⟩
def exO.ok (x:exP e C d rd h):ObjOk P w H h e (exO e C d rd):=⟨x,let ⟨_,_,a,_⟩:=x;⟨_,a⟩,fun _ _ y k=>y.at k⟩
def dxO.ok (x:dxP dx fs h):ObjOk P w H h dx (dxO dx fs):=⟨x,let ⟨_,⟨_,_,_,a,_⟩,_⟩:=x;⟨_,a⟩,fun _ _ y k=>y.at k⟩
def exO.of (x:HOk P w H h) (q:H e=some (exO e C d rd)):exP e C d rd h:=(x e _ q).1
def dxO.of (x:HOk P w H h) (q:H dx=some (dxO dx fs)):dxP dx fs h:=(x dx _ q).1
end
end L2
set_option maxHeartbeats 1000000
namespace L3
open L2
inductive T where
 |non | bl (b:Bool) | int (i:Int) | str (x:Str) | tup (ts:List T) | ref (a:Addr) | ty (n:String)
mutual
def Rep (K:Frag) (H:Hp):T->V->Prop
 |.non,v=>v=.non
 |.bl b,v=>v=.bl b
 |.int i,v=>v=.int i
 |.str x,v=>v=.str x
 |.tup ts,v=>∃a xs,v=.ref a/\SqT K H a xs/\Reps K H ts xs
 |.ref a,v=>v=.ref a
 |.ty n,v=>v=.ty n
def Reps (K:Frag) (H:Hp):List T->List V->Prop
 |[],xs=>xs=[]
 |t::ts,xs=>∃x r,xs=x::r/\Rep K H t x/\Reps K H ts r
end
def TupLe (K:Frag) (H H':Hp):Prop:=∀a xs,SqT K H a xs->SqT K H' a xs
def TupLe.refl {K:Frag}:TupLe K H H:=fun _ _ h=>h
def TupLe.trans {K:Frag} (a:TupLe K H d) (b:TupLe K d e):TupLe K H e:=fun c xs h=>b c xs (a c xs h)
mutual
def Rep.mono {K:Frag} (b:TupLe K H H'):∀{t:T}{v:V},Rep K H t v->Rep K H' t v
 |.non,_,h=>by simp only[Rep] at h ⊢;exact h
 |.bl _,_,h=>by simp only[Rep] at h ⊢;exact h
 |.int _,_,h=>by simp only[Rep] at h ⊢;exact h
 |.str _,_,h=>by simp only[Rep] at h ⊢;exact h
 |.ref _,_,h=>by simp only[Rep] at h ⊢;exact h
 |.ty _,_,h=>by simp only[Rep] at h ⊢;exact h
 |.tup ts,_,h=>by
  simp only[Rep] at h ⊢
  obtain⟨a,xs,e,s,r⟩:=h
  exact⟨a,xs,e,b a xs s,Reps.mono b r⟩
def Reps.mono {K:Frag} (c:TupLe K H H'):∀{ts:List T}{xs:List V},Reps K H ts xs->Reps K H' ts xs
 |[],_,h=>by simp only[Reps] at h ⊢;exact h
 |t::ts,_,h=>by
  simp only[Reps] at h ⊢
  obtain⟨x,r,e,a,b⟩:=h
  exact⟨x,r,e,Rep.mono c a,Reps.mono c b⟩
end
section
variable {K:Frag}
def Reps.nil:Reps K H [] []:=by simp only[Reps]
def Reps.cons (a:Rep K H t v) (b:Reps K H ts vs):Reps K H (t::ts) (v::vs):=by simp only[Reps];exact⟨v,vs,rfl,a,b⟩
def Reps.inv (h:Reps K H (t::ts) vs):∃v r,vs=v::r/\Rep K H t v/\Reps K H ts r:=by simp only[Reps] at h;exact h
def Reps.inv0 (h:Reps K H [] vs):vs=[]:=by simp only[Reps] at h;exact h
def Reps.length:∀{ts:List T}{vs:List V},Reps K H ts vs->ts.length=vs.length
 |[],_,h=>by rw[h.inv0];rfl
 |t::ts,_,h=>by obtain⟨v,r,rfl,_,b⟩:=h.inv;simp [Reps.length b]
def Reps.get:∀{ts:List T}{vs:List V}{i:Nat}{t:T},Reps K H ts vs->ts[i]?=some t->∃v,vs[i]?=some v/\Rep K H t v
 |[],_,_,_,_,e=>by simp at e
 |a::ts,_,0,t,h,e=>by obtain⟨v,r,rfl,q,_⟩:=h.inv;simp at e;subst e;exact⟨v,rfl,q⟩
 |a::ts,_,i+1,t,h,e=>by obtain⟨v,r,rfl,_,b⟩:=h.inv;simpa using Reps.get b (by simpa using e)
def Reps.get':∀{ts:List T}{vs:List V}{i:Nat}{v:V},Reps K H ts vs->vs[i]?=some v->∃t,ts[i]?=some t/\Rep K H t v
 |[],_,_,_,h,e=>by rw[h.inv0] at e;simp at e
 |a::ts,_,0,v,h,e=>by obtain⟨x,r,rfl,q,_⟩:=h.inv;simp at e;subst e;exact⟨a,rfl,q⟩
 |a::ts,_,i+1,v,h,e=>by obtain⟨x,r,rfl,_,b⟩:=h.inv;simpa using Reps.get' b (by simpa using e)
def Reps.append:∀{ts us:List T}{xs c:List V},Reps K H ts xs->Reps K H us c->Reps K H (ts++us) (xs++c)
 |[],_,_,_,h,h'=>by rw[h.inv0];exact h'
 |t::ts,_,_,_,h,h'=>by obtain⟨v,r,rfl,a,b⟩:=h.inv;exact .cons a (Reps.append b h')
def Reps.take:∀{ts:List T}{xs:List V}(n:Nat),Reps K H ts xs->Reps K H (ts.take n) (xs.take n)
 |[],_,n,h=>by rw[h.inv0];simp only[List.take_nil];exact .nil
 |t::ts,_,0,h=>.nil
 |t::ts,_,n+1,h=>by obtain⟨v,r,rfl,a,b⟩:=h.inv;exact .cons a (Reps.take n b)
def Reps.drop:∀{ts:List T}{xs:List V}(n:Nat),Reps K H ts xs->Reps K H (ts.drop n) (xs.drop n)
 |[],_,n,h=>by rw[h.inv0];simp only[List.drop_nil];exact .nil
 |t::ts,_,0,h=>h
 |t::ts,_,n+1,h=>by obtain⟨v,r,rfl,a,b⟩:=h.inv;exact Reps.drop n b
def Reps.set:∀{ts:List T}{xs:List V}{t:T}{v:V}(n:Nat),Reps K H ts xs->Rep K H t v->Reps K H (ts.set n t) (xs.set n v)
 |[],_,_,_,n,h,r=>by rw[h.inv0];exact .nil
 |t::ts,_,_,_,0,h,q=>by obtain⟨v,r,rfl,a,b⟩:=h.inv;exact .cons q b
 |t::ts,_,_,_,n+1,h,q=>by obtain⟨v,r,rfl,a,b⟩:=h.inv;exact .cons a (Reps.set n b q)
def Reps.reverse (h:Reps K H ts xs):Reps K H ts.reverse xs.reverse:=by
 induction ts generalizing xs with
 |nil=>rw[h.inv0];exact .nil
 |cons t ts c=>obtain⟨v,r,rfl,a,b⟩:=h.inv;simp only[List.reverse_cons];exact (c b).append (.cons a .nil)
def Rep.non (h:Rep K H .non v):v=.non:=by simp only[Rep] at h;exact h
def Rep.bl (h:Rep K H (.bl b) v):v=.bl b:=by simp only[Rep] at h;exact h
def Rep.int (h:Rep K H (.int i) v):v=.int i:=by simp only[Rep] at h;exact h
def Rep.str (h:Rep K H (.str x) v):v=.str x:=by simp only[Rep] at h;exact h
def Rep.ref (h:Rep K H (.ref a) v):v=.ref a:=by simp only[Rep] at h;exact h
def Rep.ty (h:Rep K H (.ty n) v):v=.ty n:=by simp only[Rep] at h;exact h
def Rep.tup (h:Rep K H (.tup ts) v):∃a xs,v=.ref a/\SqT K H a xs/\Reps K H ts xs:=by simp only[Rep] at h;exact h
def Rep.ofNon:Rep K H .non .non:=by simp only[Rep]
def Rep.ofBl:Rep K H (.bl b) (.bl b):=by simp only[Rep]
def Rep.ofInt:Rep K H (.int i) (.int i):=by simp only[Rep]
def Rep.ofStr:Rep K H (.str x) (.str x):=by simp only[Rep]
def Rep.ofRef:Rep K H (.ref a) (.ref a):=by simp only[Rep]
def Rep.ofTy:Rep K H (.ty n) (.ty n):=by simp only[Rep]
def Rep.ofTup (h:SqT K H a xs) (r:Reps K H ts xs):Rep K H (.tup ts) (.ref a):=by simp only[Rep];exact⟨a,xs,rfl,h,r⟩
end
inductive O3 where
 |lst (ts:List T) | rol (ts:List T) | dct (kvs:List (Str × T)) | dcp (kvs:List (List Key × T))
 |exc (C:Addr) (d:Option Addr) | xdt (fs:List (Str × T))
 |dci (kvs:List (Int × T)) | dif (o:Obj) (kvs:List (Int × T)) | ins (C:Addr) (fs:List (Str × T))
abbrev Hp3:=Addr->Option O3
def up3 (H:Hp3) (a:Addr) (o:O3):Hp3:=fun b=>if b=a then some o else H b
def au:up3 H a o a=some o:=by unfold up3;rw[if_pos rfl]
def aF (h:b≠a):up3 H a o b=H b:=by unfold up3;rw[if_neg h]
def pY:up3 (up3 H a o) a u=up3 H a u:=by funext b;unfold up3;split <;> rfl
def RepD (K:Frag) (H:Hp):List (Str × T)->List (Key × V)->Prop:=Paired fun (p:Str × T) (q:Key × V)=>q.1=Sum.inr p.1/\Rep K H p.2 q.2
def RepP (K:Frag) (H:Hp):List (List Key × T)->List (List Key × V)->Prop:=Paired fun (p:List Key × T) (q:List Key × V)=>q.1=p.1/\Rep K H p.2 q.2
def RepF (K:Frag) (H:Hp):List (Str × T)->List (Str × V)->Prop:=Paired fun (p:Str × T) (q:Str × V)=>q.1=p.1/\Rep K H p.2 q.2
def RepI (K:Frag) (H:Hp):List (Int × T)->List (Key × V)->Prop:=Paired fun (p:Int × T) (q:Key × V)=>q.1=Sum.inl p.1/\Rep K H p.2 q.2
def RepO (K:Frag) (H:Hp) (a:Addr):O3->Prop
 |.lst ts=>∃xs,H a=some (.lst xs)/\Reps K H ts xs
 |.rol ts=>∃xs,Rd H a (.lst xs)/\Reps K H ts xs
 |.dct kvs=>∃vs,H a=some (.dK vs)/\RepD K H kvs vs
 |.dcp kvs=>∃vs,H a=some (.dT vs)/\RepP K H kvs vs
 |.exc C d=>H a=some (exO a C d false)
 |.xdt fs=>∃vs,H a=some (dxO a vs)/\RepF K H fs vs
 |.dci kvs=>∃vs,H a=some (.dK vs)/\RepI K H kvs vs
 |.dif o kvs=>∃vs,H a=some (.frz o (.dK vs))/\RepI K H kvs vs
 |.ins C fs=>∃b vs,H a=some (.ins C b vs)/\RepF K H fs vs
def SimH (K:Frag) (H3:Hp3) (H:Hp):Prop:=∀a o,H3 a=some o->RepO K H a o
abbrev St3:=List (Option T)
structure SimS (K:Frag) (H:Hp) (σ3:St3) (σ:L2.St):Prop where
 len:σ3.length=σ.length
 at':∀(i:Nat) (t:T),σ3[i]?=some (some t)->∃v,σ[i]?=some (some v)/\Rep K H t v
section
variable {K:Frag}{H3:Hp3}
def SimS.mono (s:SimS K H σ3 σ) (a:TupLe K H H'):SimS K H' σ3 σ:=⟨s.len,fun i t e=>let ⟨v,e',r⟩:=s.at' i t e;⟨v,e',r.mono a⟩⟩
def SimS.set (s:SimS K H σ3 σ) (r:Rep K H t v):SimS K H (σ3.set i (some t)) (σ.set i (some v)):=by
 refine⟨by simp [s.len],fun j u e=>?_⟩;by_cases b:i=j
 ·subst b;by_cases a:i<σ3.length
  ·rw[Zd a] at e;have c:t=u:=O_ (O_ e);subst c;exact⟨v,by rw[Zd (by rw[<- s.len];exact a)],r⟩
  rw[P_ (by simpa using a)] at e;cases e
 rw[Zr b] at e;rw[Zr b];exact s.at' j u e
def RepD.mono (h:RepD K H kvs vs) (c:TupLe K H H'):RepD K H' kvs vs:=Paired.mapP h fun _ _ ⟨a,b⟩=>⟨a,b.mono c⟩
def RepF.mono (h:RepF K H kvs vs) (c:TupLe K H H'):RepF K H' kvs vs:=Paired.mapP h fun _ _ ⟨a,b⟩=>⟨a,b.mono c⟩
def RepI.mono (h:RepI K H kvs vs) (c:TupLe K H H'):RepI K H' kvs vs:=Paired.mapP h fun _ _ ⟨a,b⟩=>⟨a,b.mono c⟩
def RepP.mono (h:RepP K H kvs vs) (c:TupLe K H H'):RepP K H' kvs vs:=Paired.mapP h fun _ _ ⟨a,b⟩=>⟨a,b.mono c⟩
def ne3 (h:H3 a=some o) (h':H3 b=some u) (d:o≠u):a≠b:=by
 intro e;subst e;rw[h] at h';exact d (O_ h')
def bz (h:H3 a=some o) (h':H3 b=none):a≠b:=by
 intro e;subst e;rw[h] at h';cases h'
def aO (b:H p=none):TupLe K H (upd H p o):=fun a xs h=>by
 rcases h with (h | ⟨c,h⟩) | h
 ·exact .inl (.inl (by rw[aL (cC h b)];exact h))
 ·exact .inl (.inr ⟨c,by rw[aL (cC h b)];exact h⟩)
 exact .inr h
def bR (b:Mut (H p)):TupLe K H (upd H p o):=fun a xs h=>by
 have key:∀u,H a=some u->¬Mut (some u)->a≠p:=fun u e nm z=>by subst z;rw[e] at b;exact nm b
 rcases h with (h | ⟨c,h⟩) | h
 ·exact .inl (.inl (by rw[aL (key _ h fun z=>z)];exact h))
 ·exact .inl (.inr ⟨c,by rw[aL (key _ h fun z=>z)];exact h⟩)
 exact .inr h
def RepO.stay (h:RepO K H a o) (c:TupLe K H H') (b:∀u,H a=some u->H' a=some u):RepO K H' a o:=by
 cases o with
 |lst ts=>obtain⟨xs,e,r⟩:=h;exact⟨xs,b _ e,r.mono c⟩
 |rol ts =>
  obtain⟨xs,e,r⟩:=h;refine⟨xs,?_,r.mono c⟩;rcases e with e | ⟨f,e⟩
  ·exact .inl (b _ e)
  exact .inr ⟨f,b _ e⟩
 |dct kvs=>obtain⟨vs,e,r⟩:=h;exact⟨vs,b _ e,r.mono c⟩
 |dcp kvs=>obtain⟨vs,e,r⟩:=h;exact⟨vs,b _ e,r.mono c⟩
 |exc C d=>exact b _ h
 |xdt fs=>obtain⟨vs,e,r⟩:=h;exact⟨vs,b _ e,r.mono c⟩
 |dci kvs=>obtain⟨vs,e,r⟩:=h;exact⟨vs,b _ e,r.mono c⟩
 |dif o kvs=>obtain⟨vs,e,r⟩:=h;exact⟨vs,b _ e,r.mono c⟩
 |ins C fs=>obtain⟨d,vs,e,r⟩:=h;exact⟨d,vs,b _ e,r.mono c⟩
def SimH.new (s:SimH K H3 H) (b:H p=none):SimH K H3 (upd H p o):=fun a u e =>
 (s a u e).stay (aO b) fun w q=>by rw[aL (cC q b)];exact q
def SimH.fresh (s:SimH K H3 H) (a:H p=none):H3 p=none:=by
 cases e:H3 p with
 |none=>rfl
 |some o =>
  have q:=s p o e
  cases o with
  |lst ts=>obtain⟨xs,z,_⟩:=q;rw[a] at z;cases z
  |dct ts=>obtain⟨xs,z,_⟩:=q;rw[a] at z;cases z
  |dcp ts=>obtain⟨xs,z,_⟩:=q;rw[a] at z;cases z
  |exc C b=>have z:H p=_:=q;rw[a] at z;cases z
  |xdt ts=>obtain⟨xs,z,_⟩:=q;rw[a] at z;cases z
  |dci ts=>obtain⟨xs,z,_⟩:=q;rw[a] at z;cases z
  |dif o ts=>obtain⟨xs,z,_⟩:=q;rw[a] at z;cases z
  |ins C ts=>obtain⟨b,xs,z,_⟩:=q;rw[a] at z;cases z
  |rol ts =>
   obtain⟨xs,z,_⟩:=q
   rcases z with z | ⟨c,z⟩
   ·
    rw[a] at z;cases z
   ·
    rw[a] at z;cases z
end
abbrev VK3:=T->Hp3->Prop
abbrev TE3:=St3->Hp3->VK3->Prop
abbrev TT3:=St3->Hp3->(Bool->Hp3->Prop)->Prop
abbrev TA3:=St3->Hp3->(List T->Hp3->Prop)->Prop
structure Ends3 where
 nx:St3->Hp3->Prop
 rt:VK3
 bk:St3->Hp3->Prop:=fun _ _=>False
 ct:St3->Hp3->Prop:=fun _ _=>False
abbrev TS3:=Ends3->St3->Hp3->Prop
abbrev TG3:=T->St3->Hp3->(St3->Hp3->Prop)->Prop
abbrev nU:=List T->St3->Hp3->(St3->Hp3->Prop)->Prop
abbrev R3:=T->T->Hp3->VK3->Prop
section
variable (K:Frag)
def KV3 (H:Hp) (b:VK3) (Q:VK):Prop:=∀v H' t a,TupLe K H H'->SimH K a H'->Rep K H' t v->b t a->Q v H'
def KS3 (H:Hp) (d:St3->Hp3->Prop) (N:L2.St->Hp->Prop):Prop:=∀b H' a c,TupLe K H H'->SimS K H' a b->SimH K c H'->d a c->N b H'
def lft (c:TE3):TE:=fun d H Q=>∃a H3 b,SimS K H a d/\SimH K H3 H/\c a H3 b/\KV3 K H b Q
def zz (e:TT3):TT:=fun f H Q=>∃a H3 d,SimS K H a f/\SimH K H3 H/\e a H3 d/\∀b H' c,TupLe K H H'->SimH K c H'->d b c->Q b H'
def XQ (d:TA3):TA:=fun e H Q=>∃a H3 c,SimS K H a e/\SimH K H3 H/\d a H3 c/\∀vs H' ts b,TupLe K H H'->SimH K b H'->Reps K H' ts vs->c ts b->Q vs H'
def Br (c:TS3):TS:=fun D d H=>∃a H3 b,SimS K H a d/\SimH K H3 H/\c b a H3/\KS3 K H b.nx D.nx/\KV3 K H b.rt D.rt/\KS3 K H b.bk D.bk/\KS3 K H b.ct D.ct
def Ii (c:TG3):TG:=fun v d H Q=>∃t a H3 b,Rep K H t v/\SimS K H a d/\SimH K H3 H/\c t a H3 b/\KS3 K H b Q
def Uh (c:nU):TGs:=fun vs d H Q=>∃ts a H3 b,Reps K H ts vs/\SimS K H a d/\SimH K H3 H/\c ts a H3 b/\KS3 K H b Q
def Bs (d:R3):R2:=fun x y H Q=>∃a b H3 c,Rep K H a x/\Rep K H b y/\SimH K H3 H/\d a b H3 c/\KV3 K H c Q
def XR (b:List T->Hp3->VK3->Prop):List V->Hp->VK->Prop:=fun xs H Q=>∃ts H3 a,Reps K H ts xs/\SimH K H3 H/\b ts H3 a/\KV3 K H a Q
def XS (c:T->List T->Hp3->VK3->Prop):V->List V->Hp->VK->Prop:=fun x xs H Q=>∃a ts H3 b,Rep K H a x/\Reps K H ts xs/\SimH K H3 H/\c a ts H3 b/\KV3 K H b Q
end
section
variable {K:Frag}
def KV3.at (k:KV3 K H b Q) (c:TupLe K H H1):KV3 K H1 b Q:=fun v H' t a l=>k v H' t a (c.trans l)
def KS3.at (k:KS3 K H e N) (f:TupLe K H H1):KS3 K H1 e N:=fun a b c d l=>k a b c d (f.trans l)
end
def PE3 (X:Cx) (e:Expr) (t:TE3):Prop:=PE X e (lft X.K t)
def PT3 (X:Cx) (e:Expr) (t:TT3):Prop:=PT X e (zz X.K t)
def PW3 (X:Cx) (e:Expr) (t:TT3):Prop:=PW X e (zz X.K t)
def PA3 (X:Cx) (a:List Expr) (t:TA3):Prop:=PA X a (XQ X.K t)
def PS3 (X:Cx) (st:Stmt) (t:TS3):Prop:=PS X st (Br X.K t)
def jr (X:Cx) (st:List Stmt) (t:TS3):Prop:=PSs X st (Br X.K t)
def PG3 (X:Cx) (e:Expr) (t:TG3):Prop:=PG X e (Ii X.K t)
def Ij (X:Cx) (a:List Expr) (t:nU):Prop:=PGs X a (Uh X.K t)
def dM (X:Cx) (f:Value->Value->Sem Value) (r:R3):Prop:=OpR X f (Bs X.K r)
def cX (X:Cx) (f:Value) (r:List T->Hp3->VK3->Prop):Prop:=CallR X f (XR X.K r)
def Ui (X:Cx) (r:R3):Prop:=IxR X (Bs X.K r)
def vA (X:Cx) (a:String) (r:T->List T->Hp3->VK3->Prop):Prop:=MtR X a (XS X.K r)
def PE.imp (h:PE X e t) (w:∀a H Q,t' a H Q->t a H Q):PE X e t':=fun b s a H Q I q=>h b s a H Q I (w a H Q q)
def PT.imp (h:PT X e t) (w:∀a H Q,t' a H Q->t a H Q):PT X e t':=fun b s a H Q I q=>h b s a H Q I (w a H Q q)
def PW.imp (h:PW X e t) (w:∀a H Q,t' a H Q->t a H Q):PW X e t':=fun c b s a H Q I q=>h c b s a H Q I (w a H Q q)
def PA.imp (h:PA X d t) (w:∀b H Q,t' b H Q->t b H Q):PA X d t':=fun c a s b H Q I q=>h c a s b H Q I (w b H Q q)
def PS.imp (h:PS X e t) (w:∀D a H,t' D a H->t D a H):PS X e t':=fun b s a H D I q=>h b s a H D I (w D a H q)
def PSs.imp (h:PSs X e t) (w:∀D a H,t' D a H->t D a H):PSs X e t':=fun b s a H D I q=>h b s a H D I (w D a H q)
def PG.imp (h:PG X e t) (w:∀v a H Q,t' v a H Q->t v a H Q):PG X e t':=fun b s a H v u Q I r q=>h b s a H v u Q I r (w v a H Q q)
def PGs.imp (h:PGs X e t) (w:∀v a H Q,t' v a H Q->t v a H Q):PGs X e t':=fun b s a H v u Q I r q=>h b s a H v u Q I r (w v a H Q q)
def OpR.imp (h:OpR X f t) (w:∀x y H Q,t' x y H Q->t x y H Q):OpR X f t':=fun a s b H x y v u Q I d c q=>h a s b H x y v u Q I d c (w x y H Q q)
def CallR.imp (h:CallR X f t) (w:∀x H Q,t' x H Q->t x H Q):CallR X f t':=fun a s b H x v Q I c q=>h a s b H x v Q I c (w x H Q q)
def IxR.imp (h:IxR X t) (w:∀x y H Q,t' x y H Q->t x y H Q):IxR X t':=fun a b c s d H x y v u Q I f e q=>h a b c s d H x y v u Q I f e (w x y H Q q)
def MtR.imp (h:MtR X b t) (w:∀x xs H Q,t' x xs H Q->t x xs H Q):MtR X b t':=fun a s e H x xs v us Q I d c q=>h a s e H x xs v us Q I d c (w x xs H Q q)
section
variable {X:Cx}{pos:Pos}
def rP (i:Nat):TE3:=fun a H Q=>match a[i]? with
 |some (some t)=>Q t H
 |_=>False
def tC3 (t:T):TE3:=fun _ H Q=>Q t H
def v3 (i:Nat) {b:Pos} (g:X.N[i]?=some x:=by rfl) (c:Vis X.env.scope x:=by first | exact Or.inl rfl | exact Or.inr (Or.inl rfl) | exact Or.inr (Or.inr rfl)) (m:(x==("__debug__":Str))=false:=by decide) (a:(x==("__classdict__":Str))=false:=by decide):PE3 X (.Name x b) (rP i):=by
 refine PE.imp (pv i g c m a) ?_;rintro n H Q ⟨f,H3,o,j,d,h,k⟩;unfold rP at h;split at h
 ·rename_i t e;obtain⟨v,l,r⟩:=j.at' i t e;exact⟨v,l,k v H t H3 .refl d r h⟩
 exact h.elim
def aq:PE3 X (.Constant (.int i) j pos) (tC3 (.int i)):=by
 refine PE.imp Nr ?_;rintro d H Q ⟨b,H3,e,c,a,h,k⟩;exact k _ _ _ H3 .refl a .ofInt h
def dH:PE3 X (.Constant (.bool b) j pos) (tC3 (.bl b)):=by
 refine PE.imp S8 ?_;rintro e H Q ⟨c,H3,f,d,a,h,k⟩;exact k _ _ _ H3 .refl a .ofBl h
def gU:PE3 X (.Constant .none j pos) (tC3 .non):=by
 refine PE.imp Nt ?_;rintro d H Q ⟨b,H3,e,c,a,h,k⟩;exact k _ _ _ H3 .refl a .ofNon h
def cM:PE3 X (.Constant (.str x) j pos) (tC3 (.str x)):=by
 refine PE.imp Nu ?_;rintro d H Q ⟨b,H3,e,c,a,h,k⟩;exact k _ _ _ H3 .refl a .ofStr h
variable {a b c:Expr}{ta tb tc:TE3}
def rQ (r:R3) (c tb:TE3):TE3:=fun a H Q=>c a H fun x b=>tb a b fun y d=>r x y d Q
def iC (h:lft X.K (rQ r ta tb) j H Q):tOp (Bs X.K r) (lft X.K ta) (lft X.K tb) j H Q:=by
 obtain⟨b,H3,q,i,l,h,k⟩:=h;exact⟨b,H3,_,i,l,h,fun x v o f c d n p=>⟨b,f,_,i.mono c,d,p,fun y u m g a e s t=>⟨o,m,g,q,n.mono a,s,e,t,k.at (c.trans a)⟩⟩⟩
def aH {c:Operator} (d:dM X (binaryOp c) r) (f:PE3 X a ta) (e:PE3 X b tb):PE3 X (.BinOp a c b pos) (rQ r ta tb):=PE.imp (Tr d f e) fun _ _ _ h=>iC h
def gD {c:CmpOp} (f:dM X (compareOp c) r) (e:PE3 X a ta) (g:PE3 X b tb) (d:behindInMarks c b=false:=by first | exact Av _ | rfl):PE3 X (.Compare a [c] [b] pos) (rQ r ta tb):=PE.imp (Ht f e g d) fun _ _ _ h=>iC h
def aK (c:Ui X r) (f:PE3 X a ta) (e:PE3 X b tb) (d:xn b:=by exact fun _ _=>rfl):PE3 X (.Subscript a b pos) (rQ r ta tb):=PE.imp (T5 c f e d) fun _ _ _ h=>iC h
def jW (t:TE3):TT3:=fun a H Q=>t a H fun x H'=>match x with
 |.bl k=>Q k H'
 |_=>False
def aV (n:dM X (compareOp e) r) (l:PE3 X a ta) (o:PE3 X b tb) (i:behindInMarks e b=false:=by first | exact Av _ | rfl):PT3 X (.Compare a [e] [b] pos) (jW (rQ r ta tb)):=by
 refine PT.imp (Hu n l o i) ?_;rintro p H Q ⟨d,H3,s,m,g,h,k⟩;refine iC (X:=X) ⟨d,H3,_,m,g,h,fun v H' t f j c r q=>?_⟩;cases t with
 |bl b=>exact⟨b,r.bl,k b H' f j c q⟩
 |_=>exact q.elim
def pZ (r e:R3) (f tb b:TE3):TE3:=fun a H Q=>f a H fun x c=>tb a c fun y g=>r x y g fun z H3=>match z with
 |.bl k=>if k=true then b a H3 fun w d=>e y w d Q else Q (.bl false) H3
 |_=>False
def zA (h:lft X.K (pZ r v ta tb tc) A H Q):Aw (Bs X.K r) (Bs X.K v) (lft X.K ta) (lft X.K tb) (lft X.K tc) A H Q:=by
 obtain⟨d,H3,J,n,C,h,k⟩:=h;refine⟨d,H3,_,n,C,h,fun x P G p c l D I=>⟨d,p,_,n.mono c,l,I,fun y O u s a m B L=>⟨G,u,s,_,D.mono a,B,m,L,fun z H' t o g e E q=>?_⟩⟩⟩;cases t with
 |bl b =>
  refine⟨b,E.bl,?_⟩;cases b with
  |true=>exact⟨d,o,_,n.mono (c.trans (a.trans g)),e,q,fun w N F i f j rw M=>⟨u,F,i,J,B.mono (g.trans f),rw,j,M,k.at (c.trans (a.trans (g.trans f)))⟩⟩
  |false=>exact k _ _ _ _ (c.trans (a.trans g)) e .ofBl q
 |_=>exact q.elim
def Bt (k:dM X (compareOp e) r) (f:dM X (compareOp d) g) (j:PE3 X a ta) (m:PE3 X b tb) (l:PE3 X c tc) (i:lastMarks [e,d] [b,c]=false:=by with_unfolding_all rfl):PE3 X (.Compare a [e,d] [b,c] pos) (pZ r g ta tb tc):=PE.imp (Ax k f j m l i) fun _ _ _ h=>zA h
variable {rest:List Expr}
def cI (h:PE3 X a ta) (j:∀whole,isTrue a X.env whole=(do let v <- whole;standAt a.pos;holding [v] (truthy v)):=by intro _;rfl):PT3 X a (jW ta):=by
 refine PT.imp (Nv h j) ?_;rintro l H Q ⟨c,H3,m,i,f,h,k⟩;refine⟨c,H3,_,i,f,h,fun v H' t e g d r q=>?_⟩;cases t with
 |bl b=>exact⟨b,r.bl,k b H' e g d q⟩
 |_=>exact q.elim
def K8 (t u:TT3):TT3:=fun b H Q=>t b H fun c a=>if c=true then u b a Q else Q false a
def Uj (t u:TT3):TT3:=fun b H Q=>t b H fun c a=>if c=true then Q true a else u b a Q
def K9 (t:TT3):TT3:=fun b H Q=>t b H fun c a=>Q (!c) a
def PW3.pt (h:PW3 X a tA):PT3 X a tA:=PW.pt h
def fK (b:PT3 X a tA):PW3 X (.BoolOp .And [a] pos) tA:=Hi b
def gW (b:PT3 X a tA):PW3 X (.BoolOp .Or [a] pos) tA:=Nx b
def gY (o:PT3 X a tA) (r:PW3 X (.BoolOp .And (b::rest) pos) tB'):PW3 X (.BoolOp .And (a::b::rest) pos) (K8 tA tB'):=by
 refine PW.imp (Ny o r) ?_;rintro s H Q ⟨c,H3,t,m,n,h,k⟩;refine⟨c,H3,_,m,n,h,fun b H' g i d q=>?_⟩;cases b with
 |true=>exact⟨c,g,_,m.mono i,d,q,fun b j f l e p=>k b j f (i.trans l) e p⟩
 |false=>exact k false H' g i d q
def gM (o:PT3 X a tA) (r:PW3 X (.BoolOp .Or (b::rest) pos) tB'):PW3 X (.BoolOp .Or (a::b::rest) pos) (Uj tA tB'):=by
 refine PW.imp (S9 o r) ?_;rintro s H Q ⟨c,H3,t,m,n,h,k⟩;refine⟨c,H3,_,m,n,h,fun b H' g i d q=>?_⟩;cases b with
 |true=>exact k true H' g i d q
 |false=>exact⟨c,g,_,m.mono i,d,q,fun b j f l e p=>k b j f (i.trans l) e p⟩
def dU (i:PT3 X a tA):PT3 X (.UnaryOp .Not a pos) (K9 tA):=by
 refine PT.imp (Nz i) ?_;rintro l H Q ⟨c,H3,m,j,f,h,k⟩;exact⟨c,H3,_,j,f,h,fun b H' e g d q=>k _ H' e g d q⟩
def Bu (d tb:TE3):TE3:=fun b H Q=>d b H fun x a=>match x with
 |.bl c=>if c=true then tb b a Q else Q (.bl false) a
 |_=>False
def La (d tb:TE3):TE3:=fun b H Q=>d b H fun x a=>match x with
 |.bl c=>if c=true then Q (.bl true) a else tb b a Q
 |_=>False
def Bv (b:TE3):TE3:=fun d H Q=>b d H fun x a=>match x with
 |.bl c=>Q (.bl (!c)) a
 |_=>False
def p7 {b:PySem.BoolOp} (h:PE3 X a t):PE3 X (.BoolOp b [a] pos) t:=NB h
def vB (j:PE3 X a ta) (l:PE3 X (.BoolOp .And (b::rest) pos) tb):PE3 X (.BoolOp .And (a::b::rest) pos) (Bu ta tb):=by
 refine PE.imp (NK j l) ?_;rintro m H Q ⟨c,H3,n,g,i,h,k⟩;refine⟨c,H3,_,g,i,h,fun v H' t e f d r q=>?_⟩;cases t with
 |bl b =>
  refine⟨b,r.bl,?_⟩;cases b with
  |true=>exact⟨c,e,_,g.mono f,d,q,k.at f⟩
  |false=>exact k _ H' _ e f d .ofBl q
 |_=>exact q.elim
def Uk (j:PE3 X a ta) (l:PE3 X (.BoolOp .Or (b::rest) pos) tb):PE3 X (.BoolOp .Or (a::b::rest) pos) (La ta tb):=by
 refine PE.imp (Te j l) ?_;rintro m H Q ⟨c,H3,n,g,i,h,k⟩;refine⟨c,H3,_,g,i,h,fun v H' t e f d r q=>?_⟩;cases t with
 |bl b =>
  refine⟨b,r.bl,?_⟩;cases b with
  |true=>exact k _ H' _ e f d .ofBl q
  |false=>exact⟨c,e,_,g.mono f,d,q,k.at f⟩
 |_=>exact q.elim
def O4 (i:PE3 X a ta):PE3 X (.UnaryOp .Not a pos) (Bv ta):=by
 refine PE.imp (NP i) ?_;rintro l H Q ⟨c,H3,m,j,f,h,k⟩;refine⟨c,H3,_,j,f,h,fun v H' t e g d r q=>?_⟩;cases t with
 |bl b=>exact⟨b,r.bl,k _ H' _ e g d .ofBl q⟩
 |_=>exact q.elim
def XX (t:TT3) (d tb:TE3):TE3:=fun a H Q=>t a H fun c b=>if c=true then d a b Q else tb a b Q
def Lb:TA3:=fun _ H Q=>Q [] H
def Bw (d:TE3) (b:TA3):TA3:=fun a H Q=>d a H fun x c=>b a c fun xs e=>Q (x::xs) e
def ao:PA3 X [] Lb:=by
 refine PA.imp Oq ?_;rintro d H Q ⟨b,H3,e,c,a,h,k⟩;exact k _ _ _ _ .refl a .nil h
def aa (n:PE3 X e te) (m:PA3 X es t) (p:starEach (e::es) X.env=(false,eval e X.env)::starEach es X.env:=by rfl):PA3 X (e::es) (Bw te t):=by
 refine PA.imp (Hy n m p) ?_;rintro w H Q ⟨a,H3,x,i,l,h,k⟩;exact⟨a,H3,_,i,l,h,fun v H' t f g d r q=>⟨a,f,_,i.mono g,d,q,fun vs o ts j c b u s=>k _ _ _ _ (g.trans c) b (.cons (r.mono c) u) s⟩⟩
def Ld (t:TA3):TE3:=fun b H Q=>t b H fun xs a=>xs.length<=sizeLine/\Q (.tup xs) a
def Le (t:TA3):TE3:=fun b H Q=>t b H fun xs a=>xs.length<=sizeLine/\∀p,a p=none->Q (.ref p) (up3 a p (.lst xs))
def SimH.newTup {K:Frag}{H3:Hp3} (a:H p=none) (r:Reps K H ts xs):Rep K (upd H p (.tup xs)) (.tup ts) (.ref p) :=
 .ofTup (.of aY) (r.mono (aO a))
def SimH.newLst {K:Frag} (s:SimH K H3 H) (b:H p=none) (r:Reps K H ts xs):SimH K (up3 H3 p (.lst ts)) (upd H p (.lst xs)):=fun a o e=>by
 by_cases c:a=p
 ·subst c;rw[au] at e;cases e;exact⟨xs,aY,r.mono (aO b)⟩
 rw[aF c] at e;exact s.new b a o e
def bG (h:PA3 X es t):PE3 X (.Tuple es x1 pos) (Ld t):=by
 refine PE.imp (Ot h) ?_;rintro i H Q ⟨b,H3,j,g,e,h,k⟩;refine⟨b,H3,_,g,e,h,fun vs H' ts a f c r q=>⟨by rw[<- r.length];exact q.1,fun p d=>?_⟩⟩;exact k _ _ _ a (f.trans (aO d)) (c.new d) (SimH.newTup (H3:=a) d r) q.2
def bx (h:PA3 X es t):PE3 X (.List es pos) (Le t):=by
 refine PE.imp (Ou h) ?_;rintro i H Q ⟨b,H3,j,f,d,h,k⟩;refine⟨b,H3,_,f,d,h,fun vs H' ts g e a r q=>⟨by rw[<- r.length];exact q.1,fun p c=>?_⟩⟩;exact k _ _ _ _ (e.trans (aO c)) (a.newLst c r) .ofRef (q.2 p (a.fresh c))
end
section
variable {X:Cx}{st:Stmt}{rest:List Stmt}{pos:Pos}
def Bx:TS3:=fun D a H=>D.nx a H
def xG (t u:TS3):TS3:=fun D a H=>t { D with nx:=u D} a H
def aR:jr X [] Bx:=by
 refine PSs.imp Hj ?_;rintro D f H ⟨b,H3,e,d,a,h,c,_⟩;exact c _ _ _ _ .refl d a h
def ak (n:PS3 X st t) (o:jr X rest u):jr X (st::rest) (xG t u):=by
 refine PSs.imp (rC n o) ?_;rintro D s H ⟨c,H3,p,m,k,h,l,g,i,j⟩;exact⟨c,H3,_,m,k,h,fun r H' a f b e d q=>⟨a,f,p,e,d,q,l.at b,g.at b,i.at b,j.at b⟩,g,i,j⟩
def aA (a:PS3 X st t):jr X [st] t:=w6 a
def By (te:TE3):TS3:=fun D a H=>te a H fun _ b=>D.nx a b
def bC (i:PE3 X e te) (j:swapsWith e none pos.line X.env=pure false:=by rfl):PS3 X (.Expr e pos) (By te):=by
 refine PS.imp (Hk i j) ?_;rintro D m H ⟨a,H3,l,d,f,h,g,_⟩;exact⟨a,H3,_,d,f,h,fun v H' t k c b r q=>g _ _ _ _ c (d.mono c) b q⟩
def Lf (te:TE3):TS3:=fun D a H=>te a H D.rt
def aN (d:PE3 X e te):PS3 X (.Return (some e) pos) (Lf te):=by
 refine PS.imp (NQ d) ?_;rintro D j H ⟨a,H3,i,c,b,h,g,f,_⟩;exact⟨a,H3,_,c,b,h,f⟩
def O5:TS3:=fun D _ H=>D.rt .non H
def Lg (c:TT3) (t u:TS3):TS3:=fun D a H=>c a H fun b d=>if b=true then t D a d else u D a d
def bA (s:PT3 X c tc) (p:jr X a t) (r:jr X b u):PS3 X (.If c a b pos) (Lg tc t u):=by
 refine PS.imp (Th s p r) ?_;rintro D v H ⟨e,H3,n,i,o,h,j,k,l,m⟩;refine⟨e,H3,_,i,o,h,fun b H' g d f q=>?_⟩;cases b with
 |true=>exact⟨e,g,n,i.mono d,f,q,j.at d,k.at d,l.at d,m.at d⟩
 |false=>exact⟨e,g,n,i.mono d,f,q,j.at d,k.at d,l.at d,m.at d⟩
def fB (i:Nat):TG3:=fun v a H Q=>Q (a.set i (some v)) H
def aD (d:X.N.Nodup) (g:X.N[i]?=some x:=by rfl) (f:Loc X.env.scope x:=by first | exact Or.inl rfl | exact Or.inr rfl) (a:X.fn x=true\/X.env.scope.names.lookup x=some .local:=by first | exact .inl rfl | exact .inr rfl | assumption):PG3 X (.Name x pos) (fB i):=by
 refine PG.imp (Hl d g f a) ?_;rintro v j H Q ⟨t,c,H3,l,r,e,b,h,k⟩;exact k _ _ _ _ .refl (e.set r) b h
def xH:nU:=fun ts a H Q=>match ts with
 |[]=>Q a H
 |_=>False
def je (t:TG3) (u:nU):nU:=fun ts b H Q=>match ts with
 |x::r=>t x b H fun a H'=>u r a H' Q
 |[]=>False
def bH:Ij X [] xH:=by
 refine PGs.imp Hm ?_;rintro vs d H Q ⟨ts,b,H3,e,r,c,a,h,k⟩;cases ts with
 |nil=>exact⟨r.inv0,k _ _ _ _ .refl c a h⟩
 |cons _ _=>exact h.elim
def aJ {t:TG3}{u:nU} (o:PG3 X e t) (p:Ij X b u) (n:(assignEach (e::b) X.env).map (·.2)=assign e X.env::(assignEach b X.env).map (·.2):=by rfl):Ij X (e::b) (je t u):=by
 refine PGs.imp (Aq o p n) ?_;rintro vs A H Q ⟨ts,c,H3,y,r,l,j,h,k⟩;cases ts with
 |nil=>exact h.elim
 |cons x ts =>
 obtain⟨v,s,rfl,w,m⟩:=r.inv;exact⟨v,s,rfl,x,c,H3,_,w,l,j,h,fun z H' a g i f d q=>⟨ts,a,g,y,m.mono i,f,d,q,k.at i⟩⟩
def xJ (n:Nat) (g:nU):TG3:=fun t a H Q=>match t with
 |.tup ts=>ts.length=n/\g ts a H Q
 |_=>False
def cg {k:Nat}{t:nU} (j:X.calm=true) (h:Ij X b t) (i:(assignEach b X.env).length=n:=by rfl) (d:(assignEach b X.env).findIdx? (·.1)=none:=by rfl):PG3 X (.Tuple b k pos) (xJ n t):=by
 refine PG.imp (NT j h i d) ?_;rintro v m H Q ⟨t,c,H3,l,r,g,f,h,k⟩;cases t with
 |tup ts=>obtain⟨a,xs,rfl,s,e⟩:=r.tup;exact⟨a,xs,rfl,s,by rw[<- e.length];exact h.1,ts,c,H3,l,e,g,f,h.2,k⟩
 |_=>exact h.elim
def xK (te:TE3) (g:TG3):TS3:=fun D a H=>te a H fun x b=>g x a b D.nx
def gZ (m:PE3 X e te) (j:PG3 X a g) (n:swapsWithSole [a] e pos.line X.env=pure false:=by rfl) (p:swappedStores [a] e X.env=pure none:=by rfl) (o:(assignEach [a] X.env).map (·.2)=[assign a X.env]:=by rfl):PS3 X (.Assign [a] e pos) (xK te g):=by
 refine PS.imp (N5 m j n p o) ?_;rintro D u H ⟨b,H3,s,i,k,h,l,_⟩;exact⟨b,H3,_,i,k,h,fun v H' t d f c r q=>⟨t,b,d,_,r,i.mono f,c,q,l.at f⟩⟩
def aG {a:Pos} (l:X.N.Nodup) (m:PE3 X e te) (s:X.N[i]?=some x:=by rfl) (o:Loc X.env.scope x:=by first | exact Or.inl rfl | exact Or.inr rfl) (n:swapsWith e (some (.Name x a)) pos.line X.env=pure false:=by rfl) (g:X.fn x=true\/X.env.scope.names.lookup x=some .local:=by first | exact .inl rfl | exact .inr rfl | assumption):
  PS3 X (.Assign [.Name x a] e pos) (xK te (fB i)):=by
 refine PS.imp (N6 l s o m n g) ?_;rintro D w H ⟨c,H3,u,f,j,h,k,_⟩;exact⟨c,H3,_,f,j,h,fun v H' t p d b r q=>k _ _ _ _ d ((f.mono d).set r) b q⟩
end
abbrev rR:=T->T->T->Hp3->(Hp3->Prop)->Prop
def O6 (K:Frag) (f:rR):Ao:=fun o i v H Q=>∃c d e H3 b,Rep K H c o/\Rep K H d i/\Rep K H e v/\SimH K H3 H/\f c d e H3 b/\∀H' a,TupLe K H H'->SimH K a H'->b a->Q H'
def Lh (X:Cx) (t:rR):Prop:=PSet X (O6 X.K t)
def PSet.imp (h:PSet X t) (w:∀o i v H Q,t' o i v H Q->t o i v H Q):PSet X t':=fun a s f H o i v g e u Q I c b d q=>h a s f H o i v g e u Q I c b d (w o i v H Q q)
def Li (b d:TE3) (t:rR):TG3:=fun v a H Q=>b a H fun o c=>d a c fun i e=>t o i v e fun H3=>Q a H3
def BJ (u:PE3 X o e) (C:PE3 X i d) (y:Lh X t) (x:∀v,assign (.Subscript o i pos) X.env v=(do
   let ov <- holding [v] (eval o X.env)
   let iv <- holding [v,ov] (eval i X.env)
   standAt pos
   holding [v,ov,iv] (setItem ov iv v)
   release [v,ov,iv] []):=by intro _;rfl):PG3 X (.Subscript o i pos) (Li e d t):=by
 refine PG.imp (NZ u C y x) ?_;rintro v I H Q ⟨t,c,H3,F,r,l,s,h,k⟩;exact⟨c,H3,_,l,s,h,fun o G e m b g z w=>⟨c,m,_,l.mono b,g,w,fun i E d n a j D B=>⟨e,d,t,n,_,z.mono a,D,r.mono (b.trans a),j,B,fun H' A p f q=>k _ _ _ _ (b.trans (a.trans p)) (l.mono (b.trans (a.trans p))) f q⟩⟩⟩
abbrev TI3:=St3->Hp3->(List T->(Hp3->Prop)->Hp3->Prop)->Prop
def jt (K:Frag) (J:It) (ts:List T) (still:Hp3->Prop) (H:Hp):Prop:=∀H' b,TupLe K H H'->SimH K b H'->still b ->
 (∀i,ts.length<=i->J.stop i H')/\∀i t,ts[i]?=some t->J.go i H'/\∀x a,J.yld i H' x a->TupLe K H' a/\SimH K b a/\Rep K a t x
def X3 (K:Frag) (c:TI3):TI:=fun d H R=>∃a H3 R3,SimS K H a d/\SimH K H3 H/\c a H3 R3/\∀J ts still H' b,TupLe K H H'->SimH K b H'->jt K J ts still H'->R3 ts still b->R J H'
def PI3 (X:Cx) (b a:Expr) (t:TI3):Prop:=PI X b a (X3 X.K t)
def PI.imp (h:PI X c e t) (w:∀a H R,t' a H R->t a H R):PI X c e t':=fun b s a H R I q=>h b s a H R I (w a H R q)
def cJ:Hp3->Prop:=fun _=>True
def bF (a:Addr) (ts:List T):Hp3->Prop:=fun H=>H a=some (.lst ts)\/H a=some (.rol ts)
def SimH.sqL {K:Frag} (s:SimH K H3 H) (h:bF a ts H3):∃xs,SqL K H a xs/\Reps K H ts xs:=by
 rcases h with h | h
 ·obtain⟨xs,e,r⟩:=s a _ h;exact⟨xs,.of e,r⟩
 obtain⟨xs,e,r⟩:=s a _ h;exact⟨xs,.inl e,r⟩
section
variable {tg l:Expr}{pos p:Pos}
def BK (d:TE3):TI3:=fun c H R=>d c H fun x b=>match x with
 |.ref a=>match b a with
  |some (.lst ts)=>R ts (bF a ts) b
  |some (.rol ts)=>R ts (bF a ts) b
  |_=>False
 |_=>False
def oW {K:Frag}:jt K (Itl K a) ts (bF a ts) H:=fun H' k l c st=>by
 obtain⟨xs,b,d⟩:=c.sqL st;have m:=d.length;refine⟨fun i n=>⟨xs,b,by omega⟩,fun i t e=>?_⟩;obtain⟨v,f,j⟩:=d.get e;refine⟨⟨xs,v,b,f⟩,fun x g y=>?_⟩;obtain⟨h,y⟩:=y;subst h;have:=y xs b;rw[f] at this;cases this;exact⟨.refl,c,j⟩
def bV (n:PE3 X l tl):PI3 X tg l (BK tl):=by
 refine PI.imp (Hn n) ?_;rintro p H R ⟨f,H3,R3,m,j,h,k⟩;refine⟨f,H3,_,m,j,h,fun v H' t b i c r q=>?_⟩;cases t with
 |ref a =>
  have d:(match b a with
   |some (.lst ts)=>R3 ts (bF a ts) b
   |some (.rol ts)=>R3 ts (bF a ts) b
   |_=>False):=q
  split at d
  ·
   rename_i ts e
   obtain⟨xs,g,o⟩:=c.sqL (.inl e)
   exact⟨a,r.ref,⟨xs,g⟩,k _ ts (bF a ts) H' b i c oW d⟩
  ·
   rename_i ts e
   obtain⟨xs,g,o⟩:=c.sqL (.inr e)
   exact⟨a,r.ref,⟨xs,g⟩,k _ ts (bF a ts) H' b i c oW d⟩
  ·
   exact d.elim
 |_=>exact q.elim
def Lj (c:TE3):TI3:=fun b H R=>c b H fun x a=>match x with
 |.tup ts=>R ts cJ a
 |_=>False
def BL {K:Frag} (c:SqT K H a xs) (d:Reps K H ts xs):jt K (Itt K a) ts cJ H:=fun H' l b g st=>by
 have m:=d.length;refine⟨fun i n=>⟨xs,b _ _ c,by omega⟩,fun i t e=>?_⟩;obtain⟨v,f,k⟩:=d.get e;refine⟨⟨xs,v,b _ _ c,f⟩,fun x h y=>?_⟩;obtain⟨j,y⟩:=y;subst j;have:=y xs (b _ _ c);rw[f] at this;cases this;exact⟨.refl,g,k.mono b⟩
def bJ (m:PE3 X l tl):PI3 X tg l (Lj tl):=by
 refine PI.imp (N8 m) ?_;rintro o H R ⟨b,H3,R3,j,g,h,k⟩;refine⟨b,H3,_,j,g,h,fun v H' t d i c r q=>?_⟩;cases t with
 |tup ts=>obtain⟨a,xs,e,f,n⟩:=r.tup;exact⟨a,e,⟨xs,f⟩,k _ ts cJ H' d i c (BL f n) q⟩
 |_=>exact q.elim
def d8 (a:Int) (n:Nat):List T:=(List.range n).map fun (i:Nat)=>T.int (a+i)
def rT {K:Frag}:jt K (Itr b n) (d8 b n) cJ H:=fun H' g j c st=>by
 refine⟨fun i a=>by unfold d8 at a;simp at a;exact a,fun i t e=>?_⟩;unfold d8 at e;rw[y_] at e;by_cases a:i<n
 ·rw[YK a] at e;cases e;refine⟨a,fun x d y=>?_⟩;obtain⟨f,h⟩:=y;subst f;subst h;exact⟨.refl,c,.ofInt⟩
 rw[P_ (by simpa using a)] at e;cases e
def BP (b:TA3):TI3:=fun c H R=>b c H fun vs a=>match vs with
 |[.int j]=>-(2^62)<=j/\j<2^62/\R (d8 0 j.toNat) cJ a
 |[.int i,.int j]=>(-(2^62)<=i/\i<2^62 /\ -(2^62)<=j/\j<2^62)/\R (d8 i (j - i).toNat) cJ a
 |_=>False
def cR (i:Gl X "range") (m:X.mg "range"=none) (o:PA3 X [a] f) (u:starEach [a] X.env=[(false,eval a X.env)]:=by rfl):PI3 X tg (.Call (.Name "range" p) [a] [] pos) (BP (fun g H Q=>f g H fun vs w=>vs.length=1/\Q vs w)):=by
 refine PI.imp (yZ i m o u) ?_;rintro g H R ⟨c,H3,R3,s,l,h,k⟩;refine⟨c,H3,_,s,l,h,fun vs H' ts d n b r q=>?_⟩;obtain⟨e,q⟩:=q;cases ts with
 |nil=>cases e
 |cons t ts =>
 cases ts with
 |cons _ _=>simp at e
 |nil =>
 cases t with
 |int j=>obtain⟨v,_,rfl,x,y⟩:=r.inv;rw[y.inv0,x.int];exact⟨j,rfl,q.1,q.2.1,k _ _ _ H' d n b rT q.2.2⟩
 |_=>exact q.elim
def zB {l:TA3} (t:Gl X "range") (A:X.mg "range"=none) (u:PA3 X [a,b] l) (x:starEach [a,b] X.env=[(false,eval a X.env),(false,eval b X.env)]:=by rfl) (g:starEach [b] X.env=[(false,eval b X.env)]:=by rfl):
  PI3 X tg (.Call (.Name "range" p) [a,b] [] pos) (BP (fun m H Q=>l m H fun vs y=>vs.length=2/\Q vs y)):=by
 refine PI.imp (za t A u x g) ?_;rintro m H R ⟨f,H3,R3,w,n,h,k⟩;refine⟨f,H3,_,w,n,h,fun vs H' ts e o c r q=>?_⟩;obtain⟨z,q⟩:=q
 match ts,z,r with
 |[t1,t2],_,r =>
 obtain⟨v,_,rfl,C,s⟩:=r.inv;obtain⟨D,_,rfl,d,B⟩:=s.inv;cases t1 with
 |int i =>
  cases t2 with
  |int j=>rw[B.inv0,C.int,d.int];exact⟨i,j,rfl,q.1,k _ _ _ H' e o c rT q.2⟩
  |_=>exact q.elim
 |_=>cases t2 <;> exact q.elim
end
def iter3 (g:TG3) (tb:TS3) (D:Ends3) (still:Hp3->Prop):List T->St3->Hp3->Prop
 |[],σ,H=>still H/\D.nx σ H
 |t::r,σ,H=>still H/\g t σ H fun a b=>tb { D with nx:=iter3 g tb D still r,ct:=iter3 g tb D still r,bk:=D.nx} a b
def iter3.st (h:iter3 g tb D still ts a H):still H:=by
 cases ts with
 |nil=>exact h.1
 |cons t r=>exact h.1
def Lk (c:TI3) (g:TG3) (tb:TS3):TS3:=fun D a H=>c a H fun ts still b=>iter3 g tb D still ts a b
def bc {V:TI3} (hp:PassesOwn (model X.prog X.w) X.A X.env X.xe) (hc:X.calm=true) (U:PI3 X tg iter V) (hg:PG3 X tg g) (hb:jr X n tb) (hs:∀x,foldedSetIterable iter X.env x=pure x:=by intro _;rfl):PS3 X (.For tg iter n [] pos) (Lk V g tb):=by
 refine PS.imp (Oa hp hc U hg hb hs) ?_;rintro D R H ⟨f,H3,F,Z,sh,h,k1,k2,k3,k4⟩;refine⟨f,H3,_,Z,sh,h,fun J ts still z Q E M wk q=>?_⟩;refine⟨fun i m R H=>∃f H3,TupLe X.K z H/\SimS X.K H f R/\SimH X.K H3 H/\m=ts.length - i/\i<=ts.length/\iter3 g tb F still (ts.drop i) f H3,⟨ts.length,f,Q,.refl,Z.mono E,M,rfl,Y7 _,by simpa using q⟩,?_⟩;rintro i m R H ⟨I,W,o,C,t,rfl,U,it⟩;have w:=wk H W o t it.st;by_cases p:i<ts.length
 ·have e:=g_ p;have ed:ts.drop i=ts[i]::ts.drop (i+1):=List.drop_eq_getElem_cons p;rw[ed] at it;obtain⟨st,it⟩:=it;obtain⟨go,yl⟩:=w.2 i _ e;refine .inr ⟨go,fun j H'=>∃f H3,TupLe X.K z H'/\SimS X.K H' f j/\SimH X.K H3 H'/\iter3 g tb F still (ts.drop (i+1)) f H3,fun j H' ⟨s5,h5,a,b,c,d⟩=>⟨ts.length - (i+1),by omega,s5,h5,a,b,c,rfl,p,d⟩,fun x H' y=>?_⟩;obtain⟨v,G,rx⟩:=yl x H' y;refine⟨ts[i],I,W,_,rx,C.mono v,G,it,fun σ2 L r S N T O q2=>?_⟩;have k:TupLe X.K z L:=o.trans (v.trans N);have Y:∀(B:TupLe X.K z L),KS3 X.K L (iter3 g tb F still (ts.drop (i+1))) (fun j H'=>∃f H3,TupLe X.K z H'/\SimS X.K H' f j/\SimH X.K H3 H'/\iter3 g tb F still (ts.drop (i+1)) f H3) :=
   fun B j H' u P l s h q=>⟨u,P,B.trans l,s,h,q⟩
  exact⟨r,S,_,T,O,q2,Y k,k2.at (E.trans k),k1.at (E.trans k),Y k⟩
 have e:i=ts.length:=by omega
 subst e;rw[List.drop_length] at it;exact .inl ⟨w.1 _ (l_ _),k1 _ _ _ _ (E.trans o) C t it.2⟩
def xM (c:TT3) (tb:TS3):TS3:=fun D d H=>∃W:Nat->St3->Hp3->Prop,(∃m,W m d H)/\∀m d H,W m d H ->
 c d H fun b f=>if b=true then tb { D with nx:=fun a H'=>∃e,e<m/\W e a H',ct:=fun a H'=>∃e,e<m/\W e a H',bk:=D.nx} d f else D.nx d f
def ju (M:PassesOwn (model X.prog X.w) X.A X.env X.xe) (P:PT3 X c v) (I:jr X g tb):PS3 X (.While c g [] pos) (xM v tb):=by
 refine PS.imp (Ar M P I) ?_;rintro D R H ⟨a,H3,U,J,z,⟨W,⟨C,L⟩,p⟩,y,E,S,T⟩;refine⟨fun m d H'=>∃a H3,TupLe X.K H H'/\SimS X.K H' a d/\SimH X.K H3 H'/\W m a H3,⟨C,a,H3,.refl,J,z,L⟩,?_⟩;rintro m B Q ⟨i,u,f,k,r,N⟩;refine⟨i,u,_,k,r,p m i u N,fun b F G e n q=>?_⟩;cases b with
 |true =>
  rw[if_pos rfl] at q ⊢;have x:KS3 X.K F (fun d H'=>∃j,j<m/\W j d H') (fun d H'=>∃j,j<m/\∃a H3,TupLe X.K H H'/\SimS X.K H' a d/\SimH X.K H3 H'/\W j a H3) :=
   fun d H' o t l s h ⟨j,O,w⟩=>⟨j,O,o,t,f.trans (e.trans l),s,h,w⟩
  exact⟨_,fun d H' h=>h,i,G,_,k.mono e,n,q,x,E.at (f.trans e),y.at (f.trans e),x⟩
 |false =>
 rw[if_neg J_] at q ⊢;exact y _ _ _ _ (f.trans e) (k.mono e) n q
def Ik (X:Cx) (a:List Expr) (t:TT3):Prop:=PIf X a (zz X.K t)
def xN:TT3:=fun _ H Q=>Q true H
def cB:Ik X [] xN:=fun a s d H Q I ⟨c,H3,f,e,b,h,k⟩=>Ia a s d H Q I (k _ _ _ .refl b h)
def dZ (h:PT3 X c t):Ik X [c] t:=Ib h
def qb (nt:Nat) (cap:List Nat) (a:St3):St3:=List.replicate nt none++cap.map fun j=>(a[j]?).getD none
def xO {K:Frag} (s:SimS K H a d):SimS K H (qb nt cap a) (nR nt cap d):=by
 refine⟨by simp [qb,nR],fun i t e=>?_⟩;unfold qb at e;unfold nR;by_cases c:i<nt
 ·rw[YQ (by simpa using c),Z_] at e;split at e <;> cases e
 rw[Yx (by simpa using c),y_] at e;rw[Yx (by simpa using c),y_];simp only[YX] at e ⊢;cases q:cap[i - nt]? with
 |none=>rw[q] at e;cases e
 |some j =>
 rw[q] at e;have b:(a[j]?).getD none=some t:=O_ e;have f:a[j]?=some (some t):=by
  cases z:a[j]? with
  |none=>rw[z] at b;cases b
  |some y=>rw[z] at b;exact W_ some b
 obtain⟨v,g,r⟩:=s.at' j t f;exact⟨v,by simp [g],r⟩
def cIter3 (g:TG3) (tt:TT3) (te:TE3) (still:Hp3->Prop) (c:List T->Hp3->Prop):List T->List T->St3->Hp3->Prop
 |[],ys,σ,H=>still H/\ys.length<=sizeLine/\c ys H
 |t::r,ys,σ,H=>still H/\g t σ H fun a e=>tt a e fun b H3=>if b=true then te a H3 fun y d=>ys.length<sizeLine/\cIter3 g tt te still c r (ys++[y]) a d else cIter3 g tt te still c r ys a H3
def cIter3.st (h:cIter3 g tt te still a ts c b H):still H:=by
 cases ts with
 |nil=>exact h.1
 |cons t r=>exact h.1
def BR {K:Frag} (S:jt K J ts still r) (ss:SimS K r c B) (W:SimH K p r) (h:cIter3 g tt te still d ts [] c p) (U:∀o us H' H3',TupLe K r H'->SimH K H3' H'->Reps K H' o us->d o H3'->u us H'):xF J (Ii K g) (zz K tt) (lft K te) u B r:=by
 refine⟨fun i m us B H=>∃c H3 o,TupLe K r H/\SimS K H c B/\SimH K H3 H/\Reps K H o us/\m=ts.length - i/\i<=ts.length/\cIter3 g tt te still d (ts.drop i) o c H3,⟨ts.length,c,p,[],.refl,ss,W,.nil,rfl,Y7 _,by simpa using h⟩,?_⟩;rintro i m us B H ⟨G,Q,o,j,O,z,C,rfl,hi,it⟩;have w:=S H Q j z it.st;by_cases l:i<ts.length
 ·have e:=g_ l;have ed:ts.drop i=ts[i]::ts.drop (i+1):=List.drop_eq_getElem_cons l;rw[ed] at it;obtain⟨st,it⟩:=it;obtain⟨Y,yl⟩:=w.2 i _ e;refine .inr ⟨Y,fun x H' y=>?_⟩;obtain⟨A,F,X⟩:=yl x H' y;refine⟨ts[i],G,Q,_,X,O.mono A,F,it,fun Z H2 a P M n N q2=>?_⟩;refine⟨a,P,_,n,N,q2,fun b H3 s f D E=>?_⟩;have k:TupLe K H H3:=A.trans (M.trans f);cases b with
  |true=>rw[if_pos rfl] at E;refine XM ?_;refine⟨a,s,_,n.mono f,D,E,fun v H5 t I q L rt R=>⟨by rw[<- C.length];exact R.1,ts.length - (i+1),by omega,a,I,o++[t],j.trans (k.trans q),n.mono (f.trans q),L,(C.mono (k.trans q)).append (.cons rt .nil),rfl,l,R.2⟩⟩
  |false =>
  rw[if_neg J_] at E;refine XJ ?_;exact⟨ts.length - (i+1),by omega,a,s,o,j.trans k,n.mono f,D,C.mono k,rfl,l,E⟩
 have e:i=ts.length:=by omega
 subst e;rw[List.drop_length] at it;exact .inl ⟨w.1 _ (l_ _),by rw[<- C.length];exact it.2.1,U _ _ _ _ j z C it.2.2⟩
def BV (c:TI3) (g:TG3) (tt:TT3) (te:TE3) (nt:Nat) (cap:List Nat):TE3:=fun a H Q=>c a H fun ts still b=>cIter3 g tt te still (fun d H'=>∀p,H' p=none->Q (.ref p) (up3 H' p (.lst d))) ts [] (qb nt cap a) b
def oX (c:TI3) (g:TG3) (tt:TT3) (te:TE3) (nt:Nat) (cap:List Nat) (i:Nat):TS3:=fun D a H=>c a H fun ts still b=>cIter3 g tt te still (fun d H'=>∀p,H' p=none->D.nx (a.set i (some (.ref p))) (up3 H' p (.lst d))) ts [] (qb nt cap a) b
section
variable {pos pos' spos:Pos}
def bO (m:X.calm=true) (S:CompSc X N' nt cap scope) (w:PI3 X tg iter wi)
  (o:∀cl pins s H C fp,PG3 (bU X N' scope cl pins s H C fp) tg g/\Ik (bU X N' scope cl pins s H C fp) ifs tt/\PE3 (bU X N' scope cl pins s H C fp) elt te)
  (r:∀x,foldedSetIterable iter X.env x=pure x:=by intro _;rfl):PE3 X (.ListComp elt [⟨tg,iter,ifs,0⟩] scope pos) (BV wi g tt te nt cap):=by
 refine PE.imp (Ig (g:=Ii X.K g) (tt:=zz X.K tt) (te:=lft X.K te) m S w o r) ?_;rintro B H Q ⟨e,H3,z,i,j,h,k⟩;refine⟨e,H3,_,i,j,h,fun J ts still A u f b l q=>?_⟩;exact BR l (xO (i.mono f)) b q fun y us H' t c a v n p d=>k _ _ _ _ (f.trans (c.trans (aO d))) (a.newLst d v) .ofRef (n p (a.fresh d))
def iD (t:X.calm=true) (r:X.N.Nodup) (S:CompSc X N' nt cap scope) (F:PI3 X tg iter wi) (w:∀cl pins s H C fp,PG3 (bU X N' scope cl pins s H C fp) tg g/\Ik (bU X N' scope cl pins s H C fp) ifs tt/\PE3 (bU X N' scope cl pins s H C fp) elt te) (e:X.N[i]?=some x:=by rfl) (u:Loc X.env.scope x:=by first | exact Or.inl rfl | exact Or.inr rfl) (d:swapsWith (.ListComp elt [⟨tg,iter,ifs,0⟩] scope pos) (some (.Name x pos')) spos.line X.env=pure true:=by rfl) (y:∀x,foldedSetIterable iter X.env x=pure x:=by intro _;rfl) (m:X.fn x=true\/X.env.scope.names.lookup x=some .local:=by first | exact .inl rfl | exact .inr rfl | assumption):
  PS3 X (.Assign [.Name x pos'] (.ListComp elt [⟨tg,iter,ifs,0⟩] scope pos) spos) (oX wi g tt te nt cap i):=by
 refine PS.imp (Ih (g:=Ii X.K g) (tt:=zz X.K tt) (te:=lft X.K te) t r e u S F w d y m) ?_;rintro D L H ⟨l,H3,M,k,o,h,E,_⟩;refine⟨l,H3,_,k,o,h,fun J ts still I A f j n q=>?_⟩;exact BR n (xO (k.mono f)) j q fun G us H' z b a B v p c =>
  E _ _ _ _ (f.trans (b.trans (aO c))) ((k.mono (f.trans (b.trans (aO c)))).set .ofRef) (a.newLst c B) (v p (a.fresh c))
end
abbrev Sp3:=List T->Hp3->VK3->Prop
def rW (K:Frag) (sp:Sp3):Sp:=fun vs H Q _=>∃ts H3 a,Reps K H ts vs/\SimH K H3 H/\sp ts H3 a/\KV3 K H a Q
def Sub3 (H H':Hp3):Prop:=∀a o,H a=some o->H' a=some o
def Sub3.refl:Sub3 H H:=fun _ _ h=>h
def Sub3.trans (a:Sub3 H d) (b:Sub3 d e):Sub3 H e:=fun c o h=>b c o (a c o h)
def Sub3.new (h:H p=none):Sub3 H (up3 H p o):=fun a u e=>by rw[aF (bz e h)];exact e
def SimH.sub {K:Frag} (s:SimH K b H) (h:Sub3 H3 b):SimH K H3 H:=fun a o e=>s a o (h a o e)
def Fin3 (Q:VK3):VK3:=fun v H=>∃H',Sub3 H' H/\Q v H'
def Fin3.of (h:Sub3 H' H) (q:Q v H'):Fin3 Q v H:=⟨H',h,q⟩
def aQ (N:List Str) (ts:List T):St3:=ts.map some++List.replicate (N.length - ts.length) none
def oY {K:Frag} (r:Reps K H ts vs):SimS K H (aQ N ts) (L2.start N vs):=by
 refine⟨by simp [aQ,L2.start,r.length],fun i t e=>?_⟩;unfold aQ at e;unfold L2.start;have d:=r.length;by_cases a:i<ts.length
 ·rw[YQ (by simpa using a),y_] at e;rw[YQ (by rw[e_];omega),y_];cases q:ts[i]? with
  |none=>rw[q] at e;cases e
  |some u =>
  rw[q] at e;cases e;obtain⟨v,c,b⟩:=r.get q;exact⟨v,by rw[c];rfl,b⟩
 rw[Yx (by simpa using a),Z_] at e;split at e <;> cases e
section
variable {p pos:Pos}
def kI (P:Program) (w:World) (K:Frag) (a:Str->Option Value) (base:Heap) (k:Nat) (f:Addr) (b:FuncData) (c:List Str) (sp:Sp3):Prop:=FnOk P w K a base CX0 k f b c (rW K sp)
def qd (sp:Sp3) (t:TA3):TE3:=fun b H Q=>t b H fun vs a=>sp vs a Q
def Il (F:kI X.prog X.w X.K X.mg X.base k f fd ps sp) (m:Room k X.A) (i:Gl X x) (l:X.mg x=some (.ref f)) (y:keepIn X.K (.ref f)=true) (v:Binds X.K fd ps [])
  (n:PA3 X (e::es) t) (a:(x==("__debug__":Str))=false:=by decide) (u:starEach (e::es) X.env=(false,eval e X.env)::starEach es X.env:=by rfl) (g:(backTo pos (starEach es X.env)).any (·.1)=false:=by rfl) :
  PE3 X (.Call (.Name x p) (e::es) [] pos) (qd sp t):=by
 refine PE.imp (Hz (dvs:=[]) (E:=E0) F m i l y v .nil Bm n a u g) ?_;rintro B H Q ⟨c,H3,z,o,j,h,k⟩;refine⟨c,H3,_,o,j,h,fun vs H' ts d s b r q=>?_⟩;show rW X.K sp (vs++[]) H' Q E0;rw[S_];exact⟨ts,d,z,r,b,q,k.at s⟩
def fn3 {K:Frag}{st:Stmt} (F:Fun K x a st f fd) (S:FnScope N ps (aC st)) (g:∀ts H Q,sp ts H Q->ts.length=ps.length) (d:∀(b:Value) (A:Around) (outer:List Env) (s:Shared) (H:Hp) (E:XK) (ts:List T) (H3:Hp3) (Q:VK3),Room k (A.deeper (envOfC a (aC st) s.heap.objs.size f b))->sp ts H3 Q ->
   ∃t,jr (mq CX0 P w K l base N a (aC st) f b A outer s H E).nox (cA st) t/\t { nx:=fun _ H'=>Fin3 Q .non H',rt:=Fin3 Q} (aQ N ts) H3):kI P w K l base (k+1) f fd ps sp:=by
 refine F.ok S (fun vs H Q E ⟨ts,H3,m,r,j,q,k⟩=>by rw[<- r.length];exact g _ _ _ q) fun b A outer s H vs Q E B ⟨ts,H3,m,r,j,q,k⟩=>?_;obtain⟨t,p,y⟩:=d b A outer s H E ts H3 m B q;exact⟨_,p,aQ N ts,H3,_,oY r,j,y,fun D H' n h e u c ⟨o,i,q⟩=>k _ _ _ _ e (c.sub i) .ofNon q,fun v H' t h e c C ⟨o,i,q⟩=>k _ _ _ _ e (c.sub i) C q,fun _ _ _ _ _ _ _ z=>z,fun _ _ _ _ _ _ _ z=>z⟩
end
noncomputable instance:DecidableEq T:=fun a b=>Classical.propDecidable (a=b)
def pl:Nat->T->Bool
 |_,.non=>true
 |_,.int _=>true
 |_,.str _=>true
 |d+1,.tup ts=>ts.all (pl d)
 |_,_=>false
section
variable {X:Cx}{pins:List (Addr × Obj)}{σ:L2.St}{H:Hp}{s:Shared}
def xP (I:Inv X pins σ H s):∀(d:Nat) (x y:T) (v:V),pl d x=true->pl d y=true->Rep X.K H x v->Rep X.K H y v->x=y:=by
 intro d;induction d with
 |zero =>
  intro x y v i g c f;cases x <;> cases y <;> first
   |rfl
   | (simp only[Rep] at c f;subst c;cases f <;> rfl)
   | (simp [pl] at i;done)
   | (simp [pl] at g;done)
 |succ d p =>
 intro x y v i g c f;cases x with
 |tup ts =>
  cases y with
  |tup us =>
   obtain⟨a,xs,rfl,w,r⟩:=c.tup;obtain⟨b,A,e,l,n⟩:=f.tup;cases e;have:=I.tuple_inj w l;subst this;simp only[pl,Zx] at i g;congr 1;have key:∀(ts us:List T) (xs:List V),(∀t∈ts,pl d t=true)->(∀t∈us,pl d t=true)->Reps X.K H ts xs->Reps X.K H us xs->ts=us:=by
    intro ts;induction ts with
    |nil =>
     intro us xs _ _ h h';rw[h.inv0] at h';cases us with
     |nil=>rfl
     |cons u us=>obtain⟨_,_,e,_⟩:=h'.inv;cases e
    |cons t ts j =>
    intro us xs p1 m h h';obtain⟨v,r,rfl,a,b⟩:=h.inv;cases us with
    |nil=>exact absurd h'.inv0 (by simp)
    |cons u us =>
    obtain⟨z,n,e,o,q⟩:=h'.inv;cases e;rw[p t u v (p1 t k_) (m u k_) a o,j us r (fun t k=>p1 t (q_ _ k)) (fun t k=>m t (q_ _ k)) b q]
   exact key ts us xs i g r n
  |_=>first | (simp only[Rep] at c f;obtain⟨a,xs,e,_⟩:=c;subst e;cases f;done) | (simp [pl] at g;done)
 |_=>cases y <;> first
  |rfl
  | (simp only[Rep] at c f;subst c;cases f <;> rfl)
  | (simp [pl] at i;done)
  | (simp [pl] at g;done)
  | (simp only[Rep] at c f;obtain⟨a,xs,e,_⟩:=f;subst e;cases c;done)
def units_in1 (A:Around):A.in1.units=A.units+1:=by rfl
def mG {a:Type} [DecidableEq (Option a)] (ts us:List a):((List.range (min ts.length us.length)).all (fun j=>decide (ts[j]?=us[j]?))&&ts.length==us.length)=true↔ts=us:=by
 rw[YD,Zx,Zt];constructor
 ·rintro⟨h,b⟩;refine aar fun i=>?_;by_cases c:i<ts.length
  ·exact Za (h i (YF.mpr (by omega)))
  rw[P_ (by omega),P_ (by omega)]
 rintro rfl;exact⟨fun i _=>by simp,rfl⟩
def Im {us:List Value} (h:i<us.toArray.size) (e:us[i]?=some v):us.toArray[i]=v:=by
 have:us.toArray[i]?=some v:=by simpa using e
 rw[aao h] at this;exact O_ this
def xQ (I:Inv X pins σ H s):∀(d:Nat) (A:Around) (x y:T) (m l:V) (u v:Value),pl d x=true->pl d y=true->Rep X.K H x m->Rep X.K H y l->RelV m u->RelV l v->A.units+d<cLine->SeqAt.EqAt A s u v (decide (x=y)):=by
 have mj:∀(A:Around) (x y:T) (m l:V) (u v:Value),pl 0 x=true->pl 0 y=true->Rep X.K H x m->Rep X.K H y l->RelV m u->RelV l v->SeqAt.EqAt A s u v (decide (x=y)):=by
  intro A x y m l u v z q g c k f;cases x with
  |non =>
   cases g.non;cases k;cases y with
   |non=>cases c.non;cases f;simp only[ZG];exact SeqAt.EqAt.same _
   |int j=>cases c.int;obtain⟨t',rfl⟩:=f;rw[H_ (by simp)];exact SeqAt.EqAt.none_int _ _
   |str j=>cases c.str;obtain⟨t',rfl⟩:=f;rw[H_ (by simp)];exact SeqAt.EqAt.none_str _ _
   |_=>simp [pl] at q
  |int i =>
   cases g.int;obtain⟨t,rfl⟩:=k;cases y with
   |non=>cases c.non;cases f;rw[H_ (by simp)];exact SeqAt.EqAt.int_none _ _
   |int j=>cases c.int;obtain⟨t',rfl⟩:=f;rw[show decide (T.int i=T.int j)=(i==j) by by_cases h:i=j <;> simp [h]];exact aa4 _ _ _ _
   |str j=>cases c.str;obtain⟨t',rfl⟩:=f;rw[H_ (by simp)];exact SeqAt.EqAt.int_str _ _ _ _
   |_=>simp [pl] at q
  |str i =>
   cases g.str;obtain⟨t,rfl⟩:=k;cases y with
   |non=>cases c.non;cases f;rw[H_ (by simp)];exact SeqAt.EqAt.str_none _ _
   |int j=>cases c.int;obtain⟨t',rfl⟩:=f;rw[H_ (by simp)];exact SeqAt.EqAt.str_int _ _ _ _
   |str j=>cases c.str;obtain⟨t',rfl⟩:=f;rw[show decide (T.str i=T.str j)=(i==j) by by_cases h:i=j <;> simp [h]];exact SeqAt.EqAt.str_str _ _ _ _
   |_=>simp [pl] at q
  |_=>simp [pl] at z
 intro d;induction d with
 |zero=>intro A x y m l u v z q g c k f _;exact mj A x y m l u v z q g c k f
 |succ d R =>
 intro A x y m l u v z q g c k f hu;have o:A.units<cLine:=by omega
 cases x with
 |tup ts =>
  obtain⟨a,xs,rfl,M,r⟩:=g.tup;cases k;obtain⟨B,E,F,_⟩:=I.tuple M;cases y with
  |tup us =>
   obtain⟨b,J,rfl,n,C⟩:=c.tup;cases f;obtain⟨its',w,p,_⟩:=I.tuple n;by_cases D:a=b
   ·subst D;have e:T.tup ts=T.tup us:=xP I (d+1) _ _ (.ref a) z q (.ofTup M r) (.ofTup n C);rw[e,L_ rfl];exact SeqAt.EqAt.same _
   have l1:=r.length;have Q:=C.length;have l3:=E.length;have U:=w.length;have key:=SeqAt.RcAt.tuples (A:=A) (s:=s) (e:=fun j=>decide (ts[j]?=us[j]?)) (show s.heap.IsTuple a B.toArray from F) (show s.heap.IsTuple b its'.toArray from p) o (fun j h1 O=>by
    rw[t_] at h1 O
    have L:j<ts.length:=by omega
    have G:j<us.length:=by omega
    obtain⟨p1,e1,Y⟩:=r.get (g_ L)
    obtain⟨p2,e2,q2⟩:=C.get (g_ G)
    obtain⟨S,N,w1⟩:=E.get e1
    obtain⟨P,W,w2⟩:=w.get e2
    rw[Im _ N,Im _ W,g_ L,g_ G]
    simp only[pl,Zx] at z q
    have:=R A.in1 ts[j] us[j] p1 p2 S P (z _ (Y4 L)) (q _ (Y4 G)) Y q2 w1 w2 (by rw[units_in1];omega)
    rw[show decide (some ts[j]=some us[j])=decide (ts[j]=us[j]) by by_cases h:ts[j]=us[j] <;> simp [h]]
    exact this)
   have Z:((List.range (min B.toArray.size its'.toArray.size)).all (fun j=>decide (ts[j]?=us[j]?))&&B.toArray.size==its'.toArray.size)=decide (T.tup ts=T.tup us):=by
    rw[t_,t_,<- l3,<- l1,<- U,<- Q,YH,mG,m_];constructor
    ·rintro rfl;rfl
    intro h;injection h
   rw[Z] at key;exact .of_refs D key
  |non=>cases c.non;cases f;rw[H_ (by simp)];exact SeqAt.EqAt.tuple_none F o
  |int j=>cases c.int;obtain⟨t',rfl⟩:=f;rw[H_ (by simp)];exact SeqAt.EqAt.tuple_int _ _ F o
  |str j=>cases c.str;obtain⟨t',rfl⟩:=f;rw[H_ (by simp)];exact SeqAt.EqAt.tuple_str _ _ F o
  |_=>simp [pl] at q
 |non =>
  cases y with
  |tup us=>obtain⟨b,J,rfl,n,C⟩:=c.tup;cases f;obtain⟨its',w,p,_⟩:=I.tuple n;cases g.non;cases k;rw[H_ (by simp)];exact SeqAt.EqAt.none_tuple p o
  |non=>exact mj A _ _ m l u v rfl rfl g c k f
  |int j=>exact mj A _ _ m l u v rfl rfl g c k f
  |str j=>exact mj A _ _ m l u v rfl rfl g c k f
  |_=>simp [pl] at q
 |int i =>
  cases y with
  |tup us=>obtain⟨b,J,rfl,n,C⟩:=c.tup;cases f;obtain⟨its',w,p,_⟩:=I.tuple n;cases g.int;obtain⟨t,rfl⟩:=k;rw[H_ (by simp)];exact SeqAt.EqAt.int_tuple _ _ p o
  |non=>exact mj A _ _ m l u v rfl rfl g c k f
  |int j=>exact mj A _ _ m l u v rfl rfl g c k f
  |str j=>exact mj A _ _ m l u v rfl rfl g c k f
  |_=>simp [pl] at q
 |str i =>
  cases y with
  |tup us=>obtain⟨b,J,rfl,n,C⟩:=c.tup;cases f;obtain⟨its',w,p,_⟩:=I.tuple n;cases g.str;obtain⟨t,rfl⟩:=k;rw[H_ (by simp)];exact SeqAt.EqAt.str_tuple _ _ p o
  |non=>exact mj A _ _ m l u v rfl rfl g c k f
  |int j=>exact mj A _ _ m l u v rfl rfl g c k f
  |str j=>exact mj A _ _ m l u v rfl rfl g c k f
  |_=>simp [pl] at q
 |_=>simp [pl] at z
end
def rI3 (C:Int->Int->Prop) (g:Int->Int->T):R3:=fun x y H Q=>match x,y with
 |.int i,.int j=>C i j/\Q (g i j) H
 |_,_=>False
def rY (g:Int->Int->T):R3:=fun x y H Q=>match x,y with
 |.int i,.int j=>Q (g i j) H
 |_,_=>False
section
variable {X:Cx}
def Io (h:OpR X f (rI C g')) (a:∀i j H,Rep X.K H (g i j) (g' i j)):dM X f (rI3 C g):=by
 refine OpR.imp h ?_;rintro x y H Q ⟨d,c,H3,m,e,l,b,h,k⟩;cases d with
 |int i =>
  cases c with
  |int j=>exact⟨i,j,e.int,l.int,h.1,k _ _ _ _ .refl b (a i j H) h.2⟩
  |_=>exact h.elim
 |_=>exact h.elim
def oZ (h:OpR X f (rI0 g')) (a:∀i j H,Rep X.K H (g i j) (g' i j)):dM X f (rY g):=by
 refine OpR.imp h ?_;rintro x y H Q ⟨d,c,H3,m,e,l,b,h,k⟩;cases d with
 |int i =>
  cases c with
  |int j=>exact⟨i,j,e.int,l.int,k _ _ _ _ .refl b (a i j H) h⟩
  |_=>exact h.elim
 |_=>exact h.elim
def BW (_ j:Int):Prop:=0<j/\j.natAbs.log2<9000
def BX:OpR X (binaryOp .FloorDiv) (rI BW fun i j=>.int (i / j)):=opI fun i j _ _ _ _ _ a q=>by
 have e:i / j=i.fdiv j:=(Int.fdiv_eq_ediv_of_nonneg i (Int.le_of_lt a.1)).symm;rw[e] at q;exact floordiv_int (Int.ne_of_gt a.1) q (.inl (PyProof.noPylong_of_log2 a.2))
def qe:dM X (binaryOp .Sub) (rY fun i j=>.int (i - j)):=oZ Od fun _ _ _=>.ofInt
def bD:dM X (binaryOp .FloorDiv) (rI3 BW fun i j=>.int (i / j)):=Io BX fun _ _ _=>.ofInt
def aZ:dM X (binaryOp .Mod) (rI3 (fun _ j=>0<j) fun i j=>.int (i%j)):=Io Og fun _ _ _=>.ofInt
def jf:dM X (binaryOp .Pow) (rI3 Tu fun i j=>.int (i^j.toNat)):=Io Oh fun _ _ _=>.ofInt
def xR:dM X (compareOp .LtE) (rY fun i j=>.bl (decide (i<=j))):=oZ Tw fun _ _ _=>.ofBl
def rZ:dM X (compareOp .Gt) (rY fun i j=>.bl (decide (j<i))):=oZ Tz fun _ _ _=>.ofBl
def Ul:dM X (compareOp .GtE) (rY fun i j=>.bl (decide (j<=i))):=oZ TF fun _ _ _=>.ofBl
def di:dM X (binaryOp .Mult) (rI3 CMul fun i j=>.int (i*j)):=Io Oe fun _ _ _=>.ofInt
def sr:R3:=fun x y H Q=>match x,y with
 |.int i,.int j=>Q (.int (i+j)) H
 |.str i,.str j=>i.length+j.length<=sizeLine/\Q (.str (i++j)) H
 |.ref a,.ref b=>match H a,H b with
  |some (.lst xs),some (.lst ys)=>xs.length+ys.length<=sizeLine/\∀p,H p=none->Q (.ref p) (up3 H p (.lst (xs++ys)))
  |_,_=>False
 |.tup xs,.tup ys=>xs.length+ys.length<=sizeLine/\Q (.tup (xs++ys)) H
 |_,_=>False
def BZ:OpR X (binaryOp .Add) (fun x y H Q=>∃a b l,x=.ref a/\y=.ref b/\SqT X.K H a []/\SqT X.K H b l/\Q (.ref b) H):=by
 intro r s N H x y v u Q I z J h;obtain⟨a,b,l,rfl,rfl,G,D,q⟩:=h;cases z;cases J;obtain⟨E,B,p1,_⟩:=I.tuple G;obtain⟨e,O,L,_⟩:=I.tuple D;cases B;obtain⟨⟨C,M,o,A⟩,k,t,n,m⟩:=id p1;obtain⟨⟨p,i,j,g⟩,d,c,w,f⟩:=id L;simp only at t m c f;subst t m c f;exact concat_meets ⟨_,k,rfl⟩ ⟨_,d,rfl⟩ noFill_tuple_add seq_tuple_add PySem.F.slot_tuple_add PySem.F.entry_tuple_add (aaV _ _)
   (tuple_addW0 a b _ e.toArray n w M i A g (by simp)) ⟨k,d,⟨.ref b,H,I,rfl,q⟩⟩
def bB:dM X (binaryOp .Add) sr:=by
 refine OpR.imp (op_add.or (op_add_str.or (op_cat.or (op_catT.or BZ)))) ?_;rintro x y H Q ⟨A,m,H3,B,n,o,c,h,k⟩;cases A with
 |int i =>
  cases m with
  |int j=>exact .inl ⟨i,j,n.int,o.int,k _ _ _ _ .refl c .ofInt h⟩
  |_=>exact h.elim
 |str i =>
  cases m with
  |str j=>exact .inr (.inl ⟨i,j,n.str,o.str,h.1,k _ _ _ _ .refl c .ofStr h.2⟩)
  |_=>exact h.elim
 |ref a =>
  cases m with
  |ref b =>
   have h':(match H3 a,H3 b with
    |some (.lst xs),some (.lst l)=>xs.length+l.length<=sizeLine/\∀p,H3 p=none->B (.ref p) (up3 H3 p (.lst (xs++l)))
    |_,_=>False):=h
   split at h'
   ·
    rename_i xs l C D
    obtain⟨vs,z,d⟩:=c a _ C
    obtain⟨ws,v,g⟩:=c b _ D
    refine .inr (.inr (.inl ⟨a,b,vs,ws,n.ref,o.ref,z,v,by rw[<- d.length,<- g.length];exact h'.1,fun p f=>?_⟩))
    exact k _ _ _ _ (aO f) (c.newLst f (d.append g)) .ofRef (h'.2 p (c.fresh f))
   ·
    exact h'.elim
  |_=>exact h.elim
 |tup xs =>
  cases m with
  |tup l =>
   obtain⟨a,vs,rfl,r,d⟩:=n.tup;obtain⟨b,ws,rfl,s,g⟩:=o.tup;by_cases t:vs=[]
   ·subst t;have w:xs=[]:=Zz d.length;subst w;exact .inr (.inr (.inr (.inr ⟨a,b,ws,rfl,rfl,r,s,k _ _ _ _ .refl c (.ofTup s g) h.2⟩)))
   refine .inr (.inr (.inr (.inl ⟨a,b,vs,ws,rfl,rfl,r,s,t,by rw[<- d.length,<- g.length];exact h.1,fun u=>?_,fun u p f=>?_⟩)))
   ·have e:l=[]:=by have:=g.length;rw[u] at this;exact Zz this
    have q:=h.2;rw[e,S_] at q;exact k _ _ _ _ .refl c (.ofTup r d) q
   exact k _ _ _ _ (aO f) (c.new f) (SimH.newTup (H3:=H3) f (d.append g)) h.2
  |_=>exact h.elim
 |_=>exact h.elim
variable {pins:List (Addr × Obj)}{σ:L2.St}{H:Hp}{s:Shared}
def su (c:Bool):R3:=fun x y H Q=>match x,y with
 |.int i,.int j=>Q (.bl (if c then !decide (i=j) else decide (i=j))) H
 |.str i,.str j=>Q (.bl (if c then !decide (i=j) else decide (i=j))) H
 |.bl i,.bl j=>Q (.bl (if c then !decide (i=j) else decide (i=j))) H
 |.non,.non=>Q (.bl (if c then false else true)) H
 |.tup xs,.tup ys=>xs.all (pl 20)=true/\ys.all (pl 20)=true/\Q (.bl (if c then !decide (xs=ys) else decide (xs=ys))) H
 |.ref a,.ref b=>match H a,H b with
  |some (.lst xs),some (.lst ys)=>a≠b/\xs.all (pl 20)=true/\ys.all (pl 20)=true/\Q (.bl (if c then !decide (xs=ys) else decide (xs=ys))) H
  |_,_=>False
 |_,_=>False
def sy (I:Inv X pins σ H s) {A:Around} (C:A.units+30<cLine) (l:ts.all (pl 20)=true) (f:us.all (pl 20)=true) (r:Reps X.K H ts xs) (k:Reps X.K H us g) (c:Vals xs a) (b:Vals g its'):
  ∀j (m:j<a.toArray.size) (i:j<its'.toArray.size),SeqAt.EqAt A.in1 s a.toArray[j] its'.toArray[j] (decide (ts[j]?=us[j]?)):=fun j m i=>by
 have F:=r.length;have B:=k.length;have E:=c.length;have D:=b.length;rw[t_] at m i;have e:j<ts.length:=by omega
 have d:j<us.length:=by omega
 obtain⟨p1,x,t⟩:=r.get (g_ e);obtain⟨v,y,u⟩:=k.get (g_ d);obtain⟨p,n,z⟩:=c.get x;obtain⟨o,q,w⟩:=b.get y;rw[Im _ n,Im _ q,g_ e,g_ d];rw[Zx] at l f;have:=xQ I 20 A.in1 ts[j] us[j] p1 v p o (l _ (Y4 e)) (f _ (Y4 d)) t u z w (by rw[units_in1];omega);rw[show decide (some ts[j]=some us[j])=decide (ts[j]=us[j]) by by_cases h:ts[j]=us[j] <;> simp [h]];exact this
def sE {ts us:List T}:((List.range (min ts.length us.length)).all (fun j=>decide (ts[j]?=us[j]?))&&ts.length==us.length)=decide (ts=us):=by
 rw[YH,mG,m_]
def zE {c:Type} [BEq c] [LawfulBEq c] [DecidableEq c] (a b:c):(a==b)=decide (a=b):=by rw[YH];simp
def Ln (f:Bool) (L:X.A.units+30<cLine):dM X (compareOp (bif f then .NotEq else .Eq)) (su f):=by
 intro G s S H x y v u Q I o n h;obtain⟨P,w,H3,M,B,C,J,h,k⟩:=h;have d:∀{b c:Bool},M (.bl b) H3->c=b->EP X G S Q (.bool c) s:=fun q e=>e▸⟨.bl _,H,I,rfl,k _ _ _ _ .refl J .ofBl q⟩;cases P with
 |int i =>
  cases w with
  |int j =>
   rw[B.int] at o;rw[C.int] at n;obtain⟨t,rfl⟩:=o;obtain⟨t',rfl⟩:=n;cases f
   ·exact eq_int (d h (zE ..))
   exact ne_int (d h (W_ not (zE ..)))
  |_=>exact h.elim
 |str i =>
  cases w with
  |str j =>
   rw[B.str] at o;rw[C.str] at n;obtain⟨t,rfl⟩:=o;obtain⟨t',rfl⟩:=n;cases f
   ·exact eq_str (d h (zE ..))
   exact ne_str (d h (W_ not (zE ..)))
  |_=>exact h.elim
 |bl i =>
  cases w with
  |bl j =>
   rw[B.bl] at o;rw[C.bl] at n;cases o;cases n;cases f
   ·exact eq_bool (d h (zE ..))
   exact ne_bool (d h (W_ not (zE ..)))
  |_=>exact h.elim
 |non =>
  cases w with
  |non =>
   rw[B.non] at o;rw[C.non] at n;cases o;cases n;cases f
   ·exact PySem.EqNone.eq_none_none (d h rfl)
   exact PySem.EqNone.ne_none_none (d h rfl)
  |_=>exact h.elim
 |tup ts =>
  cases w with
  |tup us =>
   obtain⟨a,xs,rfl,T,r⟩:=B.tup;obtain⟨b,D,rfl,K,E⟩:=C.tup;cases o;cases n;obtain⟨F,m,p,_⟩:=I.tuple T;obtain⟨its',l,g,_⟩:=I.tuple K;have e:=sE (ts:=ts) (us:=us);rw[r.length,E.length,m.length,l.length] at e;have key:=sy I L h.1 h.2.1 r E m l;cases f
   ·exact SeqAt.eq_tupleAt (e:=fun j=>decide (ts[j]?=us[j]?)) p g (by omega) key (d h.2.2 e)
   exact SeqAt.RcNeAt.tuples (e:=fun j=>decide (ts[j]?=us[j]?)) p g (by omega) key _ _ _ _ (d h.2.2 (W_ not e))
  |_=>exact h.elim
 |ref a =>
  cases w with
  |ref b =>
   have h':(match H3 a,H3 b with
    |some (.lst xs),some (.lst D)=>a≠b/\xs.all (pl 20)=true/\D.all (pl 20)=true/\M (.bl (if f then !decide (xs=D) else decide (xs=D))) H3
    |_,_=>False):=h
   split at h'
   ·
    rename_i ts us V W
    obtain⟨xs,O,r⟩:=J a _ V
    obtain⟨D,N,E⟩:=J b _ W
    cases B.ref;cases C.ref;cases o;cases n
    obtain⟨F,m,p,_⟩:=I.list (X:=X) (.of O)
    obtain⟨its',l,g,_⟩:=I.list (X:=X) (.of N)
    have R:F.length=ts.length:=by rw[<- m.length,<- r.length]
    have U:its'.length=us.length:=by rw[<- l.length,<- E.length]
    have key:=sy I L h'.2.1 h'.2.2.1 r E m l
    by_cases hsz:ts.length=us.length
    ·
     have e:=sE (ts:=ts) (us:=us)
     rw[<- hsz,Nat.min_self,beq_self_eq_true,Bool.and_true,<- R] at e
     cases f
     ·
      exact SeqAt.eq_listAt (e:=fun j=>decide (ts[j]?=us[j]?)) p.isList g.isList (by simp;omega) (by omega) key (d h'.2.2.2 e)
     ·
      exact SeqAt.RcNeAt.lists (e:=fun j=>decide (ts[j]?=us[j]?)) p.isList g.isList (by simp;omega) (by omega) key _ _ _ _ (d h'.2.2.2 (W_ not e))
    ·
     have e:decide (ts=us)=false:=H_ fun z=>hsz (by rw[z])
     cases f
     ·
      exact SeqAt.eq_list_lengthsAt p.isList g.isList (by simp;omega) (by omega) (d h'.2.2.2 e.symm)
     ·
      exact SeqAt.RcNeAt.lists_lengths p.isList g.isList (by simp;omega) (by omega) _ _ _ _ (d h'.2.2.2 (by show true=!decide (ts=us);rw[e];rfl))
   ·
    exact h'.elim
  |_=>exact h.elim
 |_=>exact h.elim
def dh (a:X.A.units+30<cLine):dM X (compareOp .Eq) (su false):=Ln false a
def fX (a:X.A.units+30<cLine):dM X (compareOp .NotEq) (su true):=Ln true a
def dj (a:Bool) (x:T) (ts:List T):Bool:=if a then !decide (x∈ts) else decide (x∈ts)
def occ (a:Bool) (i j:Str):Bool:=if a then !(!(Builtin.Str.occurrences j i 0 j.length 1).isEmpty) else !(Builtin.Str.occurrences j i 0 j.length 1).isEmpty
def sG (b:Bool):R3:=fun x y H Q=>match y with
 |.tup ts=>pl 20 x=true/\ts.all (pl 20)=true/\Q (.bl (dj b x ts)) H
 |.ref a=>match H a with
  |some (.lst ts)=>pl 20 x=true/\ts.all (pl 20)=true/\Q (.bl (dj b x ts)) H
  |some (.rol ts)=>pl 20 x=true/\ts.all (pl 20)=true/\Q (.bl (dj b x ts)) H
  |_=>False
 |.str j=>match x with
  |.str i=>Q (.bl (occ b i j)) H
  |_=>False
 |_=>False
def Ca (I:Inv X pins σ H s) (w:pl 20 x=true) (f:ts.all (pl 20)=true) (r:Reps X.K H ts xs) (n:Vals xs a) (A:Around) (N:A.units+30<cLine) (B:Rep X.K H x l) (C:RelV l u):
  ∃e:Value->Bool,(∀y,y∈a->SeqAt.EqAt A s y u (e y))/\a.any e=decide (x∈ts):=by
 rw[Zx] at f;have k:∀y,y∈a->∃t v,t∈ts/\Rep X.K H t v/\RelV v y:=fun y j=>by
  obtain⟨i,o,e⟩:=List.mem_iff_getElem.mp j;have O:=n.length;have M:a[i]?=some y:=by rw[g_ o,e]
  have h:xs[i]?=some xs[i]:=g_ (by omega);obtain⟨z,p,E⟩:=n.get h;rw[M] at p;cases p;obtain⟨t,G,b⟩:=r.get' h;exact⟨t,_,X_ G,b,E⟩
 have g:∀t v y,t∈ts->Rep X.K H t v->RelV v y->(@decide (∃v,RelV v y/\Rep X.K H x v) (Classical.propDecidable _)=true↔t=x):=fun t v y d b c=>by
  rw[@m_ _ (Classical.propDecidable _)];constructor
  ·rintro⟨P,F,L⟩;cases F.inj c;exact xP I 20 t x _ (f t d) w b L
  rintro rfl;exact⟨v,c,b⟩
 refine⟨fun y=>@decide (∃v,RelV v y/\Rep X.K H x v) (Classical.propDecidable _),fun y j=>?_,?_⟩
 ·obtain⟨t,v,d,b,c⟩:=k y j;have q:=xQ I 20 A t x v l y u (f t d) w b B c C (by omega);have e:@decide (∃v,RelV v y/\Rep X.K H x v) (Classical.propDecidable _)=decide (t=x):=by rw[YH,g t v y d b c,m_]
  show SeqAt.EqAt A s y u (@decide (∃v,RelV v y/\Rep X.K H x v) (Classical.propDecidable _));rw[e];exact q
 rw[YH,Zy,m_];constructor
 ·rintro⟨y,j,e⟩;obtain⟨t,v,d,b,c⟩:=k y j;rw[<- (g t v y d b c).mp e];exact d
 intro h;obtain⟨i,o,e⟩:=List.mem_iff_getElem.mp h;obtain⟨v,J,m⟩:=r.get (show ts[i]?=some x by rw[g_ o,e]);obtain⟨y,D,c⟩:=n.get J;exact⟨y,X_ D,(g x v y h m c).mpr rfl⟩
def Lp (d:Bool) (R:X.A.units+31<cLine):dM X (compareOp (bif d then .NotIn else .In)) (sG d):=by
 intro f s L H x y v u Q I N z h;obtain⟨p,O,H3,J,G,M,B,h,k⟩:=h;have D:X.A.in1.units+30<cLine:=by rw[units_in1];omega
 have l:∀{b c:Bool},J (.bl b) H3->c=b->EP X f L Q (.bool c) s:=fun q e=>e▸⟨.bl _,H,I,rfl,k _ _ _ _ .refl B .ofBl q⟩;have F:∀{a:Addr} {ts:List T} {xs:List V},SqL X.K H a xs->Reps X.K H ts xs->u=.ref a->pl 20 p=true->ts.all (pl 20)=true->J (.bl (dj d p ts)) H3->wpAny (model X.prog X.w) X.A (compareOp (bif d then .NotIn else .In) v u) (EP X f L Q) X.xe s:=by
  intro a ts xs t r e p1 P q;subst e;obtain⟨g,o,C,_⟩:=I.list t;obtain⟨e,E,n⟩:=Ca I p1 P r o X.A.in1 D G N;rw[<- show g.toArray.any e=g.any e by simp] at n;cases d
  ·exact SeqAt.in_listAt e C.isList (fun y m=>E y (by simpa using m)) (l q n)
  exact SeqAt.notIn_listAt e C.isList (fun y m=>E y (by simpa using m)) (l q (W_ not n))
 cases O with
 |tup ts =>
  obtain⟨a,xs,rfl,t,r⟩:=M.tup;cases z;obtain⟨g,o,C,_⟩:=I.tuple t;obtain⟨e,E,n⟩:=Ca I h.1 h.2.1 r o X.A.in1 D G N;rw[<- show g.toArray.any e=g.any e by simp] at n;cases d
  ·exact SeqAt.in_tupleAt e C (fun y m=>E y (by simpa using m)) (l h.2.2 n)
  exact SeqAt.notIn_tupleAt e C (fun y m=>E y (by simpa using m)) (l h.2.2 (W_ not n))
 |ref a =>
  have h':(match H3 a with
   |some (.lst ts)=>pl 20 p=true/\ts.all (pl 20)=true/\J (.bl (dj d p ts)) H3
   |some (.rol ts)=>pl 20 p=true/\ts.all (pl 20)=true/\J (.bl (dj d p ts)) H3
   |_=>False):=h
  rw[M.ref] at z
  split at h'
  ·
   rename_i ts e
   obtain⟨xs,t,r⟩:=B.sqL (.inl e)
   exact F t r z h'.1 h'.2.1 h'.2.2
  ·
   rename_i ts e
   obtain⟨xs,t,r⟩:=B.sqL (.inr e)
   exact F t r z h'.1 h'.2.1 h'.2.2
  ·
   exact h'.elim
 |str j =>
  cases p with
  |str i =>
   cases d
   ·exact zf f s L H x y v u Q I N z ⟨i,j,G.str,M.str,k _ _ _ _ .refl B .ofBl h⟩
   exact pN f s L H x y v u Q I N z ⟨i,j,G.str,M.str,k _ _ _ _ .refl B .ofBl h⟩
  |_=>exact h.elim
 |_=>exact h.elim
def jw (a:X.A.units+31<cLine):dM X (compareOp .In) (sG false):=Lp false a
def mH (a:X.A.units+31<cLine):dM X (compareOp .NotIn) (sG true):=Lp true a
def oq {a:Type}(o:Option a) (Q:a->Prop):Prop:=match o with
 |some v=>Q v
 |none=>False
def sH:R3:=fun x y H Q=>match x,y with
 |.ref a,.int i=>match H a with
  |some (.lst ts)=>oq (atI ts i) fun t=>Q t H
  |some (.rol ts)=>oq (atI ts i) fun t=>Q t H
  |_=>False
 |.tup ts,.int i=>oq (atI ts i) fun t=>Q t H
 |.str z,.int i=>z.length<=sizeLine/\oq (atI z.cps.toList i) fun c=>Q (.str ⟨#[c]⟩) H
 |_,_=>False
def xT {K:Frag} (r:Reps K H ts xs) (h:atI ts i=some t):∃v,atI xs i=some v/\Rep K H t v:=by
 unfold atI at h ⊢;rw[<- r.length];cases e:ixN ts.length i with
 |none=>rw[e] at h;cases h
 |some j =>
 rw[e] at h;exact r.get h
def ix3:Ui X sH:=by
 refine IxR.imp Ox ?_;rintro x y H Q ⟨s,m,H3,f,j,l,d,h,k⟩;have g:∀{a:Addr} {ts:List T} {xs:List V} {i:Int},SqL X.K H a xs->Reps X.K H ts xs->x=.ref a->y=.int i->oq (atI ts i) (fun t=>f t H3)->rIx X.K x y H Q:=by
  intro a ts xs i b r n u q;cases e:atI ts i with
  |none=>rw[e] at q;exact q.elim
  |some t =>
  rw[e] at q;obtain⟨v,p,o⟩:=xT r e;exact .inl ⟨a,xs,i,v,n,u,b,p,k _ _ _ _ .refl d o q⟩
 cases s with
 |ref a =>
  cases m with
  |int i =>
   have h':(match H3 a with
    |some (.lst ts)=>oq (atI ts i) fun t=>f t H3
    |some (.rol ts)=>oq (atI ts i) fun t=>f t H3
    |_=>False):=h
   split at h'
   ·
    rename_i ts e
    obtain⟨xs,b,r⟩:=d.sqL (.inl e)
    exact g b r j.ref l.int h'
   ·
    rename_i ts e
    obtain⟨xs,b,r⟩:=d.sqL (.inr e)
    exact g b r j.ref l.int h'
   ·
    exact h'.elim
  |_=>exact h.elim
 |tup ts =>
  cases m with
  |int i =>
   have h':oq (atI ts i) fun t=>f t H3:=h
   cases e:atI ts i with
   |none=>rw[e] at h';exact h'.elim
   |some t =>
    rw[e] at h'
    obtain⟨a,xs,n,b,r⟩:=j.tup
    obtain⟨v,p,o⟩:=xT r e
    exact .inr (.inl ⟨a,xs,i,v,n,l.int,b,p,k _ _ _ _ .refl d o h'⟩)
  |_=>exact h.elim
 |str z =>
  cases m with
  |int i =>
   have h':z.length<=sizeLine/\oq (atI z.cps.toList i) fun c=>f (.str ⟨#[c]⟩) H3:=h
   cases e:atI z.cps.toList i with
   |none=>rw[e] at h';exact h'.2.elim
   |some c =>
    rw[e] at h'
    exact .inr (.inr ⟨z,i,c,j.str,l.int,h'.1,e,k _ _ _ _ .refl d .ofStr h'.2⟩)
  |_=>exact h.elim
 |_=>exact h.elim
def Cd:rR:=fun o i v H Q=>match o,i with
 |.ref a,.int k=>match H a with
  |some (.lst ts)=>oq (ixN ts.length k) fun j=>Q (up3 H a (.lst (ts.set j v)))
  |_=>False
 |_,_=>False
def SimH.wrL {K:Frag} (s:SimH K H3 H) (g:H a=some (.lst xs)) (r:Reps K H ts c):SimH K (up3 H3 a (.lst ts)) (upd H a (.lst c)):=fun b o e=>by
 have f:TupLe K H (upd H a (.lst c)):=bR (by rw[g];exact trivial);by_cases d:b=a
 ·subst d;rw[au] at e;cases e;exact⟨c,aY,r.mono f⟩
 rw[aF d] at e;exact (s b o e).stay f fun u q=>by rw[aL d];exact q
def o4:Lh X Cd:=by
 refine PSet.imp set_list ?_;rintro o i v H Q ⟨m,p,f,H3,s,l,g,q,d,h,k⟩;cases m with
 |ref a =>
  cases p with
  |int n =>
   have h':(match H3 a with
    |some (.lst ts)=>oq (ixN ts.length n) fun j=>s (up3 H3 a (.lst (ts.set j f)))
    |_=>False):=h
   split at h'
   ·
    rename_i ts e
    obtain⟨xs,c,r⟩:=d a _ e
    cases b:ixN ts.length n with
    |none=>rw[b] at h';exact h'.elim
    |some j =>
     rw[b] at h'
     exact⟨a,xs,n,j,l.ref,g.int,c,by rw[<- r.length];exact b,k _ _ (bR (by rw[c];exact trivial)) (d.wrL c (r.set j q)) h'⟩
   ·
    exact h'.elim
  |_=>exact h.elim
 |_=>exact h.elim
abbrev TO3:=St3->Hp3->(Option Int->Hp3->Prop)->Prop
def X4 (K:Frag) (d:TO3):TO:=fun e H Q=>∃a H3 c,SimS K H a e/\SimH K H3 H/\d a H3 c/\∀o H' b,TupLe K H H'->SimH K b H'->c o b->Q o H'
def PO3 (X:Cx) (e:Option Expr) (t:TO3):Prop:=PO X e (X4 X.K t)
def PO.imp (h:PO X e t) (w:∀a H Q,t' a H Q->t a H Q):PO X e t':=fun b s a H Q I q=>h b s a H Q I (w a H Q q)
def sI:TO3:=fun _ H Q=>Q none H
def Ce (t:TE3):TO3:=fun b H Q=>t b H fun x a=>match x with
 |.int i=>Q (some i) a
 |_=>False
def jx:PO3 X none sI:=by
 refine PO.imp HH ?_;rintro d H Q ⟨b,H3,e,c,a,h,k⟩;exact k _ _ _ .refl a h
def jy (h:PE3 X e te):PO3 X (some e) (Ce te):=by
 refine PO.imp (HJ h) ?_;rintro j H Q ⟨a,H3,l,f,c,h,k⟩;refine⟨a,H3,_,f,c,h,fun v H' t g d b r q=>?_⟩;cases t with
 |int i=>exact⟨i,r.int,k _ _ _ d b q⟩
 |_=>exact q.elim
def O7:SlR X (fun x m n H Q=>∃z,x=.str z/\z.length<=sizeLine/\Q (.str (Txt.slice z m n)) H):=by
 intro b s A H x v C B m n D Q I y w pl r h;obtain⟨z,rfl,f,q⟩:=h;obtain⟨t,rfl⟩:=y;refine⟨"str",_,F.slot_str_getitem.lookup,typeIs_str _ _ _,?_⟩;obtain⟨o,e,c,d⟩:=w;have a:∀(t':Tok) (k:Nat),EP X b A Q (.str (Txt.slice z m n) t') { s with toks:=k}:=fun t' k=>⟨.str _,H,I.tok k,⟨t',rfl⟩,q⟩;cases pl with
 |none =>
  cases r with
  |none=>exact aaz (l:=none) (u:=none) (st:=none) ⟨o,e,c,d⟩ rfl (post_val_or_str ⟨Q_ (Txt.slice_le z _ _) f,a⟩)
  |int j g=>exact aaz (l:=none) (u:=some (j,g)) (st:=none) ⟨o,e,c,d⟩ rfl (post_val_or_str ⟨Q_ (Txt.slice_le z _ _) f,a⟩)
 |int i p =>
 cases r with
 |none=>exact aaz (l:=some (i,p)) (u:=none) (st:=none) ⟨o,e,c,d⟩ rfl (post_val_or_str ⟨Q_ (Txt.slice_le z _ _) f,a⟩)
 |int j g=>exact aaz (l:=some (i,p)) (u:=some (j,g)) (st:=none) ⟨o,e,c,d⟩ rfl (post_val_or_str ⟨Q_ (Txt.slice_le z _ _) f,a⟩)
def iV (ts:List T) (a b:Option Int):List T:=(ts.drop (HT.sIx ts.length 0 a)).take (HT.sIx ts.length ts.length b - HT.sIx ts.length 0 a)
def Ip:T->Option Int->Option Int->Hp3->VK3->Prop:=fun x c b H Q=>match x with
 |.ref a=>match H a with
  |some (.lst ts)=>∀p,H p=none->Q (.ref p) (up3 H p (.lst (iV ts c b)))
  |some (.rol ts)=>∀p,H p=none->Q (.ref p) (up3 H p (.lst (iV ts c b)))
  |_=>False
 |.tup ts=>¬(HT.sIx ts.length 0 c=0/\HT.sIx ts.length ts.length b=ts.length)/\Q (.tup (iV ts c b)) H
 |.str z=>z.length<=sizeLine/\Q (.str (Txt.slice z c b)) H
 |_=>False
def Um (te:TE3) (c th:TO3):TE3:=fun a H Q=>te a H fun x b=>c a b fun l d=>th a d fun u H3=>Ip x l u H3 Q
def qg {K:Frag} (r:Reps K H ts xs) (b a:Option Int):Reps K H (iV ts b a) (rE xs b a):=by
 unfold iV rE;rw[<- r.length];exact (r.drop _).take _
def jz {O s:Pos} (L:PE3 X e te) (M:PO3 X B D) (I:PO3 X E th):PE3 X (.Subscript e (.Slice B E none O) s) (Um te D th):=by
 refine PE.imp (Be (sl_list.or (sl_tup.or O7)) L M I) ?_;rintro T H Q ⟨i,H3,C,w,F,h,k⟩;refine⟨i,H3,_,w,F,h,fun x S J y j t G K=>⟨i,y,_,w.mono j,t,K,fun l R A g v N=>⟨i,A,_,w.mono (j.trans g),v,N,fun u P c n b m=>?_⟩⟩⟩;have q:=k.at (j.trans (g.trans n));have f:=G.mono (g.trans n);cases J with
 |ref a =>
  have h':(match c a with
   |some (.lst ts)=>∀p,c p=none->C (.ref p) (up3 c p (.lst (iV ts l u)))
   |some (.rol ts)=>∀p,c p=none->C (.ref p) (up3 c p (.lst (iV ts l u)))
   |_=>False):=m
  split at h'
  ·
   rename_i ts e
   obtain⟨xs,o,r⟩:=b.sqL (.inl e)
   exact .inl ⟨a,xs,f.ref,o,fun p d=>q _ _ _ _ (aO d) (b.newLst d (qg r l u)) .ofRef (h' p (b.fresh d))⟩
  ·
   rename_i ts e
   obtain⟨xs,o,r⟩:=b.sqL (.inr e)
   exact .inl ⟨a,xs,f.ref,o,fun p d=>q _ _ _ _ (aO d) (b.newLst d (qg r l u)) .ofRef (h' p (b.fresh d))⟩
  ·
   exact h'.elim
 |tup ts=>obtain⟨a,xs,rfl,o,r⟩:=f.tup;refine .inr (.inl ⟨a,xs,rfl,o,by rw[<- r.length];exact m.1,fun p d=>q _ _ _ _ (aO d) (b.new d) (SimH.newTup (H3:=c) d (qg r l u)) m.2⟩)
 |str z=>exact .inr (.inr ⟨z,f.str,m.1,q _ _ _ _ .refl b .ofStr m.2⟩)
 |_=>exact m.elim
def aP (k:Str):List (Str × T)->Option T
 |[]=>none
 | (k',v)::r=>if k'=k then some v else aP k r
def put3 (k:Str) (v:T) (kvs:List (Str × T)):List (Str × T) :=
 if (kvs.any fun a=>decide (a.1=k))=true then kvs.map (fun a=>if a.1=k then (a.1,v) else a) else kvs++[(k,v)]
def r3D:R3:=fun x y H Q=>match x,y with
 |.ref a,.str k=>match H a with
  |some (.dct kvs)=>oq (aP k kvs) fun t=>Q t H
  |_=>False
 |_,_=>False
def sJ {K:Frag}:∀{kvs:List (Str × T)}{vs:List (Key × V)}{t:T},RepD K H kvs vs->aP k kvs=some t->∃v,eZ vs (Sum.inr k:Key)=some v/\Rep K H t v
 |[],_,_,_,e=>by cases e
 | (k',t')::r,_,t,.cons (b:=(kk,v')) ⟨e1,rv⟩ rr,e=>by
  simp only at e1 rv
  subst e1
  unfold aP at e
  by_cases a:k'=k
  ·
   rw[if_pos a] at e
   cases e
   exact⟨v',by rw[fc (by rw[a])],rv⟩
  ·
   rw[if_neg a] at e
   obtain⟨v,c,q⟩:=sJ rr e
   exact⟨v,by rw[fj (by intro z;exact a (Sum.inr.inj z))];exact c,q⟩
def cN {s q:TE3} (D:X.A.units+1<cLine) (B:PE3 X o s) (N:PE3 X i q) (J:HS i:=by exact fun _ _=>rfl):PE3 X (.Subscript o i g) (rQ r3D s q):=by
 refine PE.imp (xq D B N J) ?_;rintro R H Q ⟨c,H3,I,u,w,h,k⟩;refine⟨c,H3,_,u,w,h,fun x P F n d l C G=>⟨c,n,_,u.mono d,l,G,fun y O z f m b K p=>?_⟩⟩;cases F with
 |ref a =>
  cases z with
  |str key =>
   have h':(match f a with
    |some (.dct kvs)=>oq (aP key kvs) fun t=>I t f
    |_=>False):=p
   split at h'
   ·
    rename_i kvs e
    obtain⟨vs,E,r⟩:=b a _ e
    cases j:aP key kvs with
    |none=>rw[j] at h';exact h'.elim
    |some t =>
     rw[j] at h'
     obtain⟨v,L,M⟩:=sJ r j
     refine⟨a,v,C.ref,?_,k.at (d.trans m) _ _ _ _ .refl b M h'⟩
     rw[K.str,<- L]
     exact DGet.k (k:=Sum.inr key) E
   ·
    exact h'.elim
  |_=>exact p.elim
 |_=>exact p.elim
def Cg (c d f:TE3):TS3:=fun D b H=>f b H fun v e=>c b e fun x g=>d b g fun y H3=>match x,y with
 |.ref a,.str k=>match H3 a with
  |some (.dct kvs)=>kvs.length<sizeLine/\D.nx b (up3 H3 a (.dct (put3 k v kvs)))
  |_=>False
 |_,_=>False
def Ir {K:Frag} (n:Rep K H t v) (r:RepD K H kvs vs):RepD K H (put3 k t kvs) (putK vs (Sum.inr k:Key) v):=by
 have e:∀{kvs:List (Str × T)} {vs:List (Key × V)},RepD K H kvs vs->(kvs.any fun c=>decide (c.1=k))=(vs.any fun c=>decide (c.1=(Sum.inr k:Key)))/\RepD K H (kvs.map (fun c=>if c.1=k then (c.1,t) else c)) (vs.map (fun c=>if c.1=(Sum.inr k:Key) then (c.1,v) else c)):=by
  intro kvs;induction kvs with
  |nil=>intro vs r;cases r;exact⟨rfl,.nil⟩
  |cons p l u =>
  intro vs r;cases r with
  |cons q s =>
  rename_i b w;obtain⟨j,g⟩:=u s;obtain⟨o,m⟩:=q;obtain⟨x,y⟩:=b;simp only at o m;subst o;by_cases d:p.1=k
  ·refine⟨by simp [d],?_⟩;simp only[G_,d,if_true];exact .cons ⟨rfl,n⟩ g
  have f:¬(Sum.inr p.1:Key)=Sum.inr k:=fun z=>d (Sum.inr.inj z);refine⟨by simp only[aaW,d,f,Ze,Bool.false_or];exact j,?_⟩;simp only[G_,d,f,YG];exact .cons ⟨rfl,m⟩ g
 obtain⟨j,g⟩:=e r;unfold put3 putK;rw[j];split
 ·exact g
 have i:∀{a:List (Str × T)} {b:List (Key × V)},RepD K H a b->RepD K H (a++[(k,t)]) (b++[((Sum.inr k:Key),v)]):=fun h=>Paired.snoc h ⟨rfl,n⟩;exact i r
def SimH.wrD {K:Frag} (s:SimH K H3 H) (h:H a=some (.dK g)) (r:RepD K H kvs c):SimH K (up3 H3 a (.dct kvs)) (upd H a (.dK c)):=fun b o e=>by
 have f:TupLe K H (upd H a (.dK c)):=bR (by rw[h];exact trivial);by_cases d:b=a
 ·subst d;rw[au] at e;cases e;exact⟨c,aY,r.mono f⟩
 rw[aF d] at e;exact (s b o e).stay f fun u q=>by rw[aL d];exact q
def jA {I q s:TE3} (O:X.A.units+1<cLine) (M:PE3 X o I) (Y:PE3 X i q) (J:PE3 X b s) (R:swapsWith b (some (.Subscript o i j)) m.line X.env=pure false:=by rfl):
  PS3 X (.Assign [.Subscript o i j] b m) (Cg I q s):=by
 refine PS.imp (HY O M Y J R) ?_;rintro D σ H ⟨f,H3,V,t,L,h,U,_⟩;refine⟨f,H3,_,t,L,h,fun v H1 s B g w W Q=>⟨f,B,_,t.mono g,w,Q,fun x Z P F d z N T=>⟨f,F,_,t.mono (g.trans d),z,T,fun y G q l c n S E=>?_⟩⟩⟩;cases P with
 |ref a =>
  cases q with
  |str key =>
   have h':(match l a with
    |some (.dct kvs)=>kvs.length<sizeLine/\V.nx f (up3 l a (.dct (put3 key s kvs)))
    |_=>False):=E
   split at h'
   ·
    rename_i kvs e
    obtain⟨vs,u,r⟩:=n a _ e
    have C:=W.mono (d.trans c)
    have p:TupLe X.K G (upd G a (.dK (putK vs (Sum.inr key:Key) v))):=bR (by rw[u];exact trivial)
    refine⟨a,_,(N.mono c).ref,?_,U _ _ _ _ (g.trans (d.trans (c.trans p))) (t.mono (g.trans (d.trans (c.trans p)))) (n.wrD u (Ir C r)) h'.2⟩
    rw[S.str]
    exact DPut.k (k:=Sum.inr key) u (by rw[<- aas r];exact h'.1)
   ·
    exact h'.elim
  |_=>exact E.elim
 |_=>exact E.elim
def Uo:List (Str × TE3)->St3->Hp3->(List (Str × T)->Hp3->Prop)->Prop
 |[],_,H,Q=>Q [] H
 | (k,tv)::r,σ,H,Q=>tv σ H fun y b=>Uo r σ b fun a H3=>Q ((k,y)::a) H3
def X5 (kvs a:List (Str × T)):List (Str × T):=a.foldl (fun b c=>put3 c.1 c.2 b) kvs
def O8 (a:List (Str × TE3)):TE3:=fun d H Q=>∀p,H p=none->Uo a d (up3 H p (.dct [])) fun b c=>c p=some (.dct [])/\b.length<=15/\Q (.ref p) (up3 c p (.dct (X5 [] b)))
variable {p pos:Pos}{es:List Expr}{id Ty:String}
def O9 (r:List T->Hp3->VK3->Prop) (t:TA3):TE3:=fun b H Q=>t b H fun vs a=>r vs a Q
def aM (v:cX X (.builtin id) r) (i:Gl X x) (l:X.mg x=none) (g:bootBuiltins x=some (.builtin id)) (m:PA3 X (e::es) t) (u:x≠"__name__":=by decide) (a:(x==("__debug__":Str))=false:=by decide)
  (s:starEach (e::es) X.env=(false,eval e X.env)::starEach es X.env:=by rfl) (f:(backTo pos (starEach es X.env)).any (·.1)=false:=by rfl):PE3 X (.Call (.Name x p) (e::es) [] pos) (O9 r t):=by
 refine PE.imp (Bc v i l g m u a s f) ?_;rintro y H Q ⟨c,H3,w,o,j,h,k⟩;exact⟨c,H3,_,o,j,h,fun vs H' ts d n b r q=>⟨ts,d,w,r,b,q,k.at n⟩⟩
def bM (v:cX X (.type Ty) r) (i:Gl X x) (l:X.mg x=none) (g:bootBuiltins x=some (.type Ty)) (m:PA3 X (e::es) t) (u:x≠"__name__":=by decide) (a:(x==("__debug__":Str))=false:=by decide)
  (s:starEach (e::es) X.env=(false,eval e X.env)::starEach es X.env:=by rfl) (f:(backTo pos (starEach es X.env)).any (·.1)=false:=by rfl):PE3 X (.Call (.Name x p) (e::es) [] pos) (O9 r t):=by
 refine PE.imp (zm v i l g m u a s f) ?_;rintro y H Q ⟨c,H3,w,o,j,h,k⟩;exact⟨c,H3,_,o,j,h,fun vs H' ts d n b r q=>⟨ts,d,w,r,b,q,k.at n⟩⟩
def kJ (c:Gl X x) (d:X.mg x=none) (b:bootBuiltins x=some (.type n)) (g:x≠"__name__":=by decide) (a:(x==("__debug__":Str))=false:=by decide):PE3 X (.Name x pos) (tC3 (.ty n)):=by
 refine PE.imp (Hh (v:=.ty n) c d b rfl g a) ?_;rintro j H Q ⟨f,H3,l,i,e,h,k⟩;exact k _ _ _ H3 .refl e .ofTy h
def Reps.one' {K:Frag}{t:T} (r:Reps K H [t] vs):∃v,vs=[v]/\Rep K H t v:=by
 obtain⟨v,_,rfl,a,b⟩:=r.inv;rw[b.inv0];exact⟨v,rfl,a⟩
def Reps.two' {K:Frag}{t u:T} (r:Reps K H [t,u] vs):∃v w,vs=[v,w]/\Rep K H t v/\Rep K H u w:=by
 obtain⟨v,_,rfl,a,b⟩:=r.inv;obtain⟨w,rfl,c⟩:=b.one';exact⟨v,w,rfl,a,c⟩
def xU:List T->Hp3->VK3->Prop:=fun ts H Q=>match ts with
 |[.ref a]=>match H a with
  |some (.lst xs)=>Q (.int xs.length) H
  |some (.rol xs)=>Q (.int xs.length) H
  |_=>False
 |[.tup xs]=>Q (.int xs.length) H
 |[.str z]=>z.length<=sizeLine/\Q (.int z.length) H
 |_=>False
def cD:cX X (.builtin "len") xU:=by
 refine CallR.imp (call_len_seq.or pU) ?_;rintro xs H Q ⟨ts,H3,i,r,b,h,k⟩
 match ts,h,r with
 |[.ref a],h,r =>
  obtain⟨v,rfl,c⟩:=r.one';have h':(match H3 a with
   |some (.lst xs)=>i (.int xs.length) H3
   |some (.rol xs)=>i (.int xs.length) H3
   |_=>False):=h
  split at h'
  ·rename_i us e;obtain⟨d,g,f⟩:=b.sqL (.inl e);exact .inl ⟨a,d,by rw[c.ref],.inl g,by rw[<- f.length];exact k _ _ _ _ .refl b .ofInt h'⟩
  ·rename_i us e;obtain⟨d,g,f⟩:=b.sqL (.inr e);exact .inl ⟨a,d,by rw[c.ref],.inl g,by rw[<- f.length];exact k _ _ _ _ .refl b .ofInt h'⟩
  exact h'.elim
 |[.tup us],h,r=>obtain⟨v,rfl,c⟩:=r.one';obtain⟨a,d,rfl,g,f⟩:=c.tup;exact .inl ⟨a,d,rfl,.inr g,by rw[<- f.length];exact k _ _ _ _ .refl b .ofInt h⟩
 |[.str z],h,r =>
 obtain⟨v,rfl,c⟩:=r.one';exact .inr ⟨z,by rw[c.str],h.1,k _ _ _ _ .refl b .ofInt h.2⟩
def vC:List T->Hp3->VK3->Prop:=fun ts H Q=>match ts with
 |[.ref a]=>match H a with
  |some (.lst xs)=>∀p,H p=none->Q (.ref p) (up3 H p (.lst xs))
  |some (.rol xs)=>∀p,H p=none->Q (.ref p) (up3 H p (.lst xs))
  |_=>False
 |[.tup xs]=>∀p,H p=none->Q (.ref p) (up3 H p (.lst xs))
 |_=>False
def qi:cX X (.type "list") vC:=by
 refine CallR.imp pW ?_;rintro xs H Q ⟨ts,H3,j,r,c,h,k⟩
 match ts,h,r with
 |[.ref a],h,r =>
  obtain⟨v,rfl,i⟩:=r.one';have h':(match H3 a with
   |some (.lst xs)=>∀p,H3 p=none->j (.ref p) (up3 H3 p (.lst xs))
   |some (.rol xs)=>∀p,H3 p=none->j (.ref p) (up3 H3 p (.lst xs))
   |_=>False):=h
  split at h'
  ·rename_i us e;obtain⟨d,g,f⟩:=c.sqL (.inl e);exact⟨a,d,by rw[i.ref],.inl g,fun l b=>k _ _ _ _ (aO b) (c.newLst b f) .ofRef (h' l (c.fresh b))⟩
  ·rename_i us e;obtain⟨d,g,f⟩:=c.sqL (.inr e);exact⟨a,d,by rw[i.ref],.inl g,fun l b=>k _ _ _ _ (aO b) (c.newLst b f) .ofRef (h' l (c.fresh b))⟩
  exact h'.elim
 |[.tup us],h,r =>
 obtain⟨v,rfl,i⟩:=r.one';obtain⟨a,d,rfl,g,f⟩:=i.tup;exact⟨a,d,rfl,.inr g,fun l b=>k _ _ _ _ (aO b) (c.newLst b f) .ofRef (h l (c.fresh b))⟩
def qj:List T->Hp3->VK3->Prop:=fun ts H Q=>match ts with
 |[.ref a]=>match H a with
  |some (.lst xs)=>Q (.tup xs) H
  |some (.rol xs)=>Q (.tup xs) H
  |_=>False
 |[.tup xs]=>Q (.tup xs) H
 |_=>False
def cY:cX X (.type "tuple") qj:=by
 refine CallR.imp nQ ?_;rintro xs H Q ⟨ts,H3,j,r,d,h,k⟩
 match ts,h,r with
 |[.ref a],h,r =>
  obtain⟨v,rfl,i⟩:=r.one';have h':(match H3 a with
   |some (.lst xs)=>j (.tup xs) H3
   |some (.rol xs)=>j (.tup xs) H3
   |_=>False):=h
  split at h'
  ·rename_i us e;obtain⟨f,c,g⟩:=d.sqL (.inl e);exact⟨a,f,by rw[i.ref],.inl ⟨c,fun l b=>k _ _ _ _ (aO b) (d.new b) (SimH.newTup (H3:=H3) b g) h'⟩⟩
  ·rename_i us e;obtain⟨f,c,g⟩:=d.sqL (.inr e);exact⟨a,f,by rw[i.ref],.inl ⟨c,fun l b=>k _ _ _ _ (aO b) (d.new b) (SimH.newTup (H3:=H3) b g) h'⟩⟩
  exact h'.elim
 |[.tup us],h,r =>
 obtain⟨v,rfl,i⟩:=r.one';obtain⟨a,f,rfl,c,g⟩:=i.tup;exact⟨a,f,rfl,.inr ⟨c,k _ _ _ _ .refl d (.ofTup c g) h⟩⟩
def Ci:List T->Hp3->VK3->Prop:=fun ts H Q=>match ts with
 |[.int i]=>Q (.int i) H
 |[.bl b]=>Q (.int (if b then 1 else 0)) H
 |_=>False
def Iu:cX X (.type "int") Ci:=by
 refine CallR.imp zg ?_;rintro xs H Q ⟨ts,H3,d,r,c,h,k⟩
 match ts,h,r with
 |[.int i],h,r=>obtain⟨v,rfl,a⟩:=r.one';exact .inl ⟨i,by rw[a.int],k _ _ _ _ .refl c .ofInt h⟩
 |[.bl b],h,r =>
 obtain⟨v,rfl,a⟩:=r.one';exact .inr ⟨b,by rw[a.bl],k _ _ _ _ .refl c .ofInt h⟩
def ints3:List T->Option (List Int)
 |[]=>some []
 |.int i::r=>(ints3 r).map (i::·)
 |_=>none
def dW:∀(ns:List Int),ints3 (ns.map T.int)=some ns
 |[]=>rfl
 |n::r=>by simp [ints3,dW r]
def jg {K:Frag}:∀{ts:List T}{xs:List V}{us:List Value}{ns:List Int},ints3 ts=some ns->Reps K H ts xs->Vals xs us->IntsAre us ns
 |[],xs,us,ns,e,r,v=>by
  cases e
  rw[r.inv0] at v
  cases v
  exact .nil
 |.int i::l,xs,us,ns,e,r,v=>by
  obtain⟨x,g,rfl,f,d⟩:=r.inv
  cases v with
  |cons a b =>
   rw[f.int] at a
   obtain⟨t,rfl⟩:=a
   cases c:ints3 l with
   |none=>simp [ints3,c] at e
   |some h =>
    simp [ints3,c] at e
    subst e
    exact .cons _ _ (jg c d b)
 |.non::_,_,_,_,e,_,_=>by simp [ints3] at e
 |.bl _::_,_,_,_,e,_,_=>by simp [ints3] at e
 |.str _::_,_,_,_,e,_,_=>by simp [ints3] at e
 |.tup _::_,_,_,_,e,_,_=>by simp [ints3] at e
 |.ref _::_,_,_,_,e,_,_=>by simp [ints3] at e
 |.ty _::_,_,_,_,e,_,_=>by simp [ints3] at e
def Lq:List T->Hp3->VK3->Prop:=fun ts H Q=>match ts with
 |[.ref a]=>match H a with
  |some (.lst xs)=>oq (ints3 xs) fun ns=>Q (.int ns.sum) H
  |some (.rol xs)=>oq (ints3 xs) fun ns=>Q (.int ns.sum) H
  |_=>False
 |_=>False
def vD (L:X.calm=true):cX X (.builtin "sum") Lq:=by
 intro j s G H xs us Q I J h;obtain⟨ts,H3,t,r,n,h,k⟩:=h
 match ts,h,r with
 |[.ref a],h,r =>
 obtain⟨v,rfl,x⟩:=r.one';obtain⟨u,rfl,z⟩:=vals1 J;rw[x.ref] at z;cases z;have b:∀{d:List T} {f:List V},SqL X.K H a f->Reps X.K H d f->oq (ints3 d) (fun ns=>t (.int ns.sum) H3)->wpAny (model X.prog X.w) X.A (call (.builtin "sum") [.ref a]) (EP X j G Q) X.xe s:=by
  intro d f l i q;cases e:ints3 d with
  |none=>rw[e] at q;exact q.elim
  |some ns =>
  rw[e] at q;obtain⟨c,p,F,_⟩:=I.list l;have y:=jg e i p;have g:AllInts c.toArray:=y.allInts;obtain⟨m,B⟩:=g.items;have o:s.heap.IsList a (intItems m):=by rw[<- B];exact F.isList
  refine sum_intListG (I.ok.hd L) o fun h' tk t' D=>?_;have E:preSum (numAt m) m.size=ns.sum:=by have C:=nums_intItems m;rw[<- B,show c.toArray.toList=c from rfl,y.numsOf] at C;rw[preSum_eq,List.take_of_length_le (by simp),<- C]
  rw[E];exact⟨.int ns.sum,H,I.kept D,⟨t',rfl⟩,k _ _ _ _ .refl n .ofInt q⟩
 have h':(match H3 a with
  |some (.lst xs)=>oq (ints3 xs) fun ns=>t (.int ns.sum) H3
  |some (.rol xs)=>oq (ints3 xs) fun ns=>t (.int ns.sum) H3
  |_=>False):=h
 split at h'
 ·rename_i d e;obtain⟨f,l,i⟩:=n.sqL (.inl e);exact b l i h'
 ·rename_i d e;obtain⟨f,l,i⟩:=n.sqL (.inr e);exact b l i h'
 exact h'.elim
def isT (n:String):T->Hp3->Option Bool:=fun x H=>match x with
 |.non=>some (n=="NoneType")
 |.bl _=>some (n=="bool"||n=="int")
 |.int _=>some (n=="int")
 |.str _=>some (n=="str")
 |.tup _=>some (n=="tuple")
 |.ref a=>match H a with
  |some (.lst _)=>some (n=="list")
  |some (.dct _)=>some (n=="dict")
  |_=>none
 |.ty _=>none
def o5:List T->Hp3->VK3->Prop:=fun ts H Q=>match ts with
 |[x,.ty n]=>(n="str"\/n="int"\/n="bool"\/n="tuple"\/n="list")/\oq (isT n x H) fun b=>Q (.bl b) H
 |_=>False
def jh (K:Frag) (a b:String) (d:a="NoneType"\/a="bool"\/a="int"\/a="str"\/a="tuple"\/a="list"\/a="dict") (c:b="str"\/b="int"\/b="bool"\/b="tuple"\/b="list") :
  kitOne K (.type a) (.type b)=some (a==b||(a=="bool"&&b=="int")):=by
 rcases d with rfl | rfl | rfl | rfl | rfl | rfl | rfl <;> rcases c with rfl | rfl | rfl | rfl | rfl <;> rfl
def ji:cX X (.builtin "isinstance") o5:=by
 intro j s E H xs us Q I J h;obtain⟨ts,H3,u,r,l,h,k⟩:=h
 match ts,h,r with
 |[x,.ty n],h,r =>
 obtain⟨v,w,rfl,g,G⟩:=r.two';obtain⟨N,M,rfl,f,y⟩:=vals2 J;rw[G.ty] at y;cases y;obtain⟨d,h⟩:=h;have c:∀{b:Bool},u (.bl b) H3->∀tk,EP X j E Q (.bool b) { s with toks:=tk}:=fun q tk=>⟨.bl _,H,I.tok tk,rfl,k _ _ _ _ .refl l .ofBl q⟩;cases x with
 |non=>exact eU I f (by rw[g.non];exact .non) (jh X.K "NoneType" n (by simp) d) (c (by rcases d with rfl | rfl | rfl | rfl | rfl <;> exact h))
 |bl b=>exact eU I f (by rw[g.bl];exact .bl b) (jh X.K "bool" n (by simp) d) (c (by rcases d with rfl | rfl | rfl | rfl | rfl <;> exact h))
 |int i=>exact eU I f (by rw[g.int];exact .int i) (jh X.K "int" n (by simp) d) (c (by rcases d with rfl | rfl | rfl | rfl | rfl <;> exact h))
 |str z=>exact eU I f (by rw[g.str];exact .str z) (jh X.K "str" n (by simp) d) (c (by rcases d with rfl | rfl | rfl | rfl | rfl <;> exact h))
 |tup us=>obtain⟨a,L,rfl,F,O⟩:=g.tup;cases f;obtain⟨C,_,⟨o,D,A,_⟩,_⟩:=I.tuple F;exact kia_one kitx_tuple I.kIn ⟨o,D,A⟩ (jh X.K "tuple" n (by simp) d) (fun z=>nomatch z) (c (by rcases d with rfl | rfl | rfl | rfl | rfl <;> exact h))
 |ref a =>
  have h':oq (match H3 a with
   |some (.lst _)=>some (n=="list")
   |some (.dct _)=>some (n=="dict")
   |_=>none) fun b=>u (.bl b) H3:=h
  rw[g.ref] at f
  cases e:H3 a with
  |none=>rw[e] at h';exact h'.elim
  |some o =>
   rw[e] at h'
   cases o with
   |lst t =>
    obtain⟨B,p,_⟩:=l a _ e
    exact eU I f (.lst p) (jh X.K "list" n (by simp) d) (c (by rcases d with rfl | rfl | rfl | rfl | rfl <;> exact h'))
   |dct t =>
    obtain⟨B,p,_⟩:=l a _ e
    exact eU I f (.dK p) (jh X.K "dict" n (by simp) d) (c (by rcases d with rfl | rfl | rfl | rfl | rfl <;> exact h'))
   |rol t=>exact h'.elim
   |dcp t=>exact h'.elim
   |exc _ _=>exact h'.elim
   |xdt _=>exact h'.elim
   |dci _=>exact h'.elim
   |dif _ _=>exact h'.elim
   |ins _ _=>exact h'.elim
 |ty m=>exact h.elim
variable {apos cpos:Pos}
def ty3 (b:String):T->Hp3->Prop:=fun x H=>match x with
 |.str _=>b="str"
 |.tup _=>b="tuple"
 |.ref a=>b="list"/\match H a with
  |some (.lst _)=>True
  |some (.rol _)=>True
  |_=>False
 |_=>False
def Lr {K:Frag}{t:T} (d:SimH K H3 H) (r:Rep K H t v) (h:ty3 Ty t H3):tyV K Ty v H:=by
 cases t with
 |str z=>rw[r.str];exact h
 |tup ts=>obtain⟨a,xs,rfl,c,_⟩:=r.tup;exact .inr (.inl ⟨h,xs,c⟩)
 |ref a =>
  rw[r.ref];refine .inl ⟨h.1,?_⟩;have b:=h.2;cases e:H3 a with
  |none=>rw[e] at b;exact b.elim
  |some o =>
  rw[e] at b;cases o with
  |lst ts=>obtain⟨xs,c,_⟩:=d.sqL (.inl e);exact⟨xs,c⟩
  |rol ts=>obtain⟨xs,c,_⟩:=d.sqL (.inr e);exact⟨xs,c⟩
  |dct _=>exact b.elim
  |dcp _=>exact b.elim
  |exc _ _=>exact b.elim
  |xdt _=>exact b.elim
  |dci _=>exact b.elim
  |dif _ _=>exact b.elim
  |ins _ _=>exact b.elim
 |_=>exact h.elim
def Uq (c:String) (m:T->List T->Hp3->VK3->Prop) (d:TE3) (t:TA3):TE3:=fun b H Q=>d b H fun x a=>ty3 c x a/\t b a fun xs e=>m x xs e Q
def dm (G:PlainAttrs Ty) (d:Slot Ty name id) (n:typeOf (.builtin id)=pure (.type "method_descriptor")) (F:vA X id m) (y:PE3 X o to) (B:PA3 X (e::es) t)
  (b:attributeBase o name X.env (eval o X.env)=eval o X.env:=by rfl)
  (j:((backTo cpos (starEach (e::es) X.env)).all (fun x=>!x.1)&&(backToKw cpos (keywordEach [] X.env)).all (fun x=>x.1.isSome)
   && decide ((e::es).length+([]:List Keyword).length+(if ([]:List Keyword).isEmpty then 0 else 1)<30))=true:=by rfl)
  (c:(apos.endLine==cpos.line)=true:=by rfl) (C:starEach (e::es) X.env=(false,eval e X.env)::starEach es X.env:=by rfl) (a:(backTo cpos (starEach es X.env)).any (·.1)=false:=by rfl) :
  PE3 X (.Call (.Attribute o name apos) (e::es) [] cpos) (Uq Ty m to t):=by
 refine PE.imp (Ua G d n F y B b j c C a) ?_;rintro K H Q ⟨i,H3,A,v,w,h,k⟩;exact⟨i,H3,_,v,w,h,fun x J z q l f s u=>⟨Lr f s u.1,i,q,_,v.mono l,f,u.2,fun vs I ts r g p D E=>⟨z,ts,r,A,s.mono g,D,p,E,k.at (l.trans g)⟩⟩⟩
def Ls:T->List T->Hp3->VK3->Prop:=fun x ts H Q=>match x,ts with
 |.ref a,[t]=>match H a with
  |some (.lst xs)=>xs.length<sizeLine/\Q .non (up3 H a (.lst (xs++[t])))
  |_=>False
 |_,_=>False
def bj:vA X "list.append" Ls:=by
 refine MtR.imp zp ?_;rintro x xs H Q ⟨i,ts,H3,l,c,d,f,h,k⟩
 match i,ts,h,c,d with
 |.ref a,[t],h,c,d =>
 obtain⟨v,rfl,j⟩:=d.one';have h':(match H3 a with
  |some (.lst xs)=>xs.length<sizeLine/\l .non (up3 H3 a (.lst (xs++[t])))
  |_=>False):=h
 split at h'
 ·rename_i m e;obtain⟨g,b,r⟩:=f a _ e;exact⟨a,g,v,c.ref,rfl,b,by rw[<- r.length];exact h'.1,k _ _ _ _ (bR (by rw[b];exact trivial)) (f.wrL b (r.append (.cons j .nil))) .ofNon h'.2⟩
 exact h'.elim
def Lw:T->List T->Hp3->VK3->Prop:=fun x ts H Q=>match x,ts with
 |.ref a,[.ref b]=>match H a,H b with
  |some (.lst xs),some (.lst ys)=>xs.length+ys.length<=sizeLine/\Q .non (up3 H a (.lst (xs++ys)))
  |_,_=>False
 |_,_=>False
def zF:vA X "list.extend" Lw:=by
 refine MtR.imp zq ?_;rintro x xs H Q ⟨m,ts,H3,p,g,i,d,h,k⟩
 match m,ts,h,g,i with
 |.ref a,[.ref b],h,g,i =>
 obtain⟨v,rfl,n⟩:=i.one';have h':(match H3 a,H3 b with
  |some (.lst xs),some (.lst c)=>xs.length+c.length<=sizeLine/\p .non (up3 H3 a (.lst (xs++c)))
  |_,_=>False):=h
 split at h'
 ·rename_i t s l o;obtain⟨c,f,r⟩:=d a _ l;obtain⟨q,e,j⟩:=d b _ o;exact⟨a,b,c,q,g.ref,by rw[n.ref],f,e,by rw[<- r.length,<- j.length];exact h'.1,k _ _ _ _ (bR (by rw[f];exact trivial)) (d.wrL f (r.append j)) .ofNon h'.2⟩
 exact h'.elim
def xV:T->List T->Hp3->VK3->Prop:=fun x ts H Q=>match x,ts with
 |.str z,[.str y]=>match Builtin.Str.occurrences z y 0 z.length 1 with
  |i::_=>Q (.int i) H
  |[]=>False
 |_,_=>False
def Cj:vA X "str.index" xV:=by
 intro g s p H x xs v us Q I a d n;obtain⟨m,ts,H3,l,c,b,j,h,k⟩:=n
 match m,ts,h,c,b with
 |.str z,[.str y],h,c,b =>
 obtain⟨w,rfl,o⟩:=b.one';obtain⟨u,rfl,f⟩:=vals1 d;rw[o.str] at f;obtain⟨t',rfl⟩:=f;rw[c.str] at a;obtain⟨t,rfl⟩:=a;have h':(match Builtin.Str.occurrences z y 0 z.length 1 with
  |i::_=>l (.int i) H3
  |[]=>False):=h
 split at h'
 ·rename_i i rest e;exact SC.index e ⟨.int i,H,I.tok _,⟨_,rfl⟩,k _ _ _ _ .refl j .ofInt h'⟩
 exact h'.elim
end
def compLook (n0:List (Str × NameKind)) (N:List Str) (b:Bool) (a:List (Str × NameKind)) (N':List Str) (nt:Nat) (cap:List Nat):Bool :=
 b&&a.all (fun y=>y.2 != .cell||a.lookup y.1==some .cell)&&a.all (fun x=>x.2 != .local||a.lookup x.1==some .local)&&a.all (fun y=>y.2 != .free||n0.lookup y.1==some .cell||n0.lookup y.1==some .free)
  && N'.length==nt+cap.length&&(List.range cap.length).all fun j=>match N'[nt+j]?,cap[j]? with
   |some x,some i=>N[i]?==some x&&a.lookup x==some .free
   |_,_=>false
def bN (o:X.env.scope.names=n0) (g:X.N=N) (h:compLook n0 N (scope.kind==.function) scope.names N' nt cap=true):CompSc X N' nt cap scope:=by
 unfold compLook at h;simp only[YD,Zx,Zt,bne_iff_ne,Bool.or_eq_true,YF] at h;obtain⟨⟨⟨⟨⟨m,n⟩,d⟩,c⟩,f⟩,p⟩:=h;refine⟨m,fun y a e=>(n y a).resolve_left fun z=>z e,fun x l e=>(d x l).resolve_left fun z=>z e,fun y a e=>?_,f,fun j x e=>?_⟩
 ·show X.env.scope.names.lookup y.1=_\/X.env.scope.names.lookup y.1=_;rw[o];rcases c y a with (z | z) | z
  ·exact absurd e z
  ·exact .inl z
  exact .inr z
 have k:j<cap.length:=by have:=(Zc.mp e).1;omega
 have q:=p j k;rw[e] at q;cases b:cap[j]? with
 |none=>rw[b] at q;cases q
 |some i =>
 rw[b] at q;simp only[YD,Zt] at q;exact⟨i,rfl,by rw[g];exact q.1,q.2⟩
def Pa (n00 a:List (Str × NameKind)):List (Str × NameKind):=a.map fun (n,k)=>if (k==NameKind.free&&n00.lookup n==some .cell)=true then (n,NameKind.cell) else (n,k)
def Iv (j:X.env.scope.names=n00) (i:X.env.scope.kind=.function) (d:c=N) (h:compLook (Pa n00 a.names) N (scope.kind==.function) scope.names N' nt cap=true):CompSc (bU X c a g b s H C f) N' nt cap scope:=by
 refine bN (n0:=Pa n00 a.names) (N:=N) ?_ d h;show (relabel a X.env).names=_;unfold relabel Pa;dsimp only;refine Zj fun y l=>?_;obtain⟨n,k⟩:=y;have e:X.env.kindOf n=n00.lookup n:=by unfold Env.kindOf;rw[j]
 simp only[e,i,beq_self_eq_true,Bool.and_true]
structure G3 (K:Frag) (mg:Str->Option Value) (x:Str) (st:Stmt) (ps:List Str) (f:Addr) (fd:FuncData):Prop where
 fn:Fun K x x st f fd
 b:Binds K fd ps []
 m:mg x=some (.ref f)
structure Bl (mg:Str->Option Value):Prop where
 len_:mg "len"=none
 sum_:mg "sum"=none
 isinstance_:mg "isinstance"=none
 all_:mg "all"=none
 any_:mg "any"=none
 list_:mg "list"=none
 tuple_:mg "tuple"=none
 int_:mg "int"=none
 str_:mg "str"=none
 bool_:mg "bool"=none
 range_:mg "range"=none
 zip_:mg "zip"=none
 reversed_:mg "reversed"=none
 enumerate_:mg "enumerate"=none
 set_:mg "set"=none
 sorted_:mg "sorted"=none
 min_:mg "min"=none
 max_:mg "max"=none
 dict_:mg "dict"=none
 repr_:mg "repr"=none
def cF:bootBuiltins "len"=some (.builtin "len"):=by decide +kernel
def vG:bootBuiltins "sum"=some (.builtin "sum"):=by decide +kernel
def bh:bootBuiltins "isinstance"=some (.builtin "isinstance"):=by decide +kernel
def Pb:bootBuiltins "any"=some (.builtin "any"):=by decide +kernel
def lG:bootBuiltins "list"=some (.type "list"):=by decide +kernel
def cj:bootBuiltins "tuple"=some (.type "tuple"):=by decide +kernel
def Ck:bootBuiltins "int"=some (.type "int"):=by decide +kernel
def Pg:bootBuiltins "str"=some (.type "str"):=by decide +kernel
def Iw:bootBuiltins "bool"=some (.type "bool"):=by decide +kernel
def Room.u30 (r:Room k A):A.units+30<cLine:=by have:=r.un;omega
def Room.u31 (r:Room k A):A.units+31<cLine:=by have:=r.un;omega
def Room.u1 (r:Room k A):A.units+1<cLine:=by have:=r.un;omega
def vq (o:Option (Option T)) (Q:T->Prop):Prop:=match o with
 |some (some t)=>Q t
 |_=>False
def X6 (t:T) (Q:T->Prop):vq (some (some t)) Q=Q t:=rfl
def Cm (i:Nat):rP i σ H Q=vq (σ[i]?) fun t=>Q t H:=rfl
def bq (x:T) (Q:Bool->Prop):Prop:=match x with
 |.bl k=>Q k
 |_=>False
def gQ (b:Bool) (Q:Bool->Prop):bq (.bl b) Q=Q b:=rfl
def Ph (t:TE3) (Q:Bool->Hp3->Prop):jW t σ H Q=t σ H fun x H'=>bq x fun k=>Q k H':=rfl
def Iz (r a:R3) (b tb c:TE3):pZ r a b tb c σ H Q=b σ H fun x e=>tb σ e fun y d=>r x y d fun z H3=>bq z fun k=>if k=true then c σ H3 fun w f=>a y w f Q else Q (.bl false) H3:=rfl
def Pj (b tb:TE3):Bu b tb σ H Q=b σ H fun x a=>bq x fun c=>if c=true then tb σ a Q else Q (.bl false) a:=rfl
def Ur (b tb:TE3):La b tb σ H Q=b σ H fun x a=>bq x fun c=>if c=true then Q (.bl true) a else tb σ a Q:=rfl
def Pk (a:TE3):Bv a σ H Q=a σ H fun x b=>bq x fun c=>Q (.bl (!c)) b:=rfl
def fG (v:a) (Q:a->Prop):oq (some v) Q=Q v:=rfl
def q_I (C:Int->Int->Prop) (g:Int->Int->T) (i j:Int):rI3 C g (.int i) (.int j) H Q=(C i j/\Q (g i j) H):=rfl
def X7 (g:Int->Int->T) (i j:Int):rY g (.int i) (.int j) H Q=Q (g i j) H:=rfl
def Pn (i j:Int):sr (.int i) (.int j) H Q=Q (.int (i+j)) H:=rfl
def Pq (i j:Str):sr (.str i) (.str j) H Q=(i.length+j.length<=sizeLine/\Q (.str (i++j)) H):=rfl
def Pu (xs a:List T):sr (.tup xs) (.tup a) H Q=(xs.length+a.length<=sizeLine/\Q (.tup (xs++a)) H):=rfl
def Us (o u:Option O3) (H:Hp3) (Q:VK3):Prop:=match o,u with
 |some (.lst xs),some (.lst ys)=>xs.length+ys.length<=sizeLine/\∀p,H p=none->Q (.ref p) (up3 H p (.lst (xs++ys)))
 |_,_=>False
def Cp (a b:Addr):sr (.ref a) (.ref b) H Q=Us (H a) (H b) H Q:=rfl
def jX (xs a:List T):Us (some (.lst xs)) (some (.lst a)) H Q=(xs.length+a.length<=sizeLine/\∀p,H p=none->Q (.ref p) (up3 H p (.lst (xs++a)))):=rfl
def Ut (n:Bool) (i j:Int):su n (.int i) (.int j) H Q=Q (.bl (if n then !decide (i=j) else decide (i=j))) H:=rfl
def Uu (n:Bool) (i j:Str):su n (.str i) (.str j) H Q=Q (.bl (if n then !decide (i=j) else decide (i=j))) H:=rfl
def Uv (n:Bool) (i j:Bool):su n (.bl i) (.bl j) H Q=Q (.bl (if n then !decide (i=j) else decide (i=j))) H:=rfl
def Uw (n:Bool) (xs a:List T):su n (.tup xs) (.tup a) H Q=(xs.all (pl 20)=true/\a.all (pl 20)=true/\Q (.bl (if n then !decide (xs=a) else decide (xs=a))) H):=rfl
def eqH (n:Bool) (a b:Addr) (o u:Option O3) (H:Hp3) (Q:VK3):Prop:=match o,u with
 |some (.lst xs),some (.lst ys)=>a≠b/\xs.all (pl 20)=true/\ys.all (pl 20)=true/\Q (.bl (if n then !@decide (xs=ys) (instDecidableEqList xs ys) else @decide (xs=ys) (instDecidableEqList xs ys))) H
 |_,_=>False
def Lx (n:Bool) (a b:Addr):su n (.ref a) (.ref b) H Q=eqH n a b (H a) (H b) H Q:=rfl
def sO (n:Bool) (a b:Addr) (xs c:List T):eqH n a b (some (.lst xs)) (some (.lst c)) H Q=(a≠b/\xs.all (pl 20)=true/\c.all (pl 20)=true/\Q (.bl (if n then !decide (xs=c) else decide (xs=c))) H):=rfl
def Ly (n:Bool) (x:T) (ts:List T):sG n x (.tup ts) H Q=(pl 20 x=true/\ts.all (pl 20)=true/\Q (.bl (dj n x ts)) H):=rfl
def Ux (n:Bool) (i j:Str):sG n (.str i) (.str j) H Q=Q (.bl (occ n i j)) H:=rfl
def inH (n:Bool) (x:T) (o:Option O3) (H:Hp3) (Q:VK3):Prop:=match o with
 |some (.lst ts)=>pl 20 x=true/\ts.all (pl 20)=true/\Q (.bl (dj n x ts)) H
 |some (.rol ts)=>pl 20 x=true/\ts.all (pl 20)=true/\Q (.bl (dj n x ts)) H
 |_=>False
def Lz (n:Bool) (x:T) (a:Addr):sG n x (.ref a) H Q=inH n x (H a) H Q:=rfl
def LC (n:Bool) (x:T) (ts:List T):inH n x (some (.lst ts)) H Q=(pl 20 x=true/\ts.all (pl 20)=true/\Q (.bl (dj n x ts)) H):=rfl
def ixH (o:Option O3) (i:Int) (H:Hp3) (Q:VK3):Prop:=match o with
 |some (.lst ts)=>oq (atI ts i) fun t=>Q t H
 |some (.rol ts)=>oq (atI ts i) fun t=>Q t H
 |_=>False
def Cq (a:Addr) (i:Int):sH (.ref a) (.int i) H Q=ixH (H a) i H Q:=rfl
def xW (ts:List T) (i:Int):ixH (some (.lst ts)) i H Q=oq (atI ts i) fun t=>Q t H:=rfl
def Uy (ts:List T) (i:Int):sH (.tup ts) (.int i) H Q=oq (atI ts i) fun t=>Q t H:=rfl
def Uz (z:Str) (i:Int):sH (.str z) (.int i) H Q=(z.length<=sizeLine/\oq (atI z.cps.toList i) fun c=>Q (.str ⟨#[c]⟩) H):=rfl
def stH (o:Option O3) (a:Addr) (k:Int) (v:T) (H:Hp3) (Q:Hp3->Prop):Prop:=match o with
 |some (.lst ts)=>oq (ixN ts.length k) fun j=>Q (up3 H a (.lst (ts.set j v)))
 |_=>False
def Px (a:Addr) (k:Int) (v:T) (Q:Hp3->Prop):Cd (.ref a) (.int k) v H Q=stH (H a) a k v H Q:=rfl
def UG (ts:List T) (a:Addr) (k:Int) (v:T) (Q:Hp3->Prop):stH (some (.lst ts)) a k v H Q=oq (ixN ts.length k) fun j=>Q (up3 H a (.lst (ts.set j v))):=rfl
def pq (x:T) (Q:Option Int->Prop):Prop:=match x with
 |.int i=>Q (some i)
 |_=>False
def X8 (i:Int) (Q:Option Int->Prop):pq (.int i) Q=Q (some i):=rfl
def Py (t:TE3) (Q:Option Int->Hp3->Prop):Ce t σ H Q=t σ H fun x a=>pq x fun o=>Q o a:=rfl
def slH (o:Option O3) (b a:Option Int) (H:Hp3) (Q:VK3):Prop:=match o with
 |some (.lst ts)=>∀p,H p=none->Q (.ref p) (up3 H p (.lst (iV ts b a)))
 |some (.rol ts)=>∀p,H p=none->Q (.ref p) (up3 H p (.lst (iV ts b a)))
 |_=>False
def UJ (a:Addr) (c b:Option Int):Ip (.ref a) c b H Q=slH (H a) c b H Q:=rfl
def LK (ts:List T) (b a:Option Int):slH (some (.lst ts)) b a H Q=∀p,H p=none->Q (.ref p) (up3 H p (.lst (iV ts b a))):=rfl
def Pz (ts:List T) (b a:Option Int):slH (some (.rol ts)) b a H Q=∀p,H p=none->Q (.ref p) (up3 H p (.lst (iV ts b a))):=rfl
def UL (ts:List T) (b a:Option Int):Ip (.tup ts) b a H Q=(¬(HT.sIx ts.length 0 b=0/\HT.sIx ts.length ts.length a=ts.length)/\Q (.tup (iV ts b a)) H):=rfl
def UT (z:Str) (b a:Option Int):Ip (.str z) b a H Q=(z.length<=sizeLine/\Q (.str (Txt.slice z b a)) H):=rfl
def dgH (o:Option O3) (k:Str) (H:Hp3) (Q:VK3):Prop:=match o with
 |some (.dct kvs)=>oq (aP k kvs) fun t=>Q t H
 |_=>False
def q_D (a:Addr) (k:Str):r3D (.ref a) (.str k) H Q=dgH (H a) k H Q:=rfl
def UV (kvs:List (Str × T)) (k:Str):dgH (some (.dct kvs)) k H Q=oq (aP k kvs) fun t=>Q t H:=rfl
def dpH (x y v:T) (H:Hp3) (Q:Hp3->Prop):Prop:=match x,y with
 |.ref a,.str k=>match H a with
  |some (.dct kvs)=>kvs.length<sizeLine/\Q (up3 H a (.dct (put3 k v kvs)))
  |_=>False
 |_,_=>False
def dpO (o:Option O3) (a:Addr) (k:Str) (v:T) (H:Hp3) (Q:Hp3->Prop):Prop:=match o with
 |some (.dct kvs)=>kvs.length<sizeLine/\Q (up3 H a (.dct (put3 k v kvs)))
 |_=>False
def PB (a b c:TE3) (D:Ends3):Cg a b c D σ H=c σ H fun v d=>a σ d fun x f=>b σ f fun y H3=>dpH x y v H3 fun e=>D.nx σ e:=rfl
def UW (a:Addr) (k:Str) (v:T) (Q:Hp3->Prop):dpH (.ref a) (.str k) v H Q=dpO (H a) a k v H Q:=rfl
def U0 (kvs:List (Str × T)) (a:Addr) (k:Str) (v:T) (Q:Hp3->Prop):dpO (some (.dct kvs)) a k v H Q=(kvs.length<sizeLine/\Q (up3 H a (.dct (put3 k v kvs)))):=rfl
def lnH (o:Option O3) (H:Hp3) (Q:VK3):Prop:=match o with
 |some (.lst xs)=>Q (.int xs.length) H
 |some (.rol xs)=>Q (.int xs.length) H
 |_=>False
def PJ (a:Addr):xU [.ref a] H Q=lnH (H a) H Q:=rfl
def U3 (xs:List T):lnH (some (.lst xs)) H Q=Q (.int xs.length) H:=rfl
def PK (xs:List T):xU [.tup xs] H Q=Q (.int xs.length) H:=rfl
def PL (z:Str):xU [.str z] H Q=(z.length<=sizeLine/\Q (.int z.length) H):=rfl
def liH (o:Option O3) (H:Hp3) (Q:VK3):Prop:=match o with
 |some (.lst xs)=>∀p,H p=none->Q (.ref p) (up3 H p (.lst xs))
 |some (.rol xs)=>∀p,H p=none->Q (.ref p) (up3 H p (.lst xs))
 |_=>False
def IK (a:Addr):vC [.ref a] H Q=liH (H a) H Q:=rfl
def U4 (xs:List T):liH (some (.lst xs)) H Q=∀p,H p=none->Q (.ref p) (up3 H p (.lst xs)):=rfl
def IV (xs:List T):vC [.tup xs] H Q=∀p,H p=none->Q (.ref p) (up3 H p (.lst xs)):=rfl
def tpH (o:Option O3) (H:Hp3) (Q:VK3):Prop:=match o with
 |some (.lst xs)=>Q (.tup xs) H
 |some (.rol xs)=>Q (.tup xs) H
 |_=>False
def PN (a:Addr):qj [.ref a] H Q=tpH (H a) H Q:=rfl
def U5 (xs:List T):tpH (some (.lst xs)) H Q=Q (.tup xs) H:=rfl
def PP (xs:List T):qj [.tup xs] H Q=Q (.tup xs) H:=rfl
def PQ (i:Int):Ci [.int i] H Q=Q (.int i) H:=rfl
def PX (b:Bool):Ci [.bl b] H Q=Q (.int (if b then 1 else 0)) H:=rfl
def smH (o:Option O3) (H:Hp3) (Q:VK3):Prop:=match o with
 |some (.lst xs)=>oq (ints3 xs) fun ns=>Q (.int ns.sum) H
 |some (.rol xs)=>oq (ints3 xs) fun ns=>Q (.int ns.sum) H
 |_=>False
def P0 (a:Addr):Lq [.ref a] H Q=smH (H a) H Q:=rfl
def U6 (xs:List T):smH (some (.lst xs)) H Q=oq (ints3 xs) fun ns=>Q (.int ns.sum) H:=rfl
def xX (x:T) (n:String):o5 [x,.ty n] H Q=((n="str"\/n="int"\/n="bool"\/n="tuple"\/n="list")/\oq (isT n x H) fun b=>Q (.bl b) H):=rfl
def U7 (a:String) (z:Str):ty3 a (.str z) H=(a="str"):=rfl
def tyH (o:Option O3):Prop:=match o with
 |some (.lst _)=>True
 |some (.rol _)=>True
 |_=>False
def U8 (b:String) (a:Addr):ty3 b (.ref a) H=(b="list"/\tyH (H a)):=rfl
def U9 (xs:List T):tyH (some (.lst xs))=True:=rfl
def apH (o:Option O3) (a:Addr) (t:T) (H:Hp3) (Q:VK3):Prop:=match o with
 |some (.lst xs)=>xs.length<sizeLine/\Q .non (up3 H a (.lst (xs++[t])))
 |_=>False
def Va (a:Addr) (t:T):Ls (.ref a) [t] H Q=apH (H a) a t H Q:=rfl
def Cr (xs:List T) (a:Addr) (t:T):apH (some (.lst xs)) a t H Q=(xs.length<sizeLine/\Q .non (up3 H a (.lst (xs++[t])))):=rfl
def exH (o u:Option O3) (a:Addr) (H:Hp3) (Q:VK3):Prop:=match o,u with
 |some (.lst xs),some (.lst ys)=>xs.length+ys.length<=sizeLine/\Q .non (up3 H a (.lst (xs++ys)))
 |_,_=>False
def Vb (a b:Addr):Lw (.ref a) [.ref b] H Q=exH (H a) (H b) a H Q:=rfl
def Vc (xs b:List T) (a:Addr):exH (some (.lst xs)) (some (.lst b)) a H Q=(xs.length+b.length<=sizeLine/\Q .non (up3 H a (.lst (xs++b)))):=rfl
def idH (o:List Nat) (H:Hp3) (Q:VK3):Prop:=match o with
 |i::_=>Q (.int i) H
 |[]=>False
def IW (z y:Str):xV (.str z) [.str y] H Q=idH (Builtin.Str.occurrences z y 0 z.length 1) H Q:=rfl
def Vd (i:Nat) (r:List Nat):idH (i::r) H Q=Q (.int i) H:=rfl
def rgq (vs:List T) (H:Hp3) (R:List T->(Hp3->Prop)->Hp3->Prop):Prop:=match vs with
 |[.int j]=>-(2^62)<=j/\j<2^62/\R (d8 0 j.toNat) cJ H
 |[.int i,.int j]=>(-(2^62)<=i/\i<2^62 /\ -(2^62)<=j/\j<2^62)/\R (d8 i (j - i).toNat) cJ H
 |_=>False
def Ve (a:TA3) (R:List T->(Hp3->Prop)->Hp3->Prop):BP a σ H R=a σ H fun vs b=>rgq vs b R:=rfl
def Vf (j:Int) (R:List T->(Hp3->Prop)->Hp3->Prop):rgq [.int j] H R=(-(2^62)<=j/\j<2^62/\R (d8 0 j.toNat) cJ H):=rfl
def Vg (i j:Int) (R:List T->(Hp3->Prop)->Hp3->Prop):rgq [.int i,.int j] H R=((-(2^62)<=i/\i<2^62 /\ -(2^62)<=j/\j<2^62)/\R (d8 i (j - i).toNat) cJ H):=rfl
def tuq (x:T) (H:Hp3) (R:List T->(Hp3->Prop)->Hp3->Prop):Prop:=match x with
 |.tup ts=>R ts cJ H
 |_=>False
def Qa (a:TE3) (R:List T->(Hp3->Prop)->Hp3->Prop):Lj a σ H R=a σ H fun x b=>tuq x b R:=rfl
def Vh (ts:List T) (R:List T->(Hp3->Prop)->Hp3->Prop):tuq (.tup ts) H R=R ts cJ H:=rfl
def liq (x:T) (H:Hp3) (R:List T->(Hp3->Prop)->Hp3->Prop):Prop:=match x with
 |.ref a=>match H a with
  |some (.lst ts)=>R ts (bF a ts) H
  |some (.rol ts)=>R ts (bF a ts) H
  |_=>False
 |_=>False
def liO (o:Option O3) (a:Addr) (H:Hp3) (R:List T->(Hp3->Prop)->Hp3->Prop):Prop:=match o with
 |some (.lst ts)=>R ts (bF a ts) H
 |some (.rol ts)=>R ts (bF a ts) H
 |_=>False
def Ja (a:TE3) (R:List T->(Hp3->Prop)->Hp3->Prop):BK a σ H R=a σ H fun x b=>liq x b R:=rfl
def LQ (a:Addr) (R:List T->(Hp3->Prop)->Hp3->Prop):liq (.ref a) H R=liO (H a) a H R:=rfl
def xY (ts:List T) (a:Addr) (R:List T->(Hp3->Prop)->Hp3->Prop):liO (some (.lst ts)) a H R=R ts (bF a ts) H:=rfl
def Qc (Q:St3->Hp3->Prop):xH [] σ H Q=Q σ H:=rfl
def Jb (t:TG3) (u:nU) (x:T) (r:List T) (Q:St3->Hp3->Prop):je t u (x::r) σ H Q=t x σ H fun a H'=>u r a H' Q:=rfl
def Qd (n:Nat) (g:nU) (ts:List T) (Q:St3->Hp3->Prop):xJ n g (.tup ts) σ H Q=(ts.length=n/\g ts σ H Q):=rfl
def xZ (h:j<n):ixN n (j:Int)=some j:=by
 unfold ixN;rw[if_pos (aaH j),if_pos (by omega),Zk]
def at0 (a:b) (r:List b):atI (a::r) 0=some a:=cz (j:=0) rfl
def at1 (a b:c) (r:List c):atI (a::b::r) 1=some b:=cz (j:=1) rfl
def at2 (a b c:d) (r:List d):atI (a::b::c::r) 2=some c:=cz (j:=2) rfl
def iG (I:List T->St3->Hp3->Prop) (c:I ts a H) (f:∀a H,I [] a H->still H/\D.nx a H) (e:∀t r a H (N:St3->Hp3->Prop),I (t::r) a H->(∀b H',I r b H'->N b H')->still H/\g t a H fun σ2 H2=>tb { D with nx:=N,ct:=N,bk:=D.nx} σ2 H2):iter3 g tb D still ts a H:=by
 induction ts generalizing a H with
 |nil=>exact f a H c
 |cons t r d=>exact e t r a H (iter3 g tb D still r) c fun b H' h=>d h
def jB (I:List T->List T->St3->Hp3->Prop) (i:I ts a c H) (l:∀a c H,I [] a c H->still H/\a.length<=sizeLine/\d a H) (k:∀t r a c H (N:List T->St3->Hp3->Prop),I (t::r) a c H->(∀e f H',I r e f H'->N e f H') ->
   still H/\g t c H fun σ2 H2=>tt σ2 H2 fun b H3=>if b=true then te σ2 H3 fun y H4=>a.length<sizeLine/\N (a++[y]) σ2 H4 else N a σ2 H3):cIter3 g tt te still d ts a c H:=by
 induction ts generalizing c H a with
 |nil=>exact l a c H i
 |cons t r j=>exact k t r a c H (cIter3 g tt te still d r) i fun e f H' h=>j h
def sx0 (n:Nat):HT.sIx n 0 none=0:=rfl
def Cu {k:Nat}:iV ts none (some (k:Int))=ts.take k:=by
 unfold iV;rw[sx0,HT.sIx_nat,List.drop_zero,Nat.sub_zero];by_cases h:k<=ts.length
 ·rw[Nat.min_eq_left h]
 rw[Nat.min_eq_right (by omega),List.take_length,List.take_of_length_le (by omega)]
def Cv {k:Nat}:iV ts (some (k:Int)) none=ts.drop k:=by
 unfold iV;rw[HT.sIx_none,HT.sIx_nat];by_cases h:k<=ts.length
 ·rw[Nat.min_eq_left h,List.take_of_length_le (by simp)]
 rw[Nat.min_eq_right (by omega),List.drop_of_length_le (l_ _),List.drop_of_length_le (by omega),List.take_nil]
def cL (h:up3 H a o b=none):b≠a/\H b=none:=by
 by_cases e:b=a
 ·subst e;rw[au] at h;cases h
 rw[aF e] at h;exact⟨e,h⟩
def Cw (h:a≠b):up3 (up3 H a o) b u=up3 (up3 H b u) a o:=by
 funext c;by_cases e:c=b
 ·subst e;rw[au,aF (Ne.symm h),au]
 rw[aF e];by_cases d:c=a
 ·subst d;rw[au,au]
 rw[aF d,aF d,aF e]
def bI {o:Type} (d f:o->T) (g:List o) (rest:St3) (i:still H) (q:g.length<=sizeLine) (s:∀a∈g,∀Q:VK3,Q (f a) H->te (some (d a)::rest) H Q) (k:h (g.map f) H):cIter3 (fB 0) xN te still h (g.map d) [] (v::rest) H:=by
 refine jB (fun r m n H'=>∃(e j:List o) (v:Option T),n=v::rest/\r=e.map d/\m=j.map f/\j++e=g/\H'=H) ⟨g,[],v,rfl,rfl,rfl,rfl,rfl⟩ ?_ ?_
 ·rintro m n H' ⟨e,j,v,rfl,c,rfl,b,rfl⟩;have l:e=[]:=aag.mp c.symm;subst l;rw[S_] at b;subst b;exact⟨i,by rw[e_];exact q,k⟩
 rintro x r m n H' N ⟨e,j,v,rfl,c,rfl,b,rfl⟩ p;cases e with
 |nil=>cases c
 |cons t e =>
 injection c with e1 e2;subst e1 e2;refine⟨i,?_⟩;show te (some (d t)::rest) H' _;refine s t (by rw[<- b];simp) _ ⟨?_,p _ _ _ ⟨e,j++[t],_,rfl,rfl,by simp,by rw[<- b];simp,rfl⟩⟩;have:=W_ List.length b;simp only[d_,j_] at this;rw[e_];omega
def cU:List T->Option (List Bool)
 |[]=>some []
 |.bl x::r=>(cU r).map (x::·)
 |_=>none
def mJ:∀(ns:List Bool),cU (ns.map T.bl)=some ns
 |[]=>rfl
 |n::r=>by simp [cU,mJ r]
def kO {K:Frag}:∀{ts:List T}{xs:List V}{us:List Value}{c:List Bool},cU ts=some c->Reps K H ts xs->Vals xs us->us=c.map Value.bool
 |[],xs,us,c,e,r,v=>by
  cases e
  rw[r.inv0] at v
  cases v
  rfl
 |.bl i::l,xs,us,c,e,r,v=>by
  obtain⟨x,h,rfl,g,f⟩:=r.inv
  cases v with
  |cons a b =>
   rw[g.bl] at a
   cases d:cU l with
   |none=>simp [cU,d] at e
   |some j =>
    simp [cU,d] at e
    subst e
    cases a
    rw[kO d f b]
    rfl
 |.non::_,_,_,_,e,_,_=>by simp [cU] at e
 |.int _::_,_,_,_,e,_,_=>by simp [cU] at e
 |.str _::_,_,_,_,e,_,_=>by simp [cU] at e
 |.tup _::_,_,_,_,e,_,_=>by simp [cU] at e
 |.ref _::_,_,_,_,e,_,_=>by simp [cU] at e
 |.ty _::_,_,_,_,e,_,_=>by simp [cU] at e
def Yb:T->Option Key
 |.int i=>some (.inl i)
 |.str x=>some (.inr x)
 |_=>none
def Cy:List T->Option (List Key)
 |[]=>some []
 |t::r=>match Yb t,Cy r with
  |some k,some ks=>some (k::ks)
  |_,_=>none
def LR (k:List Key):List (List Key × T)->Option T
 |[]=>none
 | (k',v)::r=>if k'=k then some v else LR k r
def putP (k:List Key) (v:T) (kvs:List (List Key × T)):List (List Key × T) :=
 if (kvs.any fun a=>decide (a.1=k))=true then kvs.map (fun a=>if a.1=k then (a.1,v) else a) else kvs++[(k,v)]
def Yc (o:Option O3) (ts:List T) (H:Hp3) (Q:VK3):Prop:=match o with
 |some (.dcp kvs)=>oq (Cy ts) fun a=>oq (LR a kvs) fun t=>Q t H
 |_=>False
def dgP (x:T) (ts:List T) (H:Hp3) (Q:VK3):Prop:=match x with
 |.ref a=>Yc (H a) ts H Q
 |_=>False
def Jc (b:TE3) (d:TA3):TE3:=fun a H Q=>b a H fun x c=>d a c fun ts e=>ts.length<=sizeLine/\dgP x ts e Q
def Yd (o:Option O3) (a:Addr) (ts:List T) (v:T) (H:Hp3) (Q:Hp3->Prop):Prop:=match o with
 |some (.dcp kvs)=>oq (Cy ts) fun b=>kvs.length<sizeLine/\Q (up3 H a (.dcp (putP b v kvs)))
 |_=>False
def dpP (x:T) (ts:List T) (v:T) (H:Hp3) (Q:Hp3->Prop):Prop:=match x with
 |.ref a=>Yd (H a) a ts v H Q
 |_=>False
def Jd (b:TE3) (e:TA3) (f:TE3):TS3:=fun D a H=>f a H fun v c=>b a c fun x g=>e a g fun ts H3=>ts.length<=sizeLine/\dpP x ts v H3 fun d=>D.nx a d
section
variable {H:Hp3}{Q:VK3}
variable {X:Cx}{o i k value:Expr}
def Cz:TE3:=fun _ H Q=>∀p,H p=none->Q (.ref p) (up3 H p (.dct []))
def Je:TE3:=fun _ H Q=>∀p,H p=none->Q (.ref p) (up3 H p (.dcp []))
def SimH.newD {K:Frag}{H:Hp} (s:SimH K H3 H) (c:H p=none):SimH K (up3 H3 p (.dct [])) (upd H p (.dK [])):=fun a o e=>by
 by_cases b:a=p
 ·subst b;rw[au] at e;cases e;exact⟨[],aY,.nil⟩
 rw[aF b] at e;exact s.new c a o e
def lH:PE3 X (.Dict [] [] pos) Cz:=by
 refine PE.imp rM ?_;rintro e H Q ⟨c,H3,f,d,b,h,k⟩ p a;exact k _ _ _ _ (aO a) (b.newD a) .ofRef (h p (b.fresh a))
def d1q (y:T) (p:Addr) (v:T) (H:Hp3) (Q:VK3):Prop:=match y with
 |.str k=>H p=some (.dct [])/\Q (.ref p) (up3 H p (.dct [(k,v)]))
 |_=>False
def CG (tk c:TE3):TE3:=fun a H Q=>∀p,H p=none->tk a (up3 H p (.dct [])) fun y b=>c a b fun v d=>d1q y p v d Q
def Vi (x:Str) (p:Addr) (v:T):d1q (.str x) p v H Q=(H p=some (.dct [])/\Q (.ref p) (up3 H p (.dct [(x,v)]))):=rfl
def CJ (u:PE3 X k tk) (s:PE3 X v tv):PE3 X (.Dict [some k] [v] pos) (CG tk tv):=by
 refine PE.imp (xx (rN u s xu) rfl rfl (by simp) (by show 1<=15;decide)) ?_;rintro F H Q ⟨d,H3,B,o,n,h,k⟩ p l;have a:TupLe X.K H (upd H p (.dK [])):=aO l;refine⟨d,up3 H3 p (.dct []),_,o.mono a,n.newD l,h p (n.fresh l),fun y E t m f j C A=>?_⟩;refine⟨d,m,_,o.mono (a.trans f),j,A,fun z D w g b c x q=>?_⟩;cases t with
 |str key =>
  have h':g p=some (.dct [])/\B (.ref p) (up3 g p (.dct [(key,w)])):=q
  obtain⟨ws,i,r⟩:=c p _ h'.1
  cases r
  refine⟨i,[(Sum.inr key,z)],by rw[(C.mono b).str];rfl,by show 1<=15;decide,?_⟩
  have e:jc [] [((Sum.inr key:Key),z)]=[((Sum.inr key:Key),z)]:=rfl
  rw[e]
  exact k _ _ _ _ (a.trans (f.trans (b.trans (bR (by rw[i];exact trivial))))) (c.wrD i (.cons ⟨rfl,x⟩ .nil)) .ofRef h'.2
 |_=>exact q.elim
def diH (a:Bool) (y:T) (o:Option O3) (H:Hp3) (Q:VK3):Prop:=match y,o with
 |.str k,some (.dct kvs)=>Q (.bl (if a then !(aP k kvs).isSome else (aP k kvs).isSome)) H
 |_,_=>False
def diq (b:Bool) (y x:T) (H:Hp3) (Q:VK3):Prop:=match x with
 |.ref a=>diH b y (H a) H Q
 |_=>False
def CK (a:Bool) (e c:TE3):TE3:=fun b H Q=>e b H fun y d=>c b d fun x f=>diq a y x f Q
def Vj (b:Bool) (y:T) (a:Addr):diq b y (.ref a) H Q=diH b y (H a) H Q:=rfl
def Vk (a:Bool) (k:Str) (kvs:List (Str × T)):diH a (.str k) (some (.dct kvs)) H Q=Q (.bl (if a then !(aP k kvs).isSome else (aP k kvs).isSome)) H:=rfl
def o6 {K:Frag}{H:Hp}{k:Str}:∀{kvs:List (Str × T)}{vs:List (Key × V)},RepD K H kvs vs->(eZ vs (Sum.inr k:Key)).isSome=(aP k kvs).isSome
 |[],_,.nil=>rfl
 | (k',t')::r,_,.cons (b:=(kk,v')) ⟨e1,rv⟩ rr=>by
  simp only at e1 rv
  subst e1
  unfold aP
  by_cases a:k'=k
  ·
   rw[if_pos a,fc (by rw[a])];rfl
  ·
   rw[if_neg a,fj (by intro z;exact a (Sum.inr.inj z))]
   exact o6 rr
def yc {H:Hp} (i:SimH X.K H3 H) (m:Rep X.K H f x) (n:Rep X.K H d y) (q:diq c d f H3 h):
  ∃a g b,x=.ref a/\DGet H a y g/\(if c then !g.isSome else g.isSome)=b/\h (.bl b) H3:=by
 cases f with
 |ref a =>
  have h':diH c d (H3 a) H3 h:=q
  cases d with
  |str k =>
   cases e:H3 a with
   |none=>rw[e] at h';exact h'.elim
   |some l =>
    rw[e] at h'
    cases l with
    |dct kvs =>
     obtain⟨ws,j,r⟩:=i a _ e
     refine⟨a,eZ ws (Sum.inr k:Key),_,m.ref,by rw[n.str];exact DGet.k (k:=Sum.inr k) j,rfl,?_⟩
     rw[o6 r]
     exact h'
    |_=>exact h'.elim
  |_=>exact h'.elim
 |_=>exact q.elim
def mK (u:X.A.units+1<cLine) (E:PE3 X i ti) (s:PE3 X o td) (C:behindInMarks .In o=false:=by rfl):PT3 X (.Compare i [.In] [o] pos) (jW (CK false ti td)):=by
 refine PT.imp (uT (O1 u E s) C) ?_;rintro L H Q ⟨f,H3,J,n,r,h,k⟩;refine⟨f,H3,_,n,r,h,fun y K F m j l z v=>⟨f,m,_,n.mono j,l,v,fun x G I D c d t B=>?_⟩⟩;obtain⟨a,p,b,e,g,w,q⟩:=yc d t (z.mono c) B;exact⟨a,p,e,g,b,by rw[show p.isSome=b from w],k _ _ _ (j.trans c) d q⟩
def o7 (u:X.A.units+1<cLine) (E:PE3 X i ti) (s:PE3 X o td) (C:behindInMarks .NotIn o=false:=by rfl):PT3 X (.Compare i [.NotIn] [o] pos) (jW (CK true ti td)):=by
 refine PT.imp (uT (oU u E s) C) ?_;rintro L H Q ⟨f,H3,J,n,r,h,k⟩;refine⟨f,H3,_,n,r,h,fun y K F m j l z v=>⟨f,m,_,n.mono j,l,v,fun x G I D c d t B=>?_⟩⟩;obtain⟨a,p,b,e,g,w,q⟩:=yc d t (z.mono c) B;exact⟨a,p,e,g,b,by rw[show (!p.isSome)=b from w],k _ _ _ (j.trans c) d q⟩
end
def zG (x:T) (H:Hp3) (R:List T->(Hp3->Prop)->Hp3->Prop):Prop:=match x with
 |.tup ts=>R ts cJ H
 |.ref a=>liO (H a) a H R
 |_=>False
def Qe (ts:List T):zG (.tup ts) H R=R ts cJ H:=rfl
def Qf (a:Addr):zG (.ref a) H R=liO (H a) a H R:=rfl
def CN (i:Nat):TI3:=fun a H R=>vq (a[i]?) fun x=>zG x H R
def Jf (i:Nat):CN i a H R=vq (a[i]?) fun x=>zG x H R:=rfl
def Jg {X:Cx}{r:Expr} (i:Nat) {f:Pos} (l:X.N[i]?=some x:=by rfl) (g:Vis X.env.scope x:=by first | exact Or.inl rfl | exact Or.inr (Or.inl rfl) | exact Or.inr (Or.inr rfl)) (n:(x==("__debug__":Str))=false:=by decide) (d:(x==("__classdict__":Str))=false:=by decide):PI3 X r (.Name x f) (CN i):=by
 intro c s p H R I q;obtain⟨b,H3,R3,m,j,h,k⟩:=q;have h':vq (b[i]?) fun x=>zG x H3 R3:=h;cases e:b[i]? with
 |none=>rw[e] at h';exact h'.elim
 |some o =>
 cases o with
 |none=>rw[e] at h';exact h'.elim
 |some t =>
 rw[e] at h';cases t with
 |tup ts=>exact bJ (v3 i l g n d) c s p H R I ⟨b,H3,R3,m,j,by show rP i b H3 _;rw[Cm,e];exact h',k⟩
 |ref a=>exact bV (v3 i l g n d) c s p H R I ⟨b,H3,R3,m,j,by show rP i b H3 _;rw[Cm,e];exact h',k⟩
 |_=>exact h'.elim
def aW {d:Type} (c:d->T) (xs:List d) (I:List d->St3->Hp3->Prop) (k:I [] a H) (j:∀a H,I xs a H->still H/\D.nx a H) (i:∀A x B a H (N:St3->Hp3->Prop),xs=A++x::B->I A a H->(∀b H',I (A++[x]) b H'->N b H')->still H/\g (c x) a H fun σ2 H2=>tb { D with nx:=N,ct:=N,bk:=D.nx} σ2 H2):iter3 g tb D still (xs.map c) a H:=by
 have:∀(B A:List d) (a:St3) (H:Hp3),xs=A++B->I A a H->iter3 g tb D still (B.map c) a H:=by
  intro B;induction B with
  |nil=>intro A a H e h;rw[S_] at e;subst e;exact j a H h
  |cons x B f =>
  intro A a H e h;exact i A x B a H (iter3 g tb D still (B.map c)) e h fun b H' h'=>f (A++[x]) b H' (by rw[e];simp) h'
 exact this xs [] a H rfl k
def eV {k:Type} (i:k->T) (xs:List k) (I:List k->List T->St3->Hp3->Prop) (o:I [] [] c H) (n:∀a c H,I xs a c H->still H/\a.length<=sizeLine/\d a H) (m:∀A x B a c H (N:List T->St3->Hp3->Prop),xs=A++x::B->I A a c H->(∀f j H',I (A++[x]) f j H'->N f j H') ->
   still H/\g (i x) c H fun σ2 H2=>tt σ2 H2 fun b H3=>if b=true then te σ2 H3 fun y H4=>a.length<sizeLine/\N (a++[y]) σ2 H4 else N a σ2 H3):cIter3 g tt te still d (xs.map i) [] c H:=by
 have:∀(B A:List k) (a:List T) (c:St3) (H:Hp3),xs=A++B->I A a c H->cIter3 g tt te still d (B.map i) a c H:=by
  intro B;induction B with
  |nil=>intro A a c H e h;rw[S_] at e;subst e;exact n a c H h
  |cons x B l =>
  intro A a c H e h;exact m A x B a c H (cIter3 g tt te still d (B.map i)) e h fun f j H' h'=>l (A++[x]) f j H' (by rw[e];simp) h'
 exact this xs [] [] c H rfl o
def Jh (b:s.heap.IsTupleIter it t i) (j:s.heap.IsTuple t a) (h:a[i]?=some x) (g:∀h',h'.IsTupleIter it t (i+1)->Heap.SameBut it s.heap h'->Q x { s with heap:=h'}):wpAny (model prog w) A (Builtin.SmallTypes.nextOf (.ref it)) Q E s:=by
 obtain⟨o,d,k,c⟩:=id b;obtain⟨l,f,_,m,e⟩:=j;unfold Builtin.SmallTypes.nextOf;refine a_ (aaa (name:=Str.ofString "__next__") b.typeIs aai
  (Z2 aai b.typeIs F.entry_tuple_iterator_next ?_ (F.args_tuple_iterator_next_1 _)))
 show wpAny _ _ (field (.ref it) 0 >>= _) _ _ s;refine a_ (YT d c (x:=.ref t) rfl ?_);show wpAny _ _ (if (Value.ref t==Value.none)=true then _ else _) _ _ s;rw[if_neg (show ¬((Value.ref t==Value.none)=true) from J_)];show wpAny _ _ (field (.ref it) 1 >>= _) _ _ s;refine a_ (YT d c (x:=.int i 0) rfl ?_);show wpAny _ _ (seqItems? (.ref t) >>= _) _ _ s;refine a_ (Z7 f e ?_);simp only[Zk,h];refine a_ (wpAny_setField d c (by simp) (n_ ⟨x,rfl,n_ (g _ ?_ (Heap.SameBut.update ..))⟩));refine⟨_,ZC _ d (Obj.isFreed_of_fields (Obj.data_mapFields c _)),(Obj.cls_mapFields ..).trans k,?_⟩;rw[Obj.data_mapFields c];simp [rawInt]
def CP (j:A.handled=none) (c:s.heap.IsTupleIter it t i) (l:s.heap.IsTuple t b) (k:b[i]?=none) (n:∀h' e,Heap.ExtBut it s.heap h'->(∃o,h'.get? e=some o/\o.cls=.type "StopIteration")->E (.ref e) { s with heap:=h'}):wpAny (model prog w) A (Builtin.SmallTypes.nextOf (.ref it)) Q E s:=by
 obtain⟨o,g,r,h⟩:=id c;obtain⟨p,f,_,q,d⟩:=l;unfold Builtin.SmallTypes.nextOf;refine a_ (aaa (name:=Str.ofString "__next__") c.typeIs aai
  (Z2 aai c.typeIs F.entry_tuple_iterator_next ?_ (F.args_tuple_iterator_next_1 _)))
 show wpAny _ _ (field (.ref it) 0 >>= _) _ _ s;refine a_ (YT g h (x:=.ref t) rfl ?_);show wpAny _ _ (if (Value.ref t==Value.none)=true then _ else _) _ _ s;rw[if_neg (show ¬((Value.ref t==Value.none)=true) from J_)];show wpAny _ _ (field (.ref it) 1 >>= _) _ _ s;refine a_ (YT g h (x:=.int i 0) rfl ?_);show wpAny _ _ (seqItems? (.ref t) >>= _) _ _ s;refine a_ (Z7 f d ?_);simp only[Zk,k];refine a_ (wpAny_rule (a_ (wpAny_setField g h (by simp) ?_)));show wpAny _ _ (newExc (.type "StopIteration") [] >>= _) _ _ _;refine a_ ?_;simp only[newExc,newTuple];refine a_ (ZS ?_ (by size_fits));refine a_ (m:=firstArgMember _ _) (wpAny_of_eq (a:=Value.none) (by first | rfl | (simp only[firstArgMember];rfl)) ?_);refine ZS ?_ (by size_fits);simp only[raiseNew];refine a_ (wpAny_handled ?_);first | rw[show A.in1.handled=none from j] | rw[j]
 refine a_ (n_ (wpAny_throw ?_));exact n _ _ (((Heap.SameBut.update ..).extBut.push _).push _) ⟨_,o_ _ rfl,rfl⟩
def CQ (l:A.handled=none) (it t:Addr) (d:t≠it) (a:Array Value):
  Draws prog w A it [it,t] a.size (fun i v=>a[i]?=some v) (fun i h=>h.IsTupleIter it t i/\h.IsTuple t a) where
 live:=fun _ _ st=>let ⟨o,ho,_⟩:=st.1;⟨o,ho⟩
 frame:=fun _ _ _ st f=>⟨st.1.at fun o e=>f it (by simp) o e,st.2.at fun o e=>f t (by simp) o e⟩
 item:=fun i s Q E g st j=>by
  refine Jh st.1 st.2 (x:=a[i]) (by simp [g]) fun h' c b=>?_
  exact j _ h' s.toks (by simp [g]) ⟨c,st.2.extBut b.extBut d⟩ b
 done:=fun s Q E st k=>CP l st.1 st.2 (by simp) k
structure ZAp (z ti to i1 i2:Addr) (f1 f2:List Addr):Prop where
 ne:ti≠z/\to≠z/\ti≠to/\i1≠i2
 m1:i1∈f1
 m2:i2∈f2
 n1:z∉f1/\ti∉f1/\to∉f1/\i2∉f1
 n2:z∉f2/\ti∉f2/\to∉f2/\i1∉f2
def ZAp.i1z (D:ZAp z ti to i1 i2 f1 f2):i1≠z:=fun e=>D.n1.1 (e▸D.m1)
def ZAp.i2z (D:ZAp z ti to i1 i2 f1 f2):i2≠z:=fun e=>D.n2.1 (e▸D.m2)
def ZAp.i1ti (D:ZAp z ti to i1 i2 f1 f2):i1≠ti:=fun e=>D.n1.2.1 (e▸D.m1)
def ZAp.i2ti (D:ZAp z ti to i1 i2 f1 f2):i2≠ti:=fun e=>D.n2.2.1 (e▸D.m2)
def ZAp.i1to (D:ZAp z ti to i1 i2 f1 f2):i1≠to:=fun e=>D.n1.2.2.1 (e▸D.m1)
def ZAp.i2to (D:ZAp z ti to i1 i2 f1 f2):i2≠to:=fun e=>D.n2.2.2.1 (e▸D.m2)
def z_item {Q:Value->Shared->Prop} (W:Draws prog w A i1 f1 n1 P1 S1) (D2:Draws prog w A i2 f2 n2 P2 S2) (D:ZAp z ti to i1 i2 f1 f2) (N:IsZip s.heap z ti to .none) (hI:IsPair s.heap ti (.ref i1) (.ref i2)) (hO:IsPair s.heap to a b) (h1:S1 k s.heap) (h2:S2 k s.heap) (k1:k<n1) (k2:k<n2) (hQ:∀x y h' tk,P1 k x->P2 k y->IsZip h' z ti to (rawInt s.heap.objs.size)->IsPair h' to x y->S1 (k+1) h'->S2 (k+1) h'->IsPair h' s.heap.objs.size x y->h'.objs.size=s.heap.objs.size+1 ->
   (∀c o,c∉[z,to,i1,i2]->s.heap.get? c=some o->h'.get? c=some o)->Q (.ref s.heap.objs.size) { s with heap:=h',toks:=tk}):
  wpAny (model prog w) A (Builtin.«zip.__next__» ⟨[.ref z],[]⟩) (fun V s'=>∃v,V=.done (.ret v)/\Q v s') E s:=by
 show wpAny _ _ (field (.ref z) 2 >>= _) _ _ _;refine a_ (YT N rfl (x:=.bool false) rfl ?_);show wpAny _ _ (field (.ref z) 3 >>= _) _ _ _;refine a_ (YT N rfl (x:=.ref ti) rfl ?_);refine a_ (Z7 hI rfl ?_);show wpAny _ _ (Builtin.SmallTypes.ownedTupleIsFree (.ref z) >>= _) _ _ _;refine a_ ?_;unfold Builtin.SmallTypes.ownedTupleIsFree;refine a_ (YT N rfl (x:=.none) rfl (n_ ?_));try simp only[if_true]
 refine a_ (wpAny_rule ?_);refine a_ (YT N rfl (x:=.ref to) rfl ?_);refine a_ (aaj N (by simp) fun ha I n=>?_);replace I:IsZip ha z ti to .ellipsis:=I;refine a_ ?_;simp only[List.zipIdx_cons,List.zipIdx_nil,List.forIn_cons,List.forIn_nil];refine a_ (a_ (aa_ ?_));show wpAny _ _ (Builtin.SmallTypes.nextOf (.ref i1) >>= _) _ _ _;have r:∀{i:Nat} {h h':Heap} {c:Addr},S1 i h->Heap.SameBut c h h'->c∉f1->S1 i h':=fun st sb T=>W.frame _ _ _ st fun b u o e=>(sb.2 b fun q=>T (q▸u)).trans e;have t:∀{i:Nat} {h h':Heap} {c:Addr},S2 i h->Heap.SameBut c h h'->c∉f2->S2 i h':=fun st sb T=>D2.frame _ _ _ st fun b u o e=>(sb.2 b fun q=>T (q▸u)).trans e;refine a_ (W.item k _ _ _ k1 (r h1 n D.n1.1) fun x u tb px Z m=>n_ ?_);have K:IsPair u to a b:=(m.2 to (Ne.symm D.i1to)).trans ((n.2 to D.ne.2.1).trans hO);refine a_ (Z7 K rfl ?_);refine a_ (wpAny_updateSeq_pair K fun f C l=>?_);replace C:IsPair f to x b:=C;refine a_ (wpAny_letGo (n_ ?_));refine a_ (a_ (aa_ ?_));show wpAny _ _ (Builtin.SmallTypes.nextOf (.ref i2) >>= _) _ _ _;have s2c:S2 k f:=t (t (t h2 n D.n2.1) m D.n2.2.2.2) l D.n2.2.2.1;refine a_ (D2.item k _ _ _ k2 s2c fun y hd td py U g=>n_ ?_);have L:IsPair hd to x b:=(g.2 to (Ne.symm D.i2to)).trans C;refine a_ (Z7 L rfl ?_);refine a_ (wpAny_updateSeq_pair L fun d p j=>?_);replace p:IsPair d to x y:=p;refine a_ (wpAny_letGo (n_ (n_ ?_)));refine a_ (Z7 p rfl ?_);refine a_ (wpAny_newTuple ?_);have hsz:d.objs.size=s.heap.objs.size:=by rw[j.1,g.1,l.1,m.1,n.1]
 have O:IsZip d z ti to .ellipsis:=(j.2 z (Ne.symm D.ne.2.1)).trans ((g.2 z (Ne.symm D.i2z)).trans ((l.2 z (Ne.symm D.ne.2.1)).trans ((m.2 z (Ne.symm D.i1z)).trans I)));have Y:∀c o,c∉[z,to,i1,i2]->s.heap.get? c=some o->d.get? c=some o:=fun c o f e=>by simp only[u_,YB,ZV,not_or] at f;exact (j.2 c f.2.1).trans ((g.2 c f.2.2.2).trans ((l.2 c f.2.1).trans ((m.2 c f.2.2.1).trans ((n.2 c f.1).trans e))))
 have s1e:S1 (k+1) d:=r (r (r Z l D.n1.2.2.1) g D.n1.2.2.2) j D.n1.2.2.1;have X:S2 (k+1) d:=t U j D.n2.2.2.1;have J:z<d.objs.size:=p_ O;show wpAny _ _ (Builtin.SmallTypes.ownedTupleHandOut (.ref z) (.ref d.objs.size) >>= _) _ _ _;refine a_ ?_;unfold Builtin.SmallTypes.ownedTupleHandOut;have hzf:IsZip (d.push { cls:=.type "tuple",data:=.seq #[x,y]}) z ti to .ellipsis:=b_ _ O;refine a_ (aaj hzf (by simp) fun hg G H=>?_);replace G:IsZip hg z ti to (rawInt d.objs.size):=G;refine aaj G (by simp) fun M B F=>?_;replace B:IsZip M z ti to (rawInt d.objs.size):=B;have S:∀c o,c≠z->d.get? c=some o->M.get? c=some o:=fun c o c1 e=>(F.2 c c1).trans ((H.2 c c1).trans (b_ _ e));have P:IsPair M d.objs.size x y:=(F.2 _ (Yz J)).trans ((H.2 _ (Yz J)).trans (o_ _ rfl));have R:M.objs.size=d.objs.size+1:=by rw[F.1,H.1,Y_]
 rw[hsz] at B P R;refine n_ ⟨_,rfl,?_⟩;show Q (.ref d.objs.size) _;rw[hsz];exact hQ x y M _ px py B (S _ _ D.ne.2.1 p) (W.frame _ _ _ s1e fun b u o e=>S b o (fun q=>D.n1.1 (q▸u)) e) (D2.frame _ _ _ X fun b u o e=>S b o (fun q=>D.n2.1 (q▸u)) e) P R fun c o f e=>S c o (fun q=>f (q▸k_)) (Y c o f e)
def z_end (I:Draws prog w A i1 f1 n1 P1 S1) (N:Draws prog w A i2 f2 n2 P2 S2) (D:ZAp z ti to i1 i2 f1 f2) (F:IsZip s.heap z ti to .none) (S:IsPair s.heap ti (.ref i1) (.ref i2)) (Z:IsPair s.heap to a b) (O:S1 k s.heap) (P:S2 k s.heap) (R:k=n1\/(k<n1/\k=n2)) (M:∀h' e tk,(∀c o,c∉[z,to,i1,i2]->s.heap.get? c=some o->h'.get? c=some o)->(∃o,h'.get? e=some o/\o.cls=.type "StopIteration")->E (.ref e) { s with heap:=h',toks:=tk}):
  wpAny (model prog w) A (Builtin.«zip.__next__» ⟨[.ref z],[]⟩) Q E s:=by
 show wpAny _ _ (field (.ref z) 2 >>= _) _ _ _;refine a_ (YT F rfl (x:=.bool false) rfl ?_);show wpAny _ _ (field (.ref z) 3 >>= _) _ _ _;refine a_ (YT F rfl (x:=.ref ti) rfl ?_);refine a_ (Z7 S rfl ?_);show wpAny _ _ (Builtin.SmallTypes.ownedTupleIsFree (.ref z) >>= _) _ _ _;refine a_ ?_;unfold Builtin.SmallTypes.ownedTupleIsFree;refine a_ (YT F rfl (x:=.none) rfl (n_ ?_));try simp only[if_true]
 refine a_ (wpAny_rule ?_);refine a_ (YT F rfl (x:=.ref to) rfl ?_);refine a_ (aaj F (by simp) fun V n l=>?_);replace n:IsZip V z ti to .ellipsis:=n;refine a_ ?_;simp only[List.zipIdx_cons,List.zipIdx_nil,List.forIn_cons,List.forIn_nil];refine a_ (a_ (aa_ ?_));show wpAny _ _ (Builtin.SmallTypes.nextOf (.ref i1) >>= _) _ _ _;have C:∀{i:Nat} {h h':Heap} {c:Addr},S1 i h->Heap.SameBut c h h'->c∉f1->S1 i h':=fun st K d=>I.frame _ _ _ st fun b r o e=>(K.2 b fun q=>d (q▸r)).trans e;have t:∀{i:Nat} {h h':Heap} {c:Addr},S2 i h->Heap.SameBut c h h'->c∉f2->S2 i h':=fun st K d=>N.frame _ _ _ st fun b r o e=>(K.2 b fun q=>d (q▸r)).trans e;rcases R with rfl | ⟨Y,rfl⟩
 ·refine a_ (I.done _ _ _ (C O l D.n1.1) fun r e f ⟨H,g,m⟩=>?_);have G:IsZip r z ti to .ellipsis:=f z _ (Ne.symm D.i1z) n;have p:e≠z:=fun x=>by subst x;rw[G] at g;cases g;simp at m
  refine aaj G (by simp) fun L _ j=>M L e _ (fun c o d x=>?_) ⟨H,(j.2 e p).trans g,m⟩;simp only[u_,YB,ZV,not_or] at d;exact (j.2 c d.1).trans (f c _ d.2.2.1 ((l.2 c d.1).trans x))
 refine a_ (I.item k _ _ _ Y (C O l D.n1.1) fun x r tb px W f=>n_ ?_);have y:IsPair r to a b:=(f.2 to (Ne.symm D.i1to)).trans ((l.2 to D.ne.2.1).trans Z);refine a_ (Z7 y rfl ?_);refine a_ (wpAny_updateSeq_pair y fun L U j=>?_);refine a_ (wpAny_letGo (n_ ?_));refine a_ (a_ (aa_ ?_));show wpAny _ _ (Builtin.SmallTypes.nextOf (.ref i2) >>= _) _ _ _;have J:S2 k L:=t (t (t P l D.n2.1) f D.n2.2.2.2) j D.n2.2.2.1;refine a_ (N.done _ _ _ J fun T e v ⟨H,g,m⟩=>?_);have u:IsZip T z ti to .ellipsis:=v z _ (Ne.symm D.i2z) ((j.2 z (Ne.symm D.ne.2.1)).trans ((f.2 z (Ne.symm D.i1z)).trans n));have p:e≠z:=fun x=>by subst x;rw[u] at g;cases g;simp at m
 refine aaj u (by simp) fun X _ B=>M X e _ (fun c o d x=>?_) ⟨H,(B.2 e p).trans g,m⟩;simp only[u_,YB,ZV,not_or] at d;exact (B.2 c d.1).trans (v c _ d.2.2.2 ((j.2 c d.2.1).trans ((f.2 c d.2.2.1).trans ((l.2 c d.1).trans x))))
def Ji (p:Draws prog w A.in1 i1 f1 n1 P1 S1) (t:Draws prog w A.in1 i2 f2 n2 P2 S2) (D:ZAp z ti to i1 i2 f1 f2) (e:IsZip s.heap z ti to .none) (l:IsPair s.heap ti (.ref i1) (.ref i2)) (H:IsPair s.heap to a b) (u:S1 k s.heap) (h:S2 k s.heap) (C:k<n1) (g:k<n2) (G:∀x y h' tk,P1 k x->P2 k y->IsZip h' z ti to (rawInt s.heap.objs.size)->IsPair h' to x y->S1 (k+1) h'->S2 (k+1) h'->IsPair h' s.heap.objs.size x y->h'.objs.size=s.heap.objs.size+1 ->
   (∀c o,c∉[z,to,i1,i2]->s.heap.get? c=some o->h'.get? c=some o)->Q (some (.ref s.heap.objs.size)) { s with heap:=h',toks:=tk}):wpAny (model prog w) A (pyNext (.ref z)) Q E s:=by
 have d:s.TypeIs (.ref z) "zip":=⟨_,e,rfl⟩;unfold pyNext;exact a_ (wpAny_attempt (aaa (name:=Str.ofString "__next__") d F.slot_zip_next
  (Z2 F.slot_zip_next d F.entry_zip_next (z_item p t D e l H u h C g fun x y h' tk n m i j q r B v f=>n_ (G x y h' tk n m i j q r B v f)) (F.args_zip_next_1 _))))
def CT (j:Draws prog w A.in1 i1 f1 n1 P1 S1) (l:Draws prog w A.in1 i2 f2 n2 P2 S2) (D:ZAp z ti to i1 i2 f1 f2) (d:IsZip s.heap z ti to .none) (r:IsPair s.heap ti (.ref i1) (.ref i2)) (q:IsPair s.heap to a b) (n:S1 k s.heap) (m:S2 k s.heap) (p:k=n1\/(k<n1/\k=n2)) (i:∀h' tk,(∀c o,c∉[z,to,i1,i2]->s.heap.get? c=some o->h'.get? c=some o)->Q none { s with heap:=h',toks:=tk}):wpAny (model prog w) A (pyNext (.ref z)) Q E s:=by
 have f:s.TypeIs (.ref z) "zip":=⟨_,d,rfl⟩;unfold pyNext;refine a_ (wpAny_attempt (aaa (name:=Str.ofString "__next__") f F.slot_zip_next
  (Z2 F.slot_zip_next f F.entry_zip_next (z_end j l D d r q n m p fun h' e tk g ⟨o,h,t⟩=>?_) (F.args_zip_next_1 _))))
 refine a_ (wpAny_isInstance (T:="StopIteration") (b:=true) ⟨o,h,t⟩ isSubtype_stop ?_);exact n_ (i _ _ g)
abbrev Ma (t:Addr):Obj:={ cls:=.type "tuple_iterator",data:=.fields #[.ref t,.int 0 0]}
def CV (f:A.handled=none) (it t:Addr) (c:t≠it) (a:Array Value) (k:Nat) (b:a[k]?=none):
  Draws prog w A it [it,t] k (fun _ _=>True) (fun i h=>i=k/\h.IsTupleIter it t i/\h.IsTuple t a) where
 live:=fun _ _ st=>let ⟨o,ho,_⟩:=st.2.1;⟨o,ho⟩
 frame:=fun _ _ _ st b=>⟨st.1,st.2.1.at fun o e=>b it (by simp) o e,st.2.2.at fun o e=>b t (by simp) o e⟩
 item:=fun i s Q E g st j=>absurd st.1 (I_ g)
 done:=fun s Q E st d=>CP f st.2.1 st.2.2 b d
section
variable {X:Cx}{pins:List (Addr × Obj)}{σ:L2.St}
def iH {ch:List Addr} (I:Inv X pins σ H s) (k:∀b o,b∉ch->s.heap.get? b=some o->h'.get? b=some o) (f:∀b∈ch,lY X pins H b):Inv X pins σ H { s with heap:=h',toks:=t'}:=by
 have d:∀b u,H b=some u->b∉ch:=fun b u e z=>by rw[(f b z).1] at e;cases e
 refine I.step (g':=s.gens) (d':=s.drawn) (ch:=ch) (fun b p=>?_) (fun b o _ _ a e _=>k b o a e) (fun b o _ _ a e _=>⟨o.slots,k b o a e⟩) (fun _ _ _ _ n=>n)
  (fun b o a e=>⟨o,k b o a e⟩) (fun _ _ e=>e) (fun _ _ _ e=>e) (fun b x e=>⟨#[],by rw[e];simp⟩) (fun m g=>?_) (fun b u e=>?_) I.bare
 ·obtain⟨_,i,_,w,j,t⟩:=f b p;exact⟨w,i,j,t⟩
 ·obtain⟨o,l,ep,h,r⟩:=g;exact⟨o,l,ep,k _ o (fun z=>(f _ z).2.1 rfl) h,r⟩
 refine (I.hok b u e).stay (fun c v a q=>k c v ?_ q) (fun _ q=>q) fun _ _ q=>q;rcases a with z | z
 ·rw[z];exact d b u e
 exact d c _ z
end
def nm2 {x p q:Addr}(b:x≠p) (a:x≠q):x∉[p,q]:=fun h=>by
 rcases u_.mp h with e | e
 ·exact b e
 exact a (i_.mp e)
def zap (c:a<d/\b<d) (f:d<e) (m:e<h) (j:h<g) (i:g<z):ZAp z h g d e [d,a] [e,b] :=
 have k:d<h:=YL f m
 have l:d<g:=YL k j
 have n:d<z:=YL l i
 have o:e<g:=YL m j
 have p:e<z:=YL o i
 have q:h<z:=YL j i
 ⟨⟨I_ q,I_ i,I_ j,I_ f⟩,k_,k_,
  ⟨nm2 (Yz n) (Yz (YL c.1 n)),nm2 (Yz k) (Yz (YL c.1 k)),nm2 (Yz l) (Yz (YL c.1 l)),nm2 (Yz f) (Yz (YL c.1 f))⟩,
  ⟨nm2 (Yz p) (Yz (YL c.2 n)),nm2 (Yz m) (Yz (YL c.2 k)),nm2 (Yz o) (Yz (YL c.2 l)),nm2 (I_ f) (Yz c.2)⟩⟩
def gF:List T->List T->List T
 |x::xs,y::ys=>.tup [x,y]::gF xs ys
 |_,_=>[]
def sS:∀(xs a:List T) (i:Nat),(gF xs a)[i]?=(match xs[i]?,a[i]? with
  |some x,some y=>some (.tup [x,y])
  |_,_=>none)
 |[],a,i=>by simp [gF]
 |x::xs,[],i=>by
  simp only[gF,List.getElem?_nil]
  cases (x::xs)[i]? <;> rfl
 |x::xs,y::a,0=>by simp [gF]
 |x::xs,y::a,i+1=>by simp only[gF,ZJ];exact sS xs a i
def sU:∀(xs a:List T),(gF xs a).length=min xs.length a.length
 |[],a=>by simp [gF]
 |x::xs,[]=>by simp [gF]
 |x::xs,y::a=>by simp [gF,sU xs a]
def CW:bootBuiltins "zip"=some (.type "zip"):=by decide +kernel
def sV {p:Type} (l m f:p->T) (e:List p) (rest:St3) (h:still H) (s:e.length<=sizeLine) (w:∀a∈e,∀Q:VK3,Q (f a) H->te (some (l a)::some (m a)::rest) H Q) (j:g (e.map f) H):
  cIter3 (xJ 2 (je (fB 0) (je (fB 1) xH))) xN te still g (e.map fun a=>.tup [l a,m a]) [] (v::u::rest) H:=by
 refine jB (fun r n o H'=>∃(d i:List p) (v u:Option T),o=v::u::rest/\r=d.map (fun a=>.tup [l a,m a])/\n=i.map f/\i++d=e/\H'=H) ⟨e,[],v,u,rfl,rfl,rfl,rfl,rfl⟩ ?_ ?_
 ·rintro n o H' ⟨d,i,v,u,rfl,c,rfl,b,rfl⟩;have k:d=[]:=aag.mp c.symm;subst k;rw[S_] at b;subst b;exact⟨h,by rw[e_];exact s,j⟩
 rintro x r n o H' N ⟨d,i,v,u,rfl,c,rfl,b,rfl⟩ q;cases d with
 |nil=>cases c
 |cons t d =>
 injection c with a1 a2;subst a1 a2;refine⟨h,rfl,?_⟩;show te (some (l t)::some (m t)::rest) H' _;refine w t (by rw[<- b];simp) _ ⟨?_,q _ _ _ ⟨d,i++[t],_,_,rfl,rfl,by simp,by rw[<- b];simp,rfl⟩⟩;have:=W_ List.length b;simp only[d_,j_] at this;rw[e_];omega
section
variable {H:Hp3}{Q:VK3}
def Qg (x:T):o5 [x,.ty "str"] H Q=oq (isT "str" x H) fun b=>Q (.bl b) H:=by rw[xX];exact propext ⟨fun h=>h.2,fun h=>⟨by simp,h⟩⟩
def vH (x:Str):isT "str" (.str x) H=some true:=rfl
def vI (x:Int):isT "str" (.int x) H=some false:=rfl
def vJ (x:List T):isT "str" (.tup x) H=some false:=rfl
def zH (x:Bool):isT "str" (.bl x) H=some false:=rfl
def vK  : isT "str" (.non) H=some false:=rfl
def Qh (x:T):o5 [x,.ty "int"] H Q=oq (isT "int" x H) fun b=>Q (.bl b) H:=by rw[xX];exact propext ⟨fun h=>h.2,fun h=>⟨by simp,h⟩⟩
def vL (x:Str):isT "int" (.str x) H=some false:=rfl
def vM (x:Int):isT "int" (.int x) H=some true:=rfl
def vN (x:List T):isT "int" (.tup x) H=some false:=rfl
def zJ (x:Bool):isT "int" (.bl x) H=some true:=rfl
def vO  : isT "int" (.non) H=some false:=rfl
def Jj (x:T):o5 [x,.ty "bool"] H Q=oq (isT "bool" x H) fun b=>Q (.bl b) H:=by rw[xX];exact propext ⟨fun h=>h.2,fun h=>⟨by simp,h⟩⟩
def sW (x:Str):isT "bool" (.str x) H=some false:=rfl
def sX (x:Int):isT "bool" (.int x) H=some false:=rfl
def sY (x:List T):isT "bool" (.tup x) H=some false:=rfl
def vP (x:Bool):isT "bool" (.bl x) H=some true:=rfl
def sZ  : isT "bool" (.non) H=some false:=rfl
def CZ (x:T):o5 [x,.ty "tuple"] H Q=oq (isT "tuple" x H) fun b=>Q (.bl b) H:=by rw[xX];exact propext ⟨fun h=>h.2,fun h=>⟨by simp,h⟩⟩
def ql (x:Str):isT "tuple" (.str x) H=some false:=rfl
def qm (x:Int):isT "tuple" (.int x) H=some false:=rfl
def qp (x:List T):isT "tuple" (.tup x) H=some true:=rfl
def tu (x:Bool):isT "tuple" (.bl x) H=some false:=rfl
def qt  : isT "tuple" (.non) H=some false:=rfl
def tD (x:Str):isT "list" (.str x) H=some false:=rfl
def tE (x:Int):isT "list" (.int x) H=some false:=rfl
def tG (x:List T):isT "list" (.tup x) H=some false:=rfl
def vQ (x:Bool):isT "list" (.bl x) H=some false:=rfl
def tH  : isT "list" (.non) H=some false:=rfl
def lJ {b:Type} [DecidableEq b] (a:b):decide (a=a)=true:=L_ rfl
end
open L2 PySem.Builtin PySem.Builtin.Str
def qu:bootBuiltins "enumerate"=some (.type "enumerate"):=by decide +kernel
def ngq (x:T) (H:Hp3) (Q:VK3):Prop:=match x with
 |.int i=>Q (.int (-i)) H
 |_=>False
def Mf (b:TE3):TE3:=fun c H Q=>b c H fun x a=>ngq x a Q
def Vl (a:TE3) {H:Hp3}{Q:VK3}:Mf a b H Q=a b H fun x c=>ngq x c Q:=rfl
def Vm (i:Int) {H:Hp3}{Q:VK3}:ngq (.int i) H Q=Q (.int (-i)) H:=rfl
def Dc (f:PE3 X a ta):PE3 X (.UnaryOp .USub a pos) (Mf ta):=by
 refine PE.imp (Tt Oj f) ?_;rintro l H Q ⟨b,H3,m,g,d,h,k⟩;refine⟨b,H3,_,g,d,h,fun v H' t j e c r q=>?_⟩;cases t with
 |int i=>exact⟨i,r.int,k _ _ _ _ e c .ofInt q⟩
 |_=>exact q.elim
def gO (k:Int):List T->List T
 |[]=>[]
 |x::r=>.tup [.int k,x]::gO (k+1) r
def o8:∀(k:Int) (xs:List T) (i:Nat),(gO k xs)[i]?=xs[i]?.map fun x=>.tup [.int (k+i),x]
 |_,[],i=>by simp [gO]
 |k,x::xs,0=>by simp [gO]
 |k,x::xs,i+1=>by
  simp only[gO,ZJ]
  rw[o8 (k+1) xs i]
  have:k+1+(i:Int)=k+((i+1:Nat):Int):=by omega
  rw[this]
def o9:∀(k:Int) (xs:List T),(gO k xs).length=xs.length
 |_,[]=>rfl
 |k,x::xs=>by simp [gO,o9 (k+1) xs]
def tK (l:Addr) (a:Array Value) (n:Nat) (f:Option Addr) (m:Array (Option Value)) :
  Meets (Builtin.«enumerate.__new__» ⟨[.type "enumerate",.ref l],[]⟩) (fun _ R s=>s.heap.get? l=some { cls:=.type "tuple",dict:=f,data:=.seq a n,slots:=m} /\
   R (.ok (.ret (.ref (s.heap.push { cls:=.type "tuple_iterator",data:=.fields #[.ref l,.int 0 0]}).objs.size)))
    { s with heap:=(s.heap.push { cls:=.type "tuple_iterator",data:=.fields #[.ref l,.int 0 0]}).push { cls:=.type "enumerate",data:=.fields #[.none,.bool false,.ref s.heap.objs.size,rawInt 0,.none,.none]}}) :=
 .of_wp fun prog w A R s h=>by
  obtain⟨j,g,d,tk,k⟩:=s;obtain⟨b,h⟩:=h;have i:=sub_enumerate;have e:Heap.IsTuple (Shared.heap ⟨j,g,d,tk,k⟩) l a:=⟨_,b,rfl,n,rfl⟩
  wp_walk using aau b
  refine wpAny_stack_any fun st=>n_ ?_;split
  ·rename_i c _ _ _ _ _;cases (c==Value.type "enumerate")
   ·wp_walk using aau b,aaF e
    exact⟨_,rfl,h⟩
   wp_walk using aau b,aaF e
   exact⟨_,rfl,h⟩
  wp_walk using aau b,aaF e
  exact⟨_,rfl,h⟩
def jj {s:Shared} (m:s.heap.IsTuple l a) (h:∀h',IsEnum h' (s.heap.objs.size+1) s.heap.objs.size 0 .none->h'.IsTupleIter s.heap.objs.size l 0->h'.objs.size=s.heap.objs.size+2 ->
   (∀b o,s.heap.get? b=some o->h'.get? b=some o)->Q (.ref (s.heap.objs.size+1)) { s with heap:=h'}):
  wpAny (model prog w) A (call (.type "enumerate") [.ref l]) Q E s:=by
 obtain⟨⟨c,i,k,q⟩,p,g,n,e⟩:=m;replace g:c=.type "tuple":=g;replace e:k=.seq a n:=e;subst g e;refine callType_new F.called_enumerate (by decide) (F.typeCall_enumerate_1 _) (F.newCall_enumerate_1 _) (fun f=>F.args_object_init_2 f _) F.entry_enumerate_new
  (tK l a n i q) ⟨p,?_⟩
 have d:(s.heap.push { cls:=.type "tuple_iterator",data:=.fields #[.ref l,.int 0 0]}).objs.size=s.heap.objs.size+1:=Y_ ..;show _/\_;rw[d];have j:IsEnum ((s.heap.push { cls:=.type "tuple_iterator",data:=.fields #[.ref l,.int 0 0]}).push
   { cls:=.type "enumerate",data:=.fields #[.none,.bool false,.ref s.heap.objs.size,rawInt 0,.none,.none]}) (s.heap.objs.size+1) s.heap.objs.size 0 .none:=by
  have:=o_ (s.heap.push { cls:=.type "tuple_iterator",data:=.fields #[.ref l,.int 0 0]})
   (o:={ cls:=.type "enumerate",data:=.fields #[.none,.bool false,.ref s.heap.objs.size,rawInt 0,.none,.none]}) rfl
  rw[d] at this;exact this
 refine⟨⟨_,j,rfl⟩,h _ j ⟨_,b_ _ (o_ _ rfl),rfl,rfl⟩ (by rw[Y_,d]) fun b o x=>b_ _ (b_ _ x)⟩
def Qi (K:Frag) (a:Addr):It :=
 ⟨fun i H=>∃xs x,SqT K H a xs/\xs[i]?=some x,
  fun i H v H'=>∃p x,v=.ref p/\H p=none/\H'=upd H p (.tup [.int (i:Int),x])/\∀xs,SqT K H a xs->xs[i]?=some x,
  fun i H=>∃xs,SqT K H a xs/\xs.length<=i⟩
def vR {K:Frag} (a it e:Addr) (l1:a<it) (l2:it<e):
  Turn P w K (.Tuple B x1 U) (Qi K a) [e,it] e (fun i h=>(∃f,IsEnum h e it (i:Int) f)/\h.IsTupleIter it a i) where
 mem:=k_
 obj:=fun i h st c d=>by
  obtain⟨⟨f,l⟩,⟨o1,e1,_,d1⟩⟩:=st
  simp only[u_,YB,ZV] at d
  rcases d with rfl | rfl
  ·
   exact⟨_,l,fun v z=>by cases z⟩
  ·
   exact⟨_,e1,fun v z=>by rw[d1] at z;cases z⟩
 keep:=fun i h h' st k=>by
  obtain⟨⟨f,l⟩,t⟩:=st
  exact⟨⟨f,k e (by simp) _ l⟩,t.at fun o q=>k it (by simp) o q⟩
 item:=by
  intro X hP hw Y d i g s σ H E I y st Z
  subst hP hw Y
  obtain⟨xs,x,N,S⟩:=Z
  obtain⟨j,rv,p,hz⟩:=I.tuple N
  obtain⟨u,hu,ru⟩:=rv.get S
  obtain⟨⟨f,l⟩,t⟩:=st
  have G:j.toArray[i]?=some u:=by simpa using hu
  have n:a≠it:=I_ l1
  have m:e≠it:=Yz l2
  have O:e≠a:=Yz (YL l1 l2)
  have V:e∉[it,a]:=by simp [m,O]
  have D:=CQ (prog:=X.prog) (w:=X.w) (A:=X.A.in1) (I.ok.hd d) it a n j.toArray
  refine wpAny_pyNext_enum_itemD (i:=i) D l ⟨t,p⟩ (Zv.mp G).1 m V fun r h' tk px ho hs' hT hsz kp=>?_
  have e1:r=u:=O_ (px.symm.trans G)
  subst e1
  obtain⟨Q,hs2⟩:=hs'
  refine⟨_,rfl,wpAny_letOwnedTupleGo_enum ho fun L J sb=>?_⟩
  have W:∀c o,c∉[e,it]->s.heap.get? c=some o->L.get? c=some o:=fun c o F q=>(sb.2 c fun z=>F (z▸k_)).trans (kp c o (fun z=>F (z▸k_)) (fun z=>F (by simp [z])) q)
  have R:∀{c o},s.heap.get? c=some o->s.heap.objs.size≠c:=fun q=>Yz (p_ q)
  have M:∀{c:Addr},c∈[e,it]->c≠s.heap.objs.size:=fun {c} d=>by
   simp only[u_,YB,ZV] at d
   rcases d with q | q <;> subst q
   ·
    exact Ne.symm (R l)
   ·
    obtain⟨o,q,_⟩:=t;exact Ne.symm (R q)
  have hTe:s.heap.objs.size≠e:=R l
  have I1:Inv X g σ (upd H s.heap.objs.size (.tup [.int (i:Int),x])) { s with heap:=s.heap.push { cls:=.type "tuple",data:=.seq #[.int (i:Int) tk,r]},toks:=tk+1} :=
   I.laid (t':=tk+1) (fun b o q=>b_ _ q) (l_ _) (show ObjOk X.prog X.w _ _ _ (.tup [.int (i:Int),x]) from ⟨by show 2<=sizeLine;decide,[.int (i:Int) tk,r],.cons ⟨tk,rfl⟩ (.cons ru .nil),Tup0.new _ _⟩)
  have I2:Inv X g σ (upd H s.heap.objs.size (.tup [.int (i:Int),x])) { s with heap:=L,toks:=tk+1}:=iH (s:={ s with heap:=s.heap.push { cls:=.type "tuple",data:=.seq #[.int (i:Int) tk,r]},toks:=tk+1}) (ch:=[e,it]) (t':=tk+1) I1 (fun c o F q=>by
   by_cases z:c=s.heap.objs.size
   ·
    subst z
    have C:(s.heap.push { cls:=.type "tuple",data:=.seq #[.int (i:Int) tk,r]}).get? s.heap.objs.size=some o:=q
    rw[o_ _ rfl] at C
    cases C
    exact (sb.2 _ hTe).trans hT
   ·
    have C:(s.heap.push { cls:=.type "tuple",data:=.seq #[.int (i:Int) tk,r]}).get? c=some o:=q
    rw[Heap.get?_push_ne _ _ _ z] at C
    exact W c o F C) fun c d=>⟨by rw[aL (M d)];exact (y c d).1,(y c d).2⟩
  refine⟨.ref s.heap.objs.size,_,I2,rfl,⟨s.heap.objs.size,x,rfl,I.hok.fresh (l_ _),rfl,fun zs T=>by rw[I.tuple_inj T N];exact S⟩,⟨⟨r,?_⟩,Q.at fun o q=>(sb.2 it (Ne.symm m)).trans q⟩,fun c d=>by rw[aL (M d)];exact (y c d).1⟩
  exact J
 done:=by
  intro X hP hw Y d i g s σ H E I y st Z
  subst hP hw Y
  obtain⟨xs,N,S⟩:=Z
  obtain⟨j,rv,p,hz⟩:=I.tuple N
  obtain⟨⟨f,l⟩,t⟩:=st
  have hl:=rv.length
  have n:a≠it:=I_ l1
  have D:=CV (prog:=X.prog) (w:=X.w) (A:=X.A.in1) (I.ok.hd d) it a n j.toArray i (by simp;omega)
  exact wpAny_pyNext_enum_endD D l ⟨rfl,t,p⟩ fun h' eb=>⟨rfl,iH (ch:=[e,it]) (t':=s.toks) I (fun b o nb q=>eb b o (fun z=>nb (by simp [z])) q) y⟩
 self:=fun _ _ _ _ _ st h=>wpAny_pyIter_enum st.1.choose_spec h
section
variable {elts:List Expr}{x1:Nat}{tpos pos p:Pos}
def Qj (K:Frag) (te:TE):TI:=fun c H R=>te c H fun x b=>∃a,x=.ref a/\(∃xs,SqT K b a xs)/\R (Qi K a) b
def Dd (y:Gl X "enumerate") (F:X.mg "enumerate"=none) (B:PE X e te) (l:starEach [e] X.env=(false,eval e X.env)::starEach [] X.env:=by rfl) (i:(backTo pos (starEach [] X.env)).any (·.1)=false:=by rfl):
  PI X (.Tuple elts x1 tpos) (.Call (.Name "enumerate" p) [e] [] pos) (Qj X.K te):=by
 intro f s E H R I h;refine Y6 (fU I y F qu ?_ (by decide) (by decide));refine YS ?_ l i;rw[l];show wpAny _ _ (spliced ((false,eval e X.env)::backTo pos (starEach [] X.env))) _ _ s;refine Z1 (thn (B f s E H _ I h) fun u b ⟨x,t,g,v,a,r,⟨xs,C⟩,q⟩=>?_);subst r;cases v;refine aaq ?_;obtain⟨w,J,j,_⟩:=g.tuple C;have D:a<b.heap.objs.size:=let ⟨o,e,_⟩:=j;p_ e;refine jj j fun h' k n G A=>wpAny_pyIter_enum k ?_;refine⟨b.heap.objs.size+1,[b.heap.objs.size+1,b.heap.objs.size],_,_,t,rfl,g.kept (t':=b.toks) A,vR a b.heap.objs.size (b.heap.objs.size+1) D (Zg _),⟨⟨.none,k⟩,n⟩,fun c m=>?_,q⟩;have d:b.heap.objs.size<=c:=by
  simp only[u_,YB,ZV] at m;rcases m with z | z <;> subst z
  ·exact Z6 _
  exact l_ _
 exact g.fpOk d (g.hok.fresh d)
def Qk (x:T) (H:Hp3) (R:List T->(Hp3->Prop)->Hp3->Prop):Prop:=match x with
 |.tup ts=>R (gO 0 ts) cJ H
 |_=>False
def yd (te:TE3):TI3:=fun b H R=>te b H fun x a=>Qk x a R
def De (te:TE3):yd te a H R=te a H fun x b=>Qk x b R:=rfl
def Ql (ts:List T):Qk (.tup ts) H R=R (gO 0 ts) cJ H:=rfl
def vU {K:Frag} (o:SqT K H a xs) (g:Reps K H ts xs):jt K (Qi K a) (gO 0 ts) cJ H:=fun H' d f j st=>by
 have s:=g.length;have b:=f _ _ o;refine⟨fun i n=>⟨xs,b,by rw[o9] at n;omega⟩,fun i t e=>?_⟩;rw[o8] at e;cases q:ts[i]? with
 |none=>rw[q] at e;cases e
 |some x =>
 rw[q] at e;cases e;obtain⟨v,h,m⟩:=g.get q;refine⟨⟨xs,v,b,h⟩,fun z k y=>?_⟩;obtain⟨p,r,rfl,c,rfl,l⟩:=y;have:=(l xs b).symm.trans h;cases this;refine⟨aO c,j.new c,?_⟩;rw[show (0:Int)+(i:Int)=(i:Int) from by omega];exact SimH.newTup (H3:=d) c (.cons .ofInt (.cons (m.mono f) .nil))
def Df (i:Gl X "enumerate") (l:X.mg "enumerate"=none) (o:PE3 X e te) (s:starEach [e] X.env=(false,eval e X.env)::starEach [] X.env:=by rfl) (f:(backTo pos (starEach [] X.env)).any (·.1)=false:=by rfl):
  PI3 X (.Tuple elts x1 tpos) (.Call (.Name "enumerate" p) [e] [] pos) (yd te):=by
 refine PI.imp (Dd i l o s f) ?_;rintro w H R ⟨c,H3,R3,n,j,h,k⟩;refine⟨c,H3,_,n,j,h,fun v H' t d m b r q=>?_⟩;cases t with
 |tup ts=>obtain⟨a,xs,rfl,g,u⟩:=r.tup;exact⟨a,rfl,⟨xs,g⟩,k _ _ cJ H' d m b (vU g u) q⟩
 |_=>exact q.elim
def anH (o:Option O3) (H:Hp3) (Q:VK3):Prop:=match o with
 |some (.lst xs)=>oq (cU xs) fun a=>Q (.bl (a.any id)) H
 |some (.rol xs)=>oq (cU xs) fun a=>Q (.bl (a.any id)) H
 |_=>False
def Mg:List T->Hp3->VK3->Prop:=fun ts H Q=>match ts with
 |[.ref a]=>anH (H a) H Q
 |_=>False
def Vn (a:Addr):Mg [.ref a] H Q=anH (H a) H Q:=rfl
def Vo (xs:List T):anH (some (.lst xs)) H Q=oq (cU xs) fun a=>Q (.bl (a.any id)) H:=rfl
def any_range (d:List Bool):(List.range d.length).any (fun i=>d.getD i true)=d.any id:=by
 rw[YH,Zy,Zy];constructor
 ·rintro⟨i,c,h⟩;have a:=YF.mp c;refine⟨d[i],Y4 a,?_⟩;simpa [List.getD,a] using h
 rintro⟨b,e,h⟩;obtain⟨i,c,rfl⟩:=List.mem_iff_getElem.mp e;refine⟨i,YF.mpr c,?_⟩;simpa [List.getD,c] using h
def Qm (U:X.calm=true):cX X (.builtin "any") Mg:=by
 intro p s R H xs us Q I S h;obtain⟨ts,H3,J,r,x,h,k⟩:=h
 match ts,h,r with
 |[.ref a],h,r =>
 obtain⟨v,rfl,E⟩:=r.one';obtain⟨u,rfl,G⟩:=vals1 S;rw[E.ref] at G;cases G;have f:∀{j:List T} {l:List V},SqL X.K H a l->Reps X.K H j l->oq (cU j) (fun d=>J (.bl (d.any id)) H3)->wpAny (model X.prog X.w) X.A (call (.builtin "any") [.ref a]) (EP X p R Q) X.xe s:=by
  intro j l t m q;cases e:cU j with
  |none=>rw[e] at q;exact q.elim
  |some d =>
  rw[e] at q;obtain⟨O,y,D,_⟩:=I.list t;have N:=kO e m y;subst N;have B:a≠s.heap.objs.size:=fun z=>by obtain⟨o,n,g,_⟩:=D;have:=p_ g;rw[z] at this;exact YM _ this
  refine call_any_walk (wpAny_pyIter_list D.isList ?_);refine⟨s.heap.objs.size,_,_,_,_,_,fun i=>d.getD i true,rfl,Walks.list (A:=X.A.in1) (I.ok.hd U) s.heap.objs.size a B (d.map Value.bool).toArray,⟨⟨_,o_ _ rfl,rfl,rfl⟩,D.isList.push _⟩,fun i v s' W Y L F=>?_,fun h' tk M=>?_⟩
  ·have c:(d.map Value.bool)[i]?=some v:=by simpa using L
   rw[y_] at c;cases C:d[i]? with
   |none=>rw[C] at c;cases c
   |some b =>
   rw[C] at c;cases c;have:d.getD i true=b:=by simp [List.getD,C]
   dsimp only at F;rw[this] at F;exact ZR F
  have P:(d.map Value.bool).toArray.size=d.length:=by simp
  rw[P,any_range];refine⟨.bl (d.any id),H,I.kept fun b o e=>M b o (fun z=>?_) (b_ _ e),rfl,k _ _ _ _ .refl x .ofBl q⟩;have:=p_ e;rw[i_.mp z] at this;exact YM _ this
 have h':anH (H3 a) H3 J:=h;cases g:H3 a with
 |none=>rw[g] at h';exact h'.elim
 |some o =>
 rw[g] at h';cases o with
 |lst j=>obtain⟨l,t,m⟩:=x.sqL (.inl g);exact f t m h'
 |rol j=>obtain⟨l,t,m⟩:=x.sqL (.inr g);exact f t m h'
 |_=>exact h'.elim
def Dg:List T->Hp3->VK3->Prop:=fun ts H Q=>match ts with
 |[.int i,.int j]=>Q (.int (if j>i then j else i)) H
 |_=>False
def Dh:List T->Hp3->VK3->Prop:=fun ts H Q=>match ts with
 |[.int i,.int j]=>Q (.int (if j<i then j else i)) H
 |_=>False
def Qn (i j:Int):Dg [.int i,.int j] H Q=Q (.int (if j>i then j else i)) H:=rfl
def Qo (i j:Int):Dh [.int i,.int j] H Q=Q (.int (if j<i then j else i)) H:=rfl
def Jk (g:X.calm=true):cX X (.builtin "max") Dg:=by
 intro c s t H xs us Q I m h;obtain⟨ts,H3,n,r,d,h,k⟩:=h
 match ts,h,r with
 |[.int i,.int j],h,r =>
 obtain⟨v,q,rfl,f,e⟩:=r.two';obtain⟨o,u,rfl,b,a⟩:=vals2 m;rw[f.int] at b;rw[e.int] at a;obtain⟨p,rfl⟩:=b;obtain⟨w,rfl⟩:=a;refine max_two_ints (I.ok.hd g) fun h' tk l=>?_;refine⟨.int (if j>i then j else i),H,I.kept l,?_,k _ _ _ _ .refl d .ofInt h⟩;by_cases z:j>i
 ·rw[if_pos z,if_pos z];exact⟨_,rfl⟩
 rw[if_neg z,if_neg z];exact⟨_,rfl⟩
def Jl (g:X.calm=true):cX X (.builtin "min") Dh:=by
 intro c s t H xs us Q I m h;obtain⟨ts,H3,n,r,d,h,k⟩:=h
 match ts,h,r with
 |[.int i,.int j],h,r =>
 obtain⟨v,q,rfl,f,e⟩:=r.two';obtain⟨o,u,rfl,b,a⟩:=vals2 m;rw[f.int] at b;rw[e.int] at a;obtain⟨p,rfl⟩:=b;obtain⟨w,rfl⟩:=a;refine min_two_ints (I.ok.hd g) fun h' tk l=>?_;refine⟨.int (if j<i then j else i),H,I.kept l,?_,k _ _ _ _ .refl d .ofInt h⟩;by_cases z:j<i
 ·rw[if_pos z,if_pos z];exact⟨_,rfl⟩
 rw[if_neg z,if_neg z];exact⟨_,rfl⟩
def Di:dM X (binaryOp .BitAnd) (rY fun i j=>.int (Builtin.bitAnd i j)):=oZ Oi fun _ _ _=>.ofInt
def Vp:dM X (binaryOp .BitOr) (rY fun i j=>.int (Builtin.bitOr i j)):=oZ Tv fun _ _ _=>.ofInt
def jk:bootBuiltins "max"=some (.builtin "max"):=by decide +kernel
def Qp:bootBuiltins "min"=some (.builtin "min"):=by decide +kernel
end
def bf {N P:List Str}{h:Scope}(a:h.kind=.function:=by rfl) (b:h.isCoroutine=false:=by rfl) (c:h.isGenerator=false:=by rfl) (d:N.Nodup:=by decide +kernel) (e:N.take P.length=P:=by rfl)
 (f:∀x∈P,h.names.lookup x=some .local\/h.names.lookup x=some .cell:=by decide +kernel) (g:∀y∈h.names,y.2≠.free:=by decide +kernel):FnScope N P h:=⟨a,b,c,d,e,f,g⟩
def tL {p:Prop} [Decidable p] (h:¬p):¬(decide p=true) := fun e=>h (Za e)
def upa (h:H a=some u) (b:H q=none):up3 H q o a=some u := by rw[aF (bz h b)];exact h
structure Cal (P:Program) (w:World) (K:Frag) (mg:Str->Option Value) (base:Heap) (k:Nat) (x:Str) (st:Stmt) (ps:List Str) (sp:Sp3):Prop where
 ex:∃(f:Addr) (fd:FuncData),G3 K mg x st ps f fd/\kI P w K mg base k f fd ps sp
def Qq {st:Stmt}{p c:Pos} (D:Cal X.prog X.w X.K X.mg X.base k x st l sp) (j:Room k X.A) (i:Gl X x) (n:PA3 X (e::a) t) (d:(x==("__debug__":Str))=false:=by decide) (o:starEach (e::a) X.env=(false,eval e X.env)::starEach a X.env:=by rfl) (h:(backTo c (starEach a X.env)).any (·.1)=false:=by rfl):
  PE3 X (.Call (.Name x p) (e::a) [] c) (qd sp t):=by
 obtain⟨f,q,g,F⟩:=D.ex;exact Il F j i g.m g.fn.kp g.b n d o h
def aU {st:Stmt}{p b:Pos} (D:Cal X.prog X.w X.K X.mg X.base k x st h sp) (g:Room j X.A) (f:Gl X x) (i:PA3 X (e::a) t) (m:k<=j:=by decide) (c:(x==("__debug__":Str))=false:=by decide) (l:starEach (e::a) X.env=(false,eval e X.env)::starEach a X.env:=by rfl) (d:(backTo b (starEach a X.env)).any (·.1)=false:=by rfl):PE3 X (.Call (.Name x p) (e::a) [] b) (qd sp t):=Qq D (g.mono m) f i c l d
def rpH (o:Option O3) (k:Int) (H:Hp3) (Q:VK3):Prop:=match o with
 |some (.lst xs)=>(-(2^63)<=k/\k<2^63/\xs.length*k.toNat<=sizeLine)/\∀p,H p=none->Q (.ref p) (up3 H p (.lst (List.replicate k.toNat xs).flatten))
 |_=>False
def Mh:R3:=fun x y H Q=>match x,y with
 |.ref a,.int k=>rpH (H a) k H Q
 |_,_=>False
def Mi (a:Addr) (k:Int) (H:Hp3) (Q:VK3):Mh (.ref a) (.int k) H Q=rpH (H a) k H Q:=rfl
def Mj (xs:List T) (k:Int) (H:Hp3) (Q:VK3):rpH (some (.lst xs)) k H Q=((-(2^63)<=k/\k<2^63/\xs.length*k.toNat<=sizeLine)/\∀p,H p=none->Q (.ref p) (up3 H p (.lst (List.replicate k.toNat xs).flatten))):=rfl
def Reps.rep {K:Frag} (r:Reps K H ts vs):∀k:Nat,Reps K H (List.replicate k ts).flatten (List.replicate k vs).flatten
 |0=>.nil
 |k+1=>by rw[Y8,Y8,Zm,Zm];exact r.append (Reps.rep r k)
def vV:dM X (binaryOp .Mult) Mh:=by
 refine OpR.imp OJ ?_;rintro x y H Q ⟨l,g,H3,s,m,q,b,h,k⟩;cases l with
 |ref a =>
  cases g with
  |int n =>
   rw[Mi] at h;cases e:H3 a with
   |none=>rw[e] at h;exact h.elim
   |some o =>
   rw[e] at h;cases o with
   |lst xs=>rw[Mj] at h;obtain⟨vs,r,d⟩:=b a _ e;obtain⟨⟨i,j,f⟩,h'⟩:=h;refine⟨a,n,vs,m.ref,q.int,r,i,j,by rw[<- d.length];exact f,fun p c=>?_⟩;exact k _ _ _ _ (aO c) (b.newLst c (d.rep n.toNat)) .ofRef (h' p (b.fresh c))
   |_=>exact h.elim
  |_=>exact h.elim
 |_=>exact h.elim
def lr_hint:Slot "list_reverseiterator" "__length_hint__" "list_reverseiterator.__length_hint__":=.of (owner:="list_reverseiterator") (n:="__length_hint__") (by rw[typeLookup_type,builtinLookup_eq_fast];kernel_rfl) (by decide +kernel) (by decide +kernel) (by decide +kernel)
 (by first | exact .inr (by decide +kernel) | exact .inl (by decide +kernel)) (by rw[isSubtype_type];kernel_rfl)
def Dj:typeLookup (.type "list_reverseiterator") "__len__"=pure none:=by rw[typeLookup_type,builtinLookup_eq_fast];kernel_rfl
def Qs:isSubtype (.type "list_reverseiterator") (.type "list_reverseiterator")=pure true:=by rw[isSubtype_type];kernel_rfl
def Dk {a b:Array Value}(h:ItemsOf (fun i v=>a[a.size - 1 - i]?=some v) b a.size):b=a.reverse:=by
 refine Array.ext (by rw[h.1];simp) fun j c e=>?_;have q:a[a.size - 1 - j]?=some b[j]:=h.2 j b[j] (aao c);have d:j<a.size:=by rw[<- h.1];exact c
 rw[aao (by omega)] at q;rw[Array.getElem_reverse];exact (O_ q).symm
def zK (E:A.handled=none) (x:l≠I) (hsz:c.size<=sizeLine) (p:S∉[I,l]) (j:s.heap.IsRevIter I l ((c.size:Int) - 1)) (C:s.heap.IsList l c) (D:s.heap.get? S=some { cls:=.type "list",data:=.seq #[] n}) (z:∀s' d k,Moved (S::[I]) (fun a b=>b=a) s s'->s'.heap.get? S=some { cls:=.type "list",dict:=none,data:=.seq d k,slots:=#[]}->ItemsOf (fun i v=>c[c.size - 1 - i]?=some v) d c.size->R (.ok (.ret q)) s'):
  wpAny (model prog w) A.in1 (Builtin.List.listExtendWith (.ref S) (.ref I) q)
   (fun t s'=>match t with | .done f=>R (.ok f) s' | .again k=>k.quiet=true/\codeAny (model prog w) A k R s') (fun e s'=>R (.error e) s') s:=by
 have W:=(Walks.listRev (prog:=prog) (w:=w) (A:=A.in1) E I l x c).toS;have r:S≠I:=fun e=>p (e▸k_);have st:(fun (i:Nat) (s:Shared)=>i<=c.size/\s.heap.IsRevIter I l ((c.size:Int) - 1 - (i:Int))/\s.heap.IsList l c) 0 s:=⟨Y7 _,by simpa using j,C⟩;have g:s.TypeIs (.ref I) "list_reverseiterator":=j.typeIs;unfold Builtin.List.listExtendWith;refine a_ (wpAny_typeOf g ?_);have H:Builtin.List.listSameRef (.ref S) (.ref I)=false:=by simp [Builtin.List.listSameRef,r]
 have y:(Value.type "list_reverseiterator"==Value.type "list")=false:=by decide
 have B:(Value.type "list_reverseiterator"==Value.type "tuple")=false:=by decide
 simp only[H,y,B,Bool.or_false,C_,YG];refine a_ (wpAny_pyIter_revIter j ?_);refine a_ (Zw ?_);unfold Builtin.List.listLengthHint;refine a_ (wpAny_specialOf g Dj ?_);show wpAny _ A.in1 (specialOf (Value.ref I) (Str.ofString "__length_hint__") >>= _) _ _ _;refine a_ (wpAny_specialOf g lr_hint.lookup ?_);generalize h:("list_reverseiterator.__length_hint__":String)=o
 (fail_if_success (clear h o))
 wp_delta
 rw[show splitId o=some ("list_reverseiterator","__length_hint__") from by subst h;decide +kernel];subst h;refine a_ (wpAny_isInstance (b:=true) g Qs ?_);rw[if_neg (show ¬(!true)=true from J_)];dsimp only;rw[if_pos (by decide +kernel)];rw[if_neg (show ¬((Value.builtin "list_reverseiterator.__length_hint__"==Value.builtin "range_iterator.__length_hint__")=true) from by decide)];refine n_ ?_;try rw[if_neg J_]
 refine n_ ⟨plainId_quiet F.plain_extend_loop _,?_⟩;exact codeAny_extend_loopS W hsz _ p _ c.size 0 _ _ _ rfl (Y7 _) st D (ItemsOf.nil _) fun s' d k G u m=>z s' d k G u m
def Jm (H:A.handled=none) (u:l≠I) (hsz:d.size<=sizeLine) (j:S∉[I,l]) (y:s.heap.IsRevIter I l ((d.size:Int) - 1)) (F:s.heap.IsList l d) (x:s.heap.get? S=some { cls:=.type "list",data:=.seq #[]}) (B:∀s' g n,Moved (S::[I]) (fun a b=>b=a) s s'->s'.heap.get? S=some { cls:=.type "list",dict:=none,data:=.seq g n,slots:=#[]}->ItemsOf (fun i v=>d[d.size - 1 - i]?=some v) g d.size->R (.ok (.ret .none)) s'):
  wpAny (model prog w) A.in1 (Builtin.«list.__init__» ⟨[.ref S,.ref I],[]⟩)
   (fun q s'=>match q with | .done f=>R (.ok f) s' | .again n=>n.quiet=true/\codeAny (model prog w) A n R s') (fun e s'=>R (.error e) s') s:=by
 show wpAny _ A.in1 (do let z <- Builtin.List.listItems (.ref S);Builtin.List.listUpdate (.ref S) (fun _=>#[]);letGo z.toList.reverse;Builtin.List.listExtendWith (.ref S) (.ref I) .none) _ _ s;refine a_ ?_;unfold Builtin.List.listItems;refine a_ (Z7 x rfl (n_ ?_));show wpAny _ A.in1 (updateSeq S (fun _=>#[]) >>= fun _=>letGo (#[]:Array Value).toList.reverse >>= fun _=>Builtin.List.listExtendWith (.ref S) (.ref I) .none) _ _ s;refine a_ (wpAny_updateSeq x rfl ?_);have k:=ZC (Obj.mapSeq (fun _=>(#[]:Array Value))) x rfl;have m:∀b o,b≠S->s.heap.get? b=some o->(s.heap.update S (Obj.mapSeq (fun _=>(#[]:Array Value)))).get? b=some o :=
  fun b o r e=>(YJ _ _ (Ne.symm r)).trans e
 refine a_ (wpAny_letGo ?_);have E:I≠S:=fun e=>j (by simp [e]);have K:l≠S:=fun e=>j (by simp [e]);refine zK H u hsz j (y.at fun o e=>m _ o E e) (F.at fun o e=>m _ o K e) k fun s' g n J t p=>?_;exact B s' g n (Moved.trans (G:=fun a b=>b=a) (fun a b c D C=>C.trans D) ((Moved.refl (G:=fun a b=>b=a) fun _=>rfl).then_heap (l_ _) fun b o r e=>m b o (fun h=>r (h▸k_)) e) J) t p
def nW (y:A.handled=none) (r:l≠I) (hsz:c.size<=sizeLine) (j:s.heap.IsRevIter I l ((c.size:Int) - 1)) (v:s.heap.IsList l c) (z:∀s' n,Moved (s.heap.objs.size::[I]) (fun a b=>b=a) { s with heap:=s.heap.push { cls:=.type "list",data:=.seq #[]}} s' ->
   s'.heap.get? s.heap.objs.size=some { cls:=.type "list",dict:=none,data:=.seq c.reverse n,slots:=#[]}->Q (.ref s.heap.objs.size) s'):
  wpAny (model prog w) A (call (.type "list") [.ref I]) Q E s:=by
 have i:I<s.heap.objs.size:=by obtain⟨o,m,_⟩:=j;exact p_ m
 have h:l<s.heap.objs.size:=by obtain⟨o,m,_⟩:=v;exact p_ m
 have p:s.heap.objs.size∉[I,l]:=fun t=>by
  rcases u_.mp t with e | e
  ·rw[<- e] at i;exact YM _ i
  rw[<- i_.mp e] at h;exact YM _ h
 refine callType_codes (Q₁:=fun k d=>k=.ref s.heap.objs.size/\d={ s with heap:=s.heap.push { cls:=.type "list",data:=.seq #[]}}) F.called_list (F.typeCall_list_1 _) F.entry_list_init
  (code_list_new _ ⟨rfl,rfl⟩) fun k d g=>?_
 obtain⟨rfl,rfl⟩:=g;have x:(s.heap.push { cls:=.type "list",data:=.seq #[]}).get? s.heap.objs.size=some { cls:=.type "list",data:=.seq #[]}:=o_ _ rfl;refine⟨⟨_,x,rfl⟩,F.args_list_init_2 _ _,Jm (A:=A.in1) y r hsz p (j.at fun o e=>b_ _ e) (v.at fun o e=>b_ _ e) x fun s' u n t q f=>?_⟩;refine⟨rfl,z s' n t ?_⟩;rw[<- Dk f];exact q
def Itv (K:Frag) (a:Addr) (n:Nat):It :=
 ⟨fun i H=>∃xs x,SqL K H a xs/\xs.length=n/\i<n/\xs[n - 1 - i]?=some x,fun i H x H'=>H'=H/\∀xs,SqL K H a xs->xs[n - 1 - i]?=some x,fun i _=>n<=i⟩
def Dl {K:Frag} (a it:Addr) (n:Nat):Turn P w K tg (Itv K a n) [it] it (fun i h=>i<=n/\h.IsRevIter it a ((n:Int) - 1 - (i:Int))) where
 mem:=by simp
 obj:=fun i h st b g=>by
  have e:b=it:=by simpa using g
  subst e
  obtain⟨_,o,e,c,d⟩:=st
  exact⟨o,e,fun v z=>by rw[d] at z;cases z⟩
 keep:=fun i h h' st k=>⟨st.1,st.2.at fun o e=>k it (by simp) o e⟩
 item:=by
  intro X D B A G i f s J H E I l st y
  subst D B A
  obtain⟨xs,x,L,hn,O,F⟩:=y
  obtain⟨U,Z,p,hz⟩:=I.list L
  obtain⟨u,S,R⟩:=Z.get F
  obtain⟨r,m,T,C,q,t⟩:=l it (by simp)
  have e:(n:Int) - 1 - (i:Int)=((n - 1 - i:Nat):Int):=by omega
  obtain⟨_,st⟩:=st
  rw[e] at st
  refine wpAny_pyNext_rev_item st p.isList (x:=u) (by simpa using S) fun h' j sb=>?_
  have N:Inv X f J H { s with heap:=h'}:=I.turned (t':=s.toks) (fun b o g e=>(sb.2 b g).trans e) r m C q t
  obtain⟨o,Y,c,d⟩:=id j
  have e2:((n - 1 - i:Nat):Int) - 1=(n:Int) - 1 - ((i+1:Nat):Int):=by omega
  rw[e2] at j
  exact⟨u,rfl,xf (s:={ s with heap:=h'}) Y c d (by decide) ⟨x,H,N,R,⟨rfl,fun ys M=>by rw[I.list_inj M L];exact F⟩,⟨O,j⟩,fun b g=>(l b g).1⟩⟩
 done:=by
  intro X D B A G i f s J H E I l st y
  subst D B A
  obtain⟨r,m,T,C,q,t⟩:=l it (by simp)
  obtain⟨Q,st⟩:=st
  have W:n<=i:=y
  have e:(n:Int) - 1 - (i:Int) = -1:=by omega
  rw[e] at st
  exact wpAny_pyNext_rev_end (I.ok.hd G) st fun h' V=>⟨rfl,I.turned (t':=s.toks) (fun b o g e=>V b o g e) r m C q t⟩
 self:=fun _ _ _ _ _ st h=>wpAny_pyIter_revIter st.2 h
def kW:bootBuiltins "reversed"=some (.type "reversed"):=by decide +kernel
section
variable {X:Cx}{tg e:Expr}{p p1 p2 pos pos':Pos}
def Ye (K:Frag) (te:TE):TI:=fun c H R=>te c H fun x b=>∃a xs,x=.ref a/\SqL K b a xs/\R (Itv K a xs.length) b
def Qt (v:Gl X "reversed") (C:X.mg "reversed"=none) (w:PE X e te) (l:starEach [e] X.env=(false,eval e X.env)::starEach [] X.env:=by rfl) (i:(backTo pos (starEach [] X.env)).any (·.1)=false:=by rfl):
  PI X tg (.Call (.Name "reversed" p) [e] [] pos) (Ye X.K te):=by
 intro d s A H R I h;refine Y6 (fU I v C kW ?_ (by decide) (by decide));refine YS ?_ l i;rw[l];show wpAny _ _ (spliced ((false,eval e X.env)::backTo pos (starEach [] X.env))) _ _ s;refine Z1 (thn (w d s A H _ I h) fun u c ⟨x,n,g,r,a,xs,m,B,q⟩=>?_);subst m;cases r;refine aaq ?_;obtain⟨j,D,y,E⟩:=g.list B;have f:=D.length;refine call_reversed_list y.isList ?_;have z:((j.toArray.size:Nat):Int) - 1=(xs.length:Int) - 1:=by simp [f]
 rw[z];have k:(c.heap.push (revObj a ((xs.length:Int) - 1))).IsRevIter c.heap.objs.size a ((xs.length:Int) - 1):=⟨_,o_ _ rfl,rfl,rfl⟩;refine wpAny_pyIter_revIter k ?_;refine⟨c.heap.objs.size,[c.heap.objs.size],_,_,n,rfl,g.kept (t':=c.toks) fun b o e=>b_ _ e,Dl a c.heap.objs.size xs.length,⟨Y7 _,by simpa using k⟩,fun b t=>?_,q⟩;have e:b=c.heap.objs.size:=by simpa using t
 subst e;exact g.fpOk (l_ _) (g.hok.fresh (l_ _))
def reO (o:Option O3) (a:Addr) (H:Hp3) (R:List T->(Hp3->Prop)->Hp3->Prop):Prop:=match o with
 |some (.lst ts)=>R ts.reverse (bF a ts) H
 |_=>False
def Ml (te:TE3):TI3:=fun c H R=>te c H fun x b=>match x with
 |.ref a=>reO (b a) a b R
 |_=>False
def Dm {K:Frag}{xs:List V} (o:xs.length=ts.length):jt K (Itv K a xs.length) ts.reverse (bF a ts) H:=fun H' n p d st=>by
 obtain⟨f,g,b⟩:=d.sqL st;have k:=b.length;rw[o];refine⟨fun i c=>by rw[ZW] at c;exact c,fun i t e=>?_⟩;have c:i<ts.length:=by have:=(Zc.mp e).1;rw[ZW] at this;exact this
 rw[List.getElem?_reverse c] at e;obtain⟨v,h,m⟩:=b.get e;refine⟨⟨f,v,g,k.symm,c,h⟩,fun x j y=>?_⟩;obtain⟨l,y⟩:=y;subst l;have:=y f g;rw[h] at this;cases this;exact⟨.refl,d,m⟩
def Qu (j:Gl X "reversed") (n:X.mg "reversed"=none) (u:PE3 X e te) (w:starEach [e] X.env=(false,eval e X.env)::starEach [] X.env:=by rfl) (g:(backTo pos (starEach [] X.env)).any (·.1)=false:=by rfl):
  PI3 X tg (.Call (.Name "reversed" p) [e] [] pos) (Ml te):=by
 refine PI.imp (Qt j n u w g) ?_;rintro y H R ⟨f,H3,R3,s,i,h,k⟩;refine⟨f,H3,_,s,i,h,fun v H' t b m c r q=>?_⟩;cases t with
 |ref a =>
  have d:reO (b a) a b R3:=q
  cases e:b a with
  |none=>rw[e] at d;exact d.elim
  |some o =>
   rw[e] at d
   cases o with
   |lst ts =>
    obtain⟨xs,x,l⟩:=c.sqL (.inl e)
    exact⟨a,xs,r.ref,x,k _ _ (bF a ts) H' b m c (Dm l.length.symm) d⟩
   |_=>exact d.elim
 |_=>exact q.elim
def Qv (te:TE3) {c:St3}{H:Hp3}{R:List T->(Hp3->Prop)->Hp3->Prop}:Ml te c H R=te c H fun x b=>match x with
 |.ref a=>reO (b a) a b R
 |_=>False:=rfl
def Vq (ts:List T) (a:Addr) (H:Hp3) (R:List T->(Hp3->Prop)->Hp3->Prop):reO (some (.lst ts)) a H R=R ts.reverse (bF a ts) H:=rfl
def Qw (te:TE):TE:=fun c H Q=>te c H fun x a=>∃p b,x=.ref p/\SqL X.K a p b/\∀l,a l=none->Q (.ref l) (upd a l (.lst b.reverse))
def Do (U:X.calm=true) (m:Gl X "list") (n:X.mg "list"=none) (l:Gl X "reversed") (k:X.mg "reversed"=none) (N:PE X e te) (y:starEach [e] X.env=(false,eval e X.env)::starEach [] X.env:=by rfl) (f:(backTo pos (starEach [] X.env)).any (·.1)=false:=by rfl) (g:(backTo pos' (starEach [] X.env)).any (·.1)=false:=by rfl):
  PE X (.Call (.Name "list" p1) [.Call (.Name "reversed" p2) [e] [] pos'] [] pos) (Qw (X:=X) te):=by
 intro c s B H Q I h;refine Y6 (fU I m n lG ?_ (by decide) (by decide));refine YS ?_ rfl f;show wpAny _ _ (spliced ((false,eval (.Call (.Name "reversed" p2) [e] [] pos') X.env)::backTo pos (starEach [] X.env))) _ _ s;refine Z1 ?_;refine Y6 (fU I l k kW ?_ (by decide) (by decide));refine YS ?_ y g;rw[y];show wpAny _ _ (spliced ((false,eval e X.env)::backTo pos' (starEach [] X.env))) _ _ s;refine Z1 (thn (N c s B H _ I h) fun u s1 ⟨x,P,j,J,p,G,F,R,q⟩=>?_);subst F;cases J;obtain⟨a,D,r,S⟩:=j.list R;have C:=D.length;have hsz:a.toArray.size<=sizeLine:=by simp only[t_];omega
 refine aaq ?_;refine call_reversed_list r.isList ?_;refine aaq ?_;have f:p<s1.heap.objs.size:=by obtain⟨o,E,_⟩:=r.isList;exact p_ E
 have t:(s1.heap.push (revObj p ((a.toArray.size:Int) - 1))).IsRevIter s1.heap.objs.size p ((a.toArray.size:Int) - 1):=⟨_,o_ _ rfl,rfl,rfl⟩;refine nW (s:={ s1 with heap:=s1.heap.push (revObj p ((a.toArray.size:Int) - 1))}) (j.ok.hd U) (I_ f) hsz t (r.isList.at fun o e=>b_ _ e) fun s' K i A=>?_;generalize v:(s1.heap.push (revObj p ((a.toArray.size:Int) - 1))).objs.size=z at i A;have d:s1.heap.objs.size<z:=by rw[<- v];simp [Heap.push]
 have O:∀b u,s1.heap.get? b=some u->s'.heap.get? b=some u:=fun b u w=>i.heap b u (fun L=>by
  have:=p_ w
  rcases u_.mp L with e | e
  ·
   rw[e] at this;exact absurd (YL this d) (YM _)
  ·
   rw[i_.mp e] at this;exact YM _ this) (b_ _ (b_ _ w))
 have T:s'={ s1 with heap:=s'.heap,toks:=s'.toks}:=by
  obtain⟨Z,Y,V,W,a5⟩:=s';have:=i.gens;have:=i.drawn;have:=i.os
  simp_all
 have M:Inv X c B (upd P z (.lst G.reverse)) { s1 with heap:=s'.heap,toks:=s'.toks} :=
  j.laid (t':=s'.toks) O (ZD d) ⟨by rw[ZW];exact S,a.reverse,K,D.reverse,by simpa using A⟩
 rw[T];exact⟨.ref z,_,M,rfl,q _ (j.hok.fresh (ZD d))⟩
def lrO (o:Option O3) (H:Hp3) (Q:VK3):Prop:=match o with
 |some (.lst xs)=>∀p,H p=none->Q (.ref p) (up3 H p (.lst xs.reverse))
 |_=>False
def ye (te:TE3):TE3:=fun c H Q=>te c H fun x b=>match x with
 |.ref a=>lrO (b a) b Q
 |_=>False
def Dp (D:X.calm=true) (j:Gl X "list") (m:X.mg "list"=none) (i:Gl X "reversed") (g:X.mg "reversed"=none) (y:PE3 X e te) (A:starEach [e] X.env=(false,eval e X.env)::starEach [] X.env:=by rfl) (n:(backTo pos (starEach [] X.env)).any (·.1)=false:=by rfl) (d:(backTo pos' (starEach [] X.env)).any (·.1)=false:=by rfl):
  PE3 X (.Call (.Name "list" p1) [.Call (.Name "reversed" p2) [e] [] pos'] [] pos) (ye te):=by
 refine PE.imp (Do D j m i g y A n d) ?_;rintro E H Q ⟨s,H3,x,z,u,h,k⟩;refine⟨s,H3,_,z,u,h,fun v H' t c w b r q=>?_⟩;cases t with
 |ref a =>
  have f:lrO (c a) c x:=q
  cases e:c a with
  |none=>rw[e] at f;exact f.elim
  |some o =>
   rw[e] at f
   cases o with
   |lst ts =>
    obtain⟨xs,C,B⟩:=b.sqL (.inl e)
    exact⟨a,xs,r.ref,C,fun l p=>k _ _ _ _ (w.trans (aO p)) (b.newLst p B.reverse) .ofRef (f l (b.fresh p))⟩
   |_=>exact f.elim
 |_=>exact q.elim
def Jo (te:TE3) {c:St3}{H:Hp3}{Q:VK3}:ye te c H Q=te c H fun x b=>match x with
 |.ref a=>lrO (b a) b Q
 |_=>False:=rfl
def Vr (xs:List T) (H:Hp3) (Q:VK3):lrO (some (.lst xs)) H Q=∀p,H p=none->Q (.ref p) (up3 H p (.lst xs.reverse)):=rfl
variable {apos cpos:Pos}{Ty id:String}
def Mm (b:String) (m:T->List T->Hp3->VK3->Prop) (d:TE3):TE3:=fun c H Q=>d c H fun x a=>ty3 b x a/\m x [] a Q
def vW (u:PlainAttrs Ty) (c:Slot Ty name id) (e:typeOf (.builtin id)=pure (.type "method_descriptor")) (t:vA X id m) (p:PE3 X o to)
  (a:attributeBase o name X.env (eval o X.env)=eval o X.env:=by rfl) (b:(apos.endLine==cpos.line)=true:=by rfl) :
  PE3 X (.Call (.Attribute o name apos) [] [] cpos) (Mm Ty m to):=by
 refine PE.imp (Oz u c e t p a b) ?_;rintro w H Q ⟨g,H3,r,s,n,h,k⟩;exact⟨g,H3,_,s,n,h,fun x v q f i d j l=>⟨Lr d j l.1,q,[],f,r,j,.nil,d,l.2,k.at i⟩⟩
def mxH (o:Option O3) (H:Hp3) (Q:VK3):Prop:=match o with
 |some (.lst xs)=>oq (ints3 xs) fun ns=>ns≠[]/\∀M,M∈ns->(∀a∈ns,a<=M)->Q (.int M) H
 |_=>False
def Dq:List T->Hp3->VK3->Prop:=fun ts H Q=>match ts with
 |[.ref a]=>mxH (H a) H Q
 |_=>False
def Dr (a:Addr) (H:Hp3) (Q:VK3):Dq [.ref a] H Q=mxH (H a) H Q:=rfl
def Mp (xs:List T) (H:Hp3) (Q:VK3):mxH (some (.lst xs)) H Q=oq (ints3 xs) fun ns=>ns≠[]/\∀M,M∈ns->(∀a∈ns,a<=M)->Q (.int M) H:=rfl
def iI (M:X.calm=true):cX X (.builtin "max") Dq:=by
 intro z s R H xs us Q I L h;obtain⟨ts,H3,O,r,p,h,k⟩:=h;cases ts with
 |nil=>exact h.elim
 |cons t ts =>
 cases ts with
 |cons _ _=>cases t <;> exact h.elim
 |nil =>
 cases t with
 |ref a =>
  rw[Dr] at h;obtain⟨v,rfl,m⟩:=r.one';obtain⟨u,rfl,w⟩:=vals1 L;rw[m.ref] at w;cases w;cases e:H3 a with
  |none=>rw[e] at h;exact h.elim
  |some o =>
  rw[e] at h;cases o with
  |lst F =>
   rw[Mp] at h;obtain⟨N,J,G⟩:=p.sqL (.inl e);cases n:ints3 F with
   |none=>rw[n] at h;exact h.elim
   |some ns =>
   rw[n,fG] at h;obtain⟨l,h⟩:=h;obtain⟨b,i,E,_⟩:=I.list J;have q:=jg n G i;have d:AllInts b.toArray:=q.allInts;obtain⟨c,x⟩:=d.items;have g:s.heap.IsList a (intItems c):=by rw[<- x];exact E.isList
   have f:=nums_intItems c;rw[<- x,show b.toArray.toList=b from rfl,q.numsOf] at f;have K:0<c.size:=by have:=W_ List.length f;simp at this;have:=List.length_pos_iff.mpr l;omega
   refine max_intList (I.ok.hd M) g K fun v h' tk A C=>?_;obtain⟨t,rfl⟩:=intItems_at A;obtain⟨P,B⟩:=argBest_gt (numAt c) (c.size - 1);refine⟨.int _,H,I.kept C,⟨t,rfl⟩,k _ _ _ _ .refl p .ofInt (h _ ?_ fun a y=>?_)⟩
   ·rw[f,numAt_eq];exact getD_mem (by rw[e_,aaf];omega)
   rw[f] at y;obtain⟨j,D,rfl⟩:=mem_getD y;rw[e_,aaf] at D;rw[<- numAt_eq];exact B j (by omega)
  |_=>exact h.elim
 |_=>cases h
end
def Ds {o:Type} (l j k f:o->T) (p:o->Bool) (g:List o) (rest:St3) (i:still H) (B:g.length<=sizeLine) (C:∀a∈g,∀Q:Bool->Hp3->Prop,Q (p a) H->tt (some (l a)::some (j a)::some (k a)::rest) H Q) (A:∀a∈g,p a=true->∀Q:VK3,Q (f a) H->te (some (l a)::some (j a)::some (k a)::rest) H Q) (m:h ((g.filter p).map f) H):
  cIter3 (xJ 3 (je (fB 0) (je (fB 1) (je (fB 2) xH)))) tt te still h (g.map fun a=>.tup [l a,j a,k a]) [] (v::u::w::rest) H:=by
 refine jB (fun r q y H'=>∃(d e:List o) (v u w:Option T),y=v::u::w::rest/\r=d.map (fun a=>.tup [l a,j a,k a])/\q=(e.filter p).map f/\e++d=g/\H'=H) ⟨g,[],v,u,w,rfl,rfl,rfl,rfl,rfl⟩ ?_ ?_
 ·rintro q y H' ⟨d,e,v,u,w,rfl,c,rfl,b,rfl⟩;have n:d=[]:=aag.mp c.symm;subst n;rw[S_] at b;subst b;exact⟨i,by rw[e_];exact Q_ (Yy _ _) B,m⟩
 rintro x r q y H' N ⟨d,e,v,u,w,rfl,c,rfl,b,rfl⟩ z;cases d with
 |nil=>cases c
 |cons t d =>
 injection c with a1 a2;subst a1 a2;refine⟨i,rfl,?_⟩;show tt (some (l t)::some (j t)::some (k t)::rest) H' _;refine C t (by rw[<- b];simp) _ ?_;cases s:p t with
 |true=>rw[if_pos rfl];refine A t (by rw[<- b];simp) s _ ⟨?_,z _ _ _ ⟨d,e++[t],_,_,_,rfl,rfl,by simp [s],by rw[<- b];simp,rfl⟩⟩;have:=W_ List.length b;simp only[d_,j_] at this;rw[e_];have:=Yy p e;omega
 |false =>
 rw[if_neg J_];exact z _ _ _ ⟨d,e++[t],_,_,_,rfl,rfl,by simp [s],by rw[<- b];simp,rfl⟩
open L2 HT
def isN:T->Bool
 |.non=>true
 |_=>false
def Vs:R3:=fun x y H Q=>match y with
 |.non=>Q (.bl (isN x)) H
 |_=>False
def Yg (x:T) (H:Hp3) (Q:VK3):Vs x .non H Q=Q (.bl (isN x)) H:=rfl
def Jp:isN .non=true:=rfl
def Jq (i:Int):isN (.int i)=false:=rfl
def Jr (x:Str):isN (.str x)=false:=rfl
def Js (ts:List T):isN (.tup ts)=false:=rfl
def Qx (b:Bool):isN (.bl b)=false:=rfl
def Vt:dM X (compareOp .Is) Vs:=by
 refine OpR.imp Ol ?_;rintro x y H Q ⟨c,ty,H3,g,b,f,d,h,k⟩;cases ty with
 |non =>
  refine⟨f.non,?_⟩;have e:decide (x=.non)=isN c:=by
   cases c with
   |non=>rw[b.non];rfl
   |int i=>rw[b.int];rfl
   |str i=>rw[b.str];rfl
   |bl i=>rw[b.bl];rfl
   |ref a=>rw[b.ref];rfl
   |tup ts=>obtain⟨a,vs,rfl,_⟩:=b.tup;rfl
   |ty n=>rw[b.ty];rfl
  rw[e];exact k _ _ _ _ .refl d .ofBl h
 |_=>exact h.elim
end L3
namespace L2
end L2
namespace L3
open L2
def orq (x:T) (p q:Prop):Prop:=match x with
 |.non=>p
 |.tup (_::_)=>q
 |_=>False
def Vu (c tb:TE3):TE3:=fun b H Q=>c b H fun x a=>orq x (tb b a Q) (Q x a)
end L3
namespace L2
end L2
namespace L3
open L2
section
variable {X:Cx}
variable {pins:List (Addr × Obj)}{σ:L2.St}
def Inv.freeze (I:Inv X pins σ H s) (e:H a=some (.dK kvs)):∃o,s.heap.get? a=some o/\Inv X pins σ (upd H a (.frz o (.dK kvs))) s:=by
 have z:=I.hok a _ e;obtain⟨l,m,vs,g,o,k,ep,f,i,r⟩:=id (show ObjOk X.prog X.w H s.heap a (.dK kvs) from z);have d:∀b u,H b=some u->(∀j,u≠.dK j)->b≠a:=fun b u q n w=>by subst w;rw[e] at q;cases q;exact n _ rfl
 refine⟨o,f,?_⟩;have:=I.step (h':=s.heap) (g':=s.gens) (d':=s.drawn) (t':=s.toks) (H':=upd H a (.frz o (.dK kvs))) (ch:=[]) (fun _ z=>nomatch z) (fun b o _ _ _ q _=>q) (fun b o _ _ _ q _=>⟨_,q⟩)
  (fun b o _ _ n=>by rw[aL (fun w=>by subst w;rw[e] at n;cases n)];exact n) (fun b o _ q=>⟨_,q⟩)
  (fun b xs q=>by rw[aL (d b _ q fun _=>nofun)];exact q) (fun b o u q=>by rw[aL (d b _ q fun _=>nofun)];exact q)
  (fun b p q=>⟨#[],by rw[aL (d b _ q fun _=>nofun),Array.append_empty];exact q⟩) (fun _ q=>q) (fun b u q=>?_) I.bare
 ·exact this
 by_cases h:b=a
 ·subst h;rw[aY] at q;cases q;exact⟨f,l,m,vs,g,o,k,ep,f,i,r⟩
 rw[aL h] at q;exact (I.hok b u q).stay (fun _ _ _ r=>r) (fun c r=>by rw[aL (d c _ r fun _=>nofun)];exact r) fun c xs r=>by rw[aL (d c _ r fun _=>nofun)];exact r
end
def Vv (h:(bK P w).is k u=true):RelV (kV k) u:=by
 rcases bQ h with ⟨i,t,b,a⟩ | ⟨y,t,b,a⟩
 ·subst b a;exact⟨t,rfl⟩
 subst b a;exact⟨t,rfl⟩
def jl:∀{l₁:List a}{l₂:List c}{i:Nat}{x:a},Paired F l₁ l₂->l₁[i]?=some x->∃y,l₂[i]?=some y/\F x y
 |_,_,i,x,.nil,e=>by simp at e
 |_,_,0,x,.cons (b:=b) h t,e=>by simp at e;subst e;exact⟨b,rfl,h⟩
 |_,_,i+1,x,.cons h t,e=>by simpa using jl t (by simpa using e)
def Iti (d:Addr) (o:Obj):It :=
 ⟨fun i H=>∃kvs a,H d=some (.frz o (.dK kvs))/\kvs[i]?=some a,
  fun i H v H'=>∃p k x,v=.ref p/\H p=none/\H'=upd H p (.tup [kV k,x])/\∀kvs,H d=some (.frz o (.dK kvs))->kvs[i]?=some (k,x),
  fun i H=>∃kvs,H d=some (.frz o (.dK kvs))/\kvs.length<=i⟩
def zL:entryFor table "dict_itemiterator.__iter__"=some Builtin.«dict_keyiterator.__iter__» :=
 entryFor_alias (id':="dict_keyiterator.__iter__") (by kernel_rfl) rfl (by decide +kernel) (by kernel_rfl)
def Dt {q:L2.St} (I:Inv X c q H s) (e:H d=some (.frz o (.dK kvs))) (j:o.data=.dict f ep):
  ∃vs,KV kvs vs/\s.heap.DictAt (bK X.prog X.w) d vs ep/\vs.length=f.size:=by
 obtain⟨h,_,_,vs,g,r,l,p,b,k,a,m,i,n⟩:=(show ObjOk X.prog X.w H s.heap d (.frz o (.dK kvs)) from I.hok d _ e);rw[h] at b;cases b;rw[j] at a;cases a;exact⟨vs,g,⟨o,f,h,k,j,m,i,n⟩,by rw[<- i.length];simp⟩
def vX {K:Frag} (d it:Addr) (o:Obj) (Z:Array DictEntry) (ep:Nat) (Y:o.data=.dict Z ep):
  Turn P w K (.Tuple p x1 N) (Iti d o) [it] it (fun i h=>∃l m,IsItemIter h it d i Z.size ep l m) where
 mem:=k_
 obj:=fun i h st c e=>by
  obtain⟨l,m,f⟩:=st
  rw[i_.mp e]
  exact⟨_,f,fun v z=>by cases z⟩
 keep:=fun i h h' st k=>by
  obtain⟨l,m,f⟩:=st
  exact⟨l,m,k it (by simp) _ f⟩
 item:=by
  intro X W T S e i g s U H E I n st R
  subst W T S
  obtain⟨kvs,⟨k,x⟩,L,M⟩:=R
  obtain⟨l,m,f⟩:=st
  obtain⟨vs,j,V,a⟩:=Dt I L Y
  obtain⟨⟨k',u⟩,hu,ek,ru⟩:∃q,vs[i]?=some q/\k=q.1/\RelV x q.2:=jl j M
  subst ek
  rw[<- a] at f
  refine wpAny_pyNext_items_item f V hu fun key h' hk ho y hsz kp=>?_
  refine⟨_,rfl,wpAny_letOwnedTupleGo_items ho fun D B sb=>?_⟩
  have lt:∀{c o},s.heap.get? c=some o->s.heap.objs.size≠c:=fun q=>Yz (p_ q)
  have C:s.heap.objs.size≠it:=lt f
  have G:∀{c:Addr},c∈[it]->c≠s.heap.objs.size:=fun {c} e=>by rw[i_.mp e];exact Ne.symm C
  have O:∀c o,c∉[it]->s.heap.get? c=some o->D.get? c=some o:=fun c o J q=>(sb.2 c fun z=>J (z▸k_)).trans (kp c o (fun z=>J (z▸k_)) q)
  have I1:Inv X g U (upd H s.heap.objs.size (.tup [kV k,x])) { s with heap:=s.heap.push { cls:=.type "tuple",data:=.seq #[key,u]},toks:=s.toks} :=
   I.laid (t':=s.toks) (fun b o q=>b_ _ q) (l_ _) (show ObjOk X.prog X.w _ _ _ (.tup [kV k,x]) from ⟨by show 2<=sizeLine;decide,[key,u],.cons (Vv hk) (.cons ru .nil),Tup0.new _ _⟩)
  have I2:Inv X g U (upd H s.heap.objs.size (.tup [kV k,x])) { s with heap:=D}:=iH (s:={ s with heap:=s.heap.push { cls:=.type "tuple",data:=.seq #[key,u]}}) (ch:=[it]) (t':=s.toks) I1 (fun c o J q=>by
   by_cases z:c=s.heap.objs.size
   ·
    subst z
    have t:(s.heap.push { cls:=.type "tuple",data:=.seq #[key,u]}).get? s.heap.objs.size=some o:=q
    rw[o_ _ rfl] at t
    cases t
    exact (sb.2 _ C).trans y
   ·
    have t:(s.heap.push { cls:=.type "tuple",data:=.seq #[key,u]}).get? c=some o:=q
    rw[Heap.get?_push_ne _ _ _ z] at t
    exact O c o J t) fun c e=>⟨by rw[aL (G e)];exact (n c e).1,(n c e).2⟩
  refine⟨.ref s.heap.objs.size,_,I2,rfl,⟨s.heap.objs.size,k,x,rfl,I.hok.fresh (l_ _),rfl,fun zs r=>by rw[L] at r;cases r;exact M⟩,⟨key,u,?_⟩,fun c e=>by rw[aL (G e)];exact (n c e).1⟩
  rw[<- a]
  exact B
 done:=by
  intro X W T S e i g s U H E I n st R
  subst W T S
  obtain⟨kvs,L,M⟩:=R
  obtain⟨l,m,f⟩:=st
  obtain⟨vs,j,V,a⟩:=Dt I L Y
  have hl:=j.length
  rw[<- a] at f
  exact wpAny_pyNext_items_end (I.ok.hd e) f V (P_ (by omega)) fun h' eb=>⟨rfl,iH (ch:=[it]) (t':=s.toks) I (fun b o nb q=>eb b o (fun z=>nb (by simp [z])) q) n⟩
 self:=fun A i s Q E st h=>by
  obtain⟨l,m,f⟩:=st
  have y:s.TypeIs (.ref it) "dict_itemiterator":=⟨_,f,rfl⟩
  refine wpAny_pyIter_slot y PySem.F.slot_dict_itemiterator_iter (Z2 PySem.F.slot_dict_itemiterator_iter y zL ?_ (PySem.F.args_dict_itemiterator_iter_1 _))
  show wpAny _ _ (ret (.ref it)) _ _ s
  exact n_ ⟨_,rfl,"dict_itemiterator",_,y,PySem.F.slot_dict_itemiterator_next.lookup,h⟩
section
variable {elts:List Expr}{x1:Nat}{tpos pos apos cpos:Pos}
def Qy (te:TE):TI:=fun c H R=>te c H fun x b=>∃a kvs,x=.ref a/\b a=some (.dK kvs)/\∀o,R (Iti a o) (upd b a (.frz o (.dK kvs)))
def Du (J:PE X e te) (g:attributeBase e "items" X.env (eval e X.env)=eval e X.env:=by rfl) (i:(apos.endLine==cpos.line)=true:=by rfl):
  PI X (.Tuple elts x1 tpos) (.Call (.Attribute e "items" apos) [] [] cpos) (Qy te):=by
 intro f s y H R I h;refine wpAny_Call_method0_late g i (thn (J f s y H _ I h) fun v s1 ⟨x,K,m,G,a,kvs,E,r,q⟩=>?_);subst E;cases G;obtain⟨z,l,vs,D,A⟩:=rH m.hok r;obtain⟨o,t,M⟩:=Inv.freeze m r;obtain⟨B,N,_⟩:=Bj m (a:=a) (.inl ⟨kvs,.inl r⟩);refine⟨"dict","dict.items",PySem.F.plainAttrs_dict,PySem.F.slot_dict_items,PySem.F.type_dict_items,B,N,aaG rfl (PySem.evalArgs_none (call_meetsIn PySem.F.slot_dict_items B PySem.F.entry_dict_items (PySem.F.args_dict_items_1 _) (meets_dict_items (bK X.prog X.w) a l) ⟨⟨vs,A⟩,?_⟩))⟩;obtain⟨Q,p,ep,k,O,j,C,u,L⟩:=id A;rw[t] at k;cases k;have hsz:p.size=vs.length:=by rw[<- u.length];simp
 have n:Inv X f y (upd K a (.frz o (.dK kvs))) { s1 with heap:=s1.heap.push { cls:=.type "dict_items",data:=.fields #[.ref a]}}:=M.kept (t':=s1.toks) fun b o q=>b_ _ q;refine wpAny_pyIter_items (knd:=bK X.prog X.w) (d:=a) (kvs:=vs) (ep:=ep) ⟨_,o_ _ rfl,rfl,rfl⟩ ⟨o,p,b_ _ t,O,j,C,u,L⟩ ?_;refine⟨_,[_],_,Iti a o,_,rfl,n.kept (t':=s1.toks) fun b o q=>b_ _ q,vX a _ o p ep j,⟨.none,.none,?_⟩,fun c P=>?_,q o⟩
 ·rw[hsz];exact o_ _ rfl
 rw[i_.mp P];exact n.fpOk (l_ _) (n.hok.fresh (l_ _))
def Vw (d e f:TE):TE:=fun b H Q=>d b H fun x c=>∃a,x=.ref a/\IsD c a/\e b c fun y g=>f b g fun z H3=>∃kvs k,H3 a=some (.dK kvs)/\y=kV k/\kvs.length<sizeLine /\
 (∀v,eZ kvs k=some v->Q v H3)/\(eZ kvs k=none->Q z (upd H3 a (.dK (putK kvs k z))))
def Jt (J:PE X o td) (p:PE X e ty) (G:PE X f tx) (m:M2 X o "setdefault" apos e f cpos):PE X (.Call (.Attribute o "setdefault" apos) [e,f] [] cpos) (Vw td ty tx):=by
 intro c s r H Q I h;refine wpAny_Call_method m.base m.few m.line PySem.F.plainAttrs_dict PySem.F.slot_dict_setdefault PySem.F.type_dict_setdefault (thn (J c s r H _ I h) fun u P ⟨x,T,A,L,a,ex,d,R⟩=>?_);subst ex;obtain rfl:u=Value.ref a:=L;obtain⟨t1,t2,_⟩:=Bj A d;refine⟨t1,t2,?_⟩;rw[m.trees];refine aaG rfl (Calls.evalArgs_plain (Z1 (thn (p c P r T _ A R) fun iv V ⟨y,N,Y,Z,q2⟩ =>
  Z1 (thn (G c V r N _ Y q2) fun fv s3 ⟨z,H3,n,C,kvs,k,B,M,l,K,q4⟩=>aaq ?_))))
 subst M;obtain⟨O,D,vs,g,E⟩:=rH n.hok B;have i:=g.val k;refine call_meetsIn PySem.F.slot_dict_setdefault E.typeIs PySem.F.entry_dict_setdefault (PySem.F.args_dict_setdefault_3 _ _ _) (kt_meets_setdefault (bK X.prog X.w) a (mz Z) D fv) ⟨vs,E,by rw[<- g.length];exact O,fun v t=>?_,fun W h' j S=>?_⟩
 ·cases b:eZ kvs k with
  |none=>rw[b,t] at i;exact (show False from i).elim
  |some w =>
  rw[b,t] at i;exact⟨w,H3,n.tok _,i,K w b⟩
 have b:eZ kvs k=none:=by
  cases b:eZ kvs k with
  |none=>rfl
  |some w=>rw[b,W] at i;exact (show False from i).elim
 have p:∃q,h'.get? a=some q:=let ⟨q,_,_,hq,_⟩:=j;⟨q,hq⟩;have U:(putK kvs k z).length<=sizeLine:=by have:=fH kvs k z;omega
 exact⟨z,_,lF n (by rw[B];exact True.intro) S p (vp U D (g.put k C) j),C,q4 b⟩
end
def dq (k:Int):List (Int × T)->Option T
 |[]=>none
 | (k',v)::r=>if k'=k then some v else dq k r
def vY (k:Int) (v:T) (kvs:List (Int × T)):List (Int × T) :=
 if (kvs.any fun a=>decide (a.1=k))=true then kvs.map (fun a=>if a.1=k then (a.1,v) else a) else kvs++[(k,v)]
def iJ {K:Frag}:∀{kvs:List (Int × T)}{vs:List (Key × V)}{t:T},RepI K H kvs vs->dq k kvs=some t->∃v,eZ vs (Sum.inl k:Key)=some v/\Rep K H t v
 |[],_,_,_,e=>by cases e
 | (k',t')::r,_,t,.cons (b:=(kk,v')) ⟨e1,rv⟩ rr,e=>by
  simp only at e1 rv
  subst e1
  unfold dq at e
  by_cases a:k'=k
  ·
   rw[if_pos a] at e
   cases e
   exact⟨v',by rw[fc (by rw[a])],rv⟩
  ·
   rw[if_neg a] at e
   obtain⟨v,c,q⟩:=iJ rr e
   exact⟨v,by rw[fj (by intro z;exact a (Sum.inl.inj z))];exact c,q⟩
def gG {K:Frag}:∀{kvs:List (Int × T)}{vs:List (Key × V)},RepI K H kvs vs->(eZ vs (Sum.inl k:Key)).isSome=(dq k kvs).isSome
 |[],_,.nil=>rfl
 | (k',t')::r,_,.cons (b:=(kk,v')) ⟨e1,rv⟩ rr=>by
  simp only at e1 rv
  subst e1
  unfold dq
  by_cases a:k'=k
  ·
   rw[if_pos a,fc (by rw[a])];rfl
  ·
   rw[if_neg a,fj (by intro z;exact a (Sum.inl.inj z))]
   exact gG rr
def Dv {K:Frag} (i:Rep K H t v) (r:RepI K H kvs vs):RepI K H (vY k t kvs) (putK vs (Sum.inl k:Key) v):=by
 have e:∀{kvs:List (Int × T)} {vs:List (Key × V)},RepI K H kvs vs->(kvs.any fun a=>decide (a.1=k))=(vs.any fun a=>decide (a.1=(Sum.inl k:Key)))/\RepI K H (kvs.map (fun a=>if a.1=k then (a.1,t) else a)) (vs.map (fun a=>if a.1=(Sum.inl k:Key) then (a.1,v) else a)):=by
  intro kvs;induction kvs with
  |nil=>intro vs r;cases r;exact⟨rfl,.nil⟩
  |cons p l n =>
  intro vs r;cases r with
  |cons q m =>
  rename_i b o;obtain⟨g,f⟩:=n m;obtain⟨j,h⟩:=q;obtain⟨s,u⟩:=b;simp only at j h;subst j;by_cases c:p.1=k
  ·refine⟨by simp [c],?_⟩;simp only[G_,c,if_true];exact .cons ⟨rfl,i⟩ f
  have d:¬(Sum.inl p.1:Key)=Sum.inl k:=fun z=>c (Sum.inl.inj z);refine⟨by simp only[aaW,c,d,Ze,Bool.false_or];exact g,?_⟩;simp only[G_,c,d,YG];exact .cons ⟨rfl,h⟩ f
 obtain⟨g,f⟩:=e r;unfold vY putK;rw[g];split
 ·exact f
 exact Paired.snoc r ⟨rfl,i⟩
section
variable {K:Frag}
def SimH.wrI (s:SimH K H3 H) (h:H a=some (.dK g)) (r:RepI K H kvs c):SimH K (up3 H3 a (.dci kvs)) (upd H a (.dK c)):=fun b o e=>by
 have f:TupLe K H (upd H a (.dK c)):=bR (by rw[h];exact trivial);by_cases d:b=a
 ·subst d;rw[au] at e;cases e;exact⟨c,aY,r.mono f⟩
 rw[aF d] at e;exact (s b o e).stay f fun u q=>by rw[aL d];exact q
def SimH.newI (s:SimH K H3 H) (c:H p=none):SimH K (up3 H3 p (.dci [])) (upd H p (.dK [])):=fun a o e=>by
 by_cases b:a=p
 ·subst b;rw[au] at e;cases e;exact⟨[],aY,.nil⟩
 rw[aF b] at e;exact s.new c a o e
def SimH.frzI (s:SimH K H3 H) (g:H a=some (.dK c)) (r:RepI K H kvs c):SimH K (up3 H3 a (.dif o kvs)) (upd H a (.frz o (.dK c))):=fun b u e=>by
 have f:TupLe K H (upd H a (.frz o (.dK c))):=bR (by rw[g];exact trivial);by_cases d:b=a
 ·subst d;rw[au] at e;cases e;exact⟨c,aY,r.mono f⟩
 rw[aF d] at e;exact (s b u e).stay f fun u q=>by rw[aL d];exact q
end
section
variable {X:Cx}{pos pos' apos cpos tpos:Pos}{elts:List Expr}{x1:Nat}
def yf:TE3:=fun _ H Q=>∀p,H p=none->Q (.ref p) (up3 H p (.dci []))
def Dw:PE3 X (.Dict [] [] pos) yf:=by
 refine PE.imp rM ?_;rintro e H Q ⟨c,H3,f,d,b,h,k⟩ p a;exact k _ _ _ _ (aO a) (b.newI a) .ofRef (h p (b.fresh a))
def d1i (y:T) (p:Addr) (v:T) (H:Hp3) (Q:VK3):Prop:=match y with
 |.int k=>H p=some (.dci [])/\Q (.ref p) (up3 H p (.dci [(k,v)]))
 |_=>False
def qw (tk c:TE3):TE3:=fun a H Q=>∀p,H p=none->tk a (up3 H p (.dci [])) fun y b=>c a b fun v d=>d1i y p v d Q
def Vx (x:Int) (p:Addr) (v:T):d1i (.int x) p v H Q=(H p=some (.dci [])/\Q (.ref p) (up3 H p (.dci [(x,v)]))):=rfl
def zM (u:PE3 X k tk) (s:PE3 X v tv):PE3 X (.Dict [some k] [v] pos) (qw tk tv):=by
 refine PE.imp (xx (rN u s xu) rfl rfl (by simp) (by show 1<=15;decide)) ?_;rintro F H Q ⟨d,H3,B,o,n,h,k⟩ p l;have a:TupLe X.K H (upd H p (.dK [])):=aO l;refine⟨d,up3 H3 p (.dci []),_,o.mono a,n.newI l,h p (n.fresh l),fun y E t m f j C A=>?_⟩;refine⟨d,m,_,o.mono (a.trans f),j,A,fun z D w g b c x q=>?_⟩;cases t with
 |int key =>
  have h':g p=some (.dci [])/\B (.ref p) (up3 g p (.dci [(key,w)])):=q
  obtain⟨ws,i,r⟩:=c p _ h'.1
  cases r
  refine⟨i,[(Sum.inl key,z)],by rw[(C.mono b).int];rfl,by show 1<=15;decide,?_⟩
  have e:jc [] [((Sum.inl key:Key),z)]=[((Sum.inl key:Key),z)]:=rfl
  rw[e]
  exact k _ _ _ _ (a.trans (f.trans (b.trans (bR (by rw[i];exact trivial))))) (c.wrI i (.cons ⟨rfl,x⟩ .nil)) .ofRef h'.2
 |_=>exact q.elim
def dgI (o:Option O3) (k:Int) (H:Hp3) (Q:VK3):Prop:=match o with
 |some (.dci kvs)=>oq (dq k kvs) fun t=>Q t H
 |some (.dif _ kvs)=>oq (dq k kvs) fun t=>Q t H
 |_=>False
def Vy:R3:=fun x y H Q=>match x,y with
 |.ref a,.int k=>dgI (H a) k H Q
 |_,_=>False
def Yh (a:Addr) (k:Int):Vy (.ref a) (.int k) H Q=dgI (H a) k H Q:=rfl
def Mq (kvs:List (Int × T)) (k:Int):dgI (some (.dci kvs)) k H Q=oq (dq k kvs) fun t=>Q t H:=rfl
def Dy (o:Obj) (kvs:List (Int × T)) (k:Int):dgI (some (.dif o kvs)) k H Q=oq (dq k kvs) fun t=>Q t H:=rfl
def Dz (F:X.A.units+1<cLine) (E:PE3 X o w) (M:PE3 X i ti) (L:HS i:=by exact fun _ _=>rfl):PE3 X (.Subscript o i pos) (rQ Vy w ti):=by
 refine PE.imp (xq F E M L) ?_;rintro R H Q ⟨j,H3,J,z,C,h,k⟩;refine⟨j,H3,_,z,C,h,fun x P G n d m u I=>⟨j,n,_,z.mono d,m,I,fun y O D f g b B q=>?_⟩⟩;cases G with
 |ref a =>
  cases D with
  |int key =>
   have h':dgI (f a) key f J:=q
   cases e:f a with
   |none=>rw[e] at h';exact h'.elim
   |some K =>
    rw[e] at h'
    cases K with
    |dci kvs =>
     rw[Mq] at h'
     obtain⟨vs,l,r⟩:=b a _ e
     cases c:dq key kvs with
     |none=>rw[c] at h';exact h'.elim
     |some t =>
      rw[c] at h'
      obtain⟨v,p,s⟩:=iJ r c
      refine⟨a,v,u.ref,?_,k.at (d.trans g) _ _ _ _ .refl b s h'⟩
      rw[B.int,<- p]
      exact DGet.k (k:=Sum.inl key) l
    |dif N kvs =>
     rw[Dy] at h'
     obtain⟨vs,l,r⟩:=b a _ e
     cases c:dq key kvs with
     |none=>rw[c] at h';exact h'.elim
     |some t =>
      rw[c] at h'
      obtain⟨v,p,s⟩:=iJ r c
      refine⟨a,v,u.ref,?_,k.at (d.trans g) _ _ _ _ .refl b s h'⟩
      rw[B.int,<- p]
      exact .inl ⟨vs,Sum.inl key,.inr ⟨_,l⟩,rfl,rfl⟩
    |_=>exact h'.elim
  |_=>exact q.elim
 |_=>exact q.elim
def dpI (x y v:T) (H:Hp3) (Q:Hp3->Prop):Prop:=match x,y with
 |.ref a,.int k=>match H a with
  |some (.dci kvs)=>kvs.length<sizeLine/\Q (up3 H a (.dci (vY k v kvs)))
  |_=>False
 |_,_=>False
def Ju (b c f:TE3):TS3:=fun D a H=>f a H fun v d=>b a d fun x g=>c a g fun y H3=>dpI x y v H3 fun e=>D.nx a e
def diI (a:Bool) (y:T) (o:Option O3) (H:Hp3) (Q:VK3):Prop:=match y,o with
 |.int k,some (.dci kvs)=>Q (.bl (if a then !(dq k kvs).isSome else (dq k kvs).isSome)) H
 |_,_=>False
def Qz (b:Bool) (y x:T) (H:Hp3) (Q:VK3):Prop:=match x with
 |.ref a=>diI b y (H a) H Q
 |_=>False
def DG (a:Bool) (e c:TE3):TE3:=fun b H Q=>e b H fun y d=>c b d fun x f=>Qz a y x f Q
def QB (b:Bool) (y:T) (a:Addr):Qz b y (.ref a) H Q=diI b y (H a) H Q:=rfl
def Vz (a:Bool) (k:Int) (kvs:List (Int × T)):diI a (.int k) (some (.dci kvs)) H Q=Q (.bl (if a then !(dq k kvs).isSome else (dq k kvs).isSome)) H:=rfl
def DK {H:Hp}{f d:T} (i:SimH X.K H3 H) (m:Rep X.K H f x) (n:Rep X.K H d y) (q:Qz c d f H3 h):
  ∃a g b,x=.ref a/\DGet H a y g/\(if c then !g.isSome else g.isSome)=b/\h (.bl b) H3:=by
 cases f with
 |ref a =>
  have h':diI c d (H3 a) H3 h:=q
  cases d with
  |int k =>
   cases e:H3 a with
   |none=>rw[e] at h';exact h'.elim
   |some l =>
    rw[e] at h'
    cases l with
    |dci kvs =>
     obtain⟨ws,j,r⟩:=i a _ e
     refine⟨a,eZ ws (Sum.inl k:Key),_,m.ref,by rw[n.int];exact DGet.k (k:=Sum.inl k) j,rfl,?_⟩
     rw[gG r]
     exact h'
    |_=>exact h'.elim
  |_=>exact h'.elim
 |_=>exact q.elim
def vZ (u:X.A.units+1<cLine) (E:PE3 X i ti) (s:PE3 X o td) (C:behindInMarks .NotIn o=false:=by rfl):PT3 X (.Compare i [.NotIn] [o] pos) (jW (DG true ti td)):=by
 refine PT.imp (uT (oU u E s) C) ?_;rintro L H Q ⟨f,H3,J,n,r,h,k⟩;refine⟨f,H3,_,n,r,h,fun y K F m j l z v=>⟨f,m,_,n.mono j,l,v,fun x G I D c d t B=>?_⟩⟩;obtain⟨a,p,b,e,g,w,q⟩:=DK d t (z.mono c) B;exact⟨a,p,e,g,by rw[show (!p.isSome)=b from w];exact⟨b,rfl,k _ _ _ (j.trans c) d q⟩⟩
def sdO (o:Option O3) (a:Addr) (k:Int) (v:T) (H:Hp3) (Q:VK3):Prop:=match o with
 |some (.dci kvs)=>kvs.length<sizeLine/\match dq k kvs with
  |some t=>Q t H
  |none=>Q v (up3 H a (.dci (vY k v kvs)))
 |_=>False
def sdq (x y v:T) (H:Hp3) (Q:VK3):Prop:=match x,y with
 |.ref a,.int k=>sdO (H a) a k v H Q
 |_,_=>False
def QC (o:Option O3):Prop:=match o with
 |some (.dci _)=>True
 |_=>False
def VB (x:T) (H:Hp3):Prop:=match x with
 |.ref a=>QC (H a)
 |_=>False
def DN (c d e:TE3):TE3:=fun a H Q=>c a H fun x b=>VB x b/\d a b fun y f=>e a f fun v H3=>sdq x y v H3 Q
def wg (a:Addr):VB (.ref a) H=QC (H a):=rfl
def QD (kvs:List (Int × T)):QC (some (.dci kvs))=True:=rfl
def Mr (a:Addr) (k:Int) (v:T):sdq (.ref a) (.int k) v H Q=sdO (H a) a k v H Q:=rfl
def Ms (kvs:List (Int × T)) (a:Addr) (k:Int) (v:T):sdO (some (.dci kvs)) a k v H Q=(kvs.length<sizeLine/\match dq k kvs with
  |some t=>Q t H
  |none=>Q v (up3 H a (.dci (vY k v kvs)))):=rfl
def Jv (V:PE3 X o td) (Z:PE3 X e A) (T:PE3 X f tv) (m:M2 X o "setdefault" apos e f cpos:=by exact⟨rfl,rfl,rfl,rfl⟩):PE3 X (.Call (.Attribute o "setdefault" apos) [e,f] [] cpos) (DN td A tv):=by
 refine PE.imp (Jt V Z T m) ?_;rintro σ H Q ⟨d,H3,Q3,I,U,h,k⟩;refine⟨d,H3,_,I,U,h,fun x H1 Y q g l W D=>?_⟩;obtain⟨j,D⟩:=D;cases Y with
 |ref a =>
  cases L:q a with
  |none=>rw[wg,L] at j;exact j.elim
  |some G =>
  rw[wg,L] at j;cases G with
  |dci S =>
   obtain⟨w,F,_⟩:=l a _ L;refine⟨a,W.ref,.inl ⟨w,.inl F⟩,d,q,_,I.mono g,l,D,fun y H2 A J p E ry q2=>⟨d,J,_,I.mono (g.trans p),E,q2,fun z N tz B n c O b=>?_⟩⟩;cases A with
   |int key =>
    rw[Mr] at b;cases e:B a with
    |none=>rw[e] at b;exact b.elim
    |some G =>
    rw[e] at b;cases G with
    |dci kvs =>
     rw[Ms] at b;obtain⟨vs,C,r⟩:=c a _ e;have P:=g.trans (p.trans n);refine⟨vs,Sum.inl key,C,(ry.mono n).int,by rw[<- aas r];exact b.1,fun v M=>?_,fun hn=>?_⟩
     ·have u:=gG (k:=key) r;cases i:dq key kvs with
      |none=>rw[i,M] at u;cases u
      |some t =>
      rw[i] at b;obtain⟨v',R,rv⟩:=iJ r i;rw[M] at R;cases R;exact k _ _ _ _ P c rv b.2
     have u:=gG (k:=key) r;cases i:dq key kvs with
     |some t=>rw[i,hn] at u;cases u
     |none =>
     rw[i] at b;have s:TupLe X.K N (upd N a (.dK (putK vs (Sum.inl key:Key) z))):=bR (by rw[C];exact trivial);exact k _ _ _ _ (P.trans s) (c.wrI C (Dv O r)) (O.mono s) b.2
    |_=>exact b.elim
   |_=>exact b.elim
  |_=>exact j.elim
 |_=>exact j.elim
def itT (a:Int × T):T:=.tup [.int a.1,a.2]
def wj (a:Addr) (o:Obj) (kvs:List (Int × T)):Hp3->Prop:=fun H=>H a=some (.dif o kvs)
def itO (u:Option O3) (a:Addr) (H:Hp3) (R:List T->(Hp3->Prop)->Hp3->Prop):Prop:=match u with
 |some (.dci kvs)=>∀o,R (kvs.map itT) (wj a o kvs) (up3 H a (.dif o kvs))
 |_=>False
def itq (x:T) (H:Hp3) (R:List T->(Hp3->Prop)->Hp3->Prop):Prop:=match x with
 |.ref a=>itO (H a) a H R
 |_=>False
def yg (te:TE3):TI3:=fun b H R=>te b H fun x a=>itq x a R
def DP (te:TE3):yg te σ H R=te σ H fun x a=>itq x a R:=rfl
def Mt (a:Addr):itq (.ref a) H R=itO (H a) a H R:=rfl
def Mu (kvs:List (Int × T)) (a:Addr):itO (some (.dci kvs)) a H R=∀o,R (kvs.map itT) (wj a o kvs) (up3 H a (.dif o kvs)):=rfl
def wu {K:Frag}{H:Hp}{o:Obj}:jt K (Iti a o) (kvs.map itT) (wj a o kvs) H:=fun H' d s f st=>by
 obtain⟨vs,b,r⟩:=f a _ st;have x:=aas r;refine⟨fun i m=>⟨vs,b,by rw[e_] at m;omega⟩,fun i t e=>?_⟩;rw[y_] at e;cases q:kvs[i]? with
 |none=>rw[q] at e;cases e
 |some n =>
 rw[q] at e;cases e;obtain⟨⟨u,v⟩,g,h,j⟩:=jl r q;simp only at h j;subst h;refine⟨⟨vs,_,b,g⟩,fun z k y=>?_⟩;obtain⟨p,A,w,rfl,c,rfl,l⟩:=y;have:=(l vs b).symm.trans g;cases this;exact⟨aO c,f.new c,SimH.newTup (H3:=d) c (.cons .ofInt (.cons j .nil))⟩
def DQ (s:PE3 X e te) (c:attributeBase e "items" X.env (eval e X.env)=eval e X.env:=by rfl) (b:(apos.endLine==cpos.line)=true:=by rfl):
  PI3 X (.Tuple elts x1 tpos) (.Call (.Attribute e "items" apos) [] [] cpos) (yg te):=by
 refine PI.imp (Du s c b) ?_;rintro w H R ⟨f,H3,R3,n,l,h,k⟩;refine⟨f,H3,_,n,l,h,fun v H' t j p d r q=>?_⟩;cases t with
 |ref a =>
  rw[Mt] at q;cases g:j a with
  |none=>rw[g] at q;exact q.elim
  |some m =>
  rw[g] at q;cases m with
  |dci kvs=>rw[Mu] at q;obtain⟨vs,i,u⟩:=d a _ g;exact⟨a,vs,r.ref,i,fun o=>k _ _ _ _ _ (p.trans (bR (by rw[i];exact trivial))) (d.frzI i u) wu (q o)⟩
  |_=>exact q.elim
 |_=>exact q.elim
end
def ph {K:Frag}:∀{fs:List (Str × T)}{vs:List (Str × V)}{t:T},RepF K H fs vs->aP f fs=some t->∃v,vs.lookup f=some v/\Rep K H t v
 |[],_,_,_,e=>by cases e
 | (g,t')::r,_,t,.cons (b:=(g',v')) ⟨e1,rv⟩ rr,e=>by
  simp only at e1 rv
  subst e1
  unfold aP at e
  by_cases a:g'=f
  ·
   rw[if_pos a] at e
   cases e
   exact⟨v',by rw[Zh,show (f==g')=true from Zt.mpr a.symm],rv⟩
  ·
   rw[if_neg a] at e
   obtain⟨v,c,q⟩:=ph rr e
   exact⟨v,by rw[Zh,show (f==g')=false from YZ.mpr (Ne.symm a)];exact c,q⟩
def mL {K:Frag}:∀{fs:List (Str × T)}{vs:List (Str × V)},RepF K H fs vs->aP f fs=none->vs.lookup f=none
 |[],_,.nil,_=>rfl
 | (g,t')::r,_,.cons (b:=(g',v')) ⟨e1,rv⟩ rr,e=>by
  simp only at e1 rv
  subst e1
  unfold aP at e
  by_cases a:g'=f
  ·
   rw[if_pos a] at e;cases e
  ·
   rw[if_neg a] at e
   rw[Zh,show (f==g')=false from YZ.mpr (Ne.symm a)]
   exact mL rr e
def dO (f:Str) (v:T):List (Str × T)->List (Str × T)
 |[]=>[(f,v)]
 | (g,x)::r=>if g=f then (g,v)::r else (g,x)::dO f v r
def tM {K:Frag} (c:Rep K H t v):∀{fs:List (Str × T)}{vs:List (Str × V)},RepF K H fs vs->RepF K H (dO f t fs) (d7 f v vs)
 |[],_,.nil=>.cons ⟨rfl,c⟩ .nil
 | (g,t')::r,_,.cons (b:=(g',v')) ⟨e1,r1⟩ rr=>by
  simp only at e1 r1
  subst e1
  unfold dO d7
  by_cases a:g'=f
  ·
   rw[if_pos a,if_pos a];exact .cons ⟨rfl,c⟩ rr
  ·
   rw[if_neg a,if_neg a];exact .cons ⟨rfl,r1⟩ (tM c rr)
structure InsC (K:Frag) (C:Addr) (ns:List Str):Prop where
 cls:Cls K C
 no:∀n∈ns,NoAttr K C n
structure MtC (P:Program) (w:World) (K:Frag) (mg:Str->Option Value) (base:Heap) (C:Addr) (k:Nat) (m:Str) (ps:List Str) (sp:Sp3):Prop where
 cls:Cls K C
 ex:∃(f:Addr) (fd:FuncData),Meth K C m f/\Binds K fd ps []/\kI P w K mg base k f fd ps sp
structure MkC (P:Program) (w:World) (K:Frag) (mg:Str->Option Value) (base:Heap) (C:Addr) (k:Nat) (x:Str) (ps:List Str) (sp:Sp3):Prop where
 at_:mg x=some (.ref C)
 ex:∃(f:Addr) (fd:FuncData),Mk K C f/\Binds K fd ps []/\kI P w K mg base k f fd ps sp
structure GM (K:Frag) (C:Addr) (m qual:Str) (st:Stmt) (ps:List Str) (f:Addr) (fd:FuncData):Prop where
 cls:Cls K C
 fn:Fun K m qual st f fd
 b:Binds K fd ps []
 mt:Meth K C m f
structure GI (K:Frag) (mg:Str->Option Value) (C:Addr) (x qual:Str) (st:Stmt) (ps:List Str) (f:Addr) (fd:FuncData):Prop where
 mk_:Mk K C f
 fn:Fun K "__init__" qual st f fd
 b:Binds K fd ps []
 at_:mg x=some (.ref C)
def SimH.wrO {K:Frag} (s:SimH K H3 H) (h:H a=some (.ins C d vs)) (r:RepF K H fs c):SimH K (up3 H3 a (.ins C fs)) (upd H a (.ins C d c)):=fun b o e=>by
 have g:TupLe K H (upd H a (.ins C d c)):=bR (by rw[h];exact trivial);by_cases f:b=a
 ·subst f;rw[au] at e;cases e;exact⟨d,c,aY,r.mono g⟩
 rw[aF f] at e;exact (s b o e).stay g fun u q=>by rw[aL f];exact q
section
variable {pos pos' apos p:Pos}{H:Hp3}
def QF (C:Addr) (f:Str) (u:Option O3) (H:Hp3) (Q:VK3):Prop:=match u with
 |some (.ins C' fs)=>C'=C/\oq (aP f fs) fun t=>Q t H
 |_=>False
def VD (C:Addr) (f:Str) (x:T) (H:Hp3) (Q:VK3):Prop:=match x with
 |.ref a=>QF C f (H a) H Q
 |_=>False
def Mv (C:Addr) (f:Str) (b:TE3):TE3:=fun c H Q=>b c H fun x a=>VD C f x a Q
def DR (a:Addr):VD C f (.ref a) H Q=QF C f (H a) H Q:=rfl
def QG (fs:List (Str × T)):QF C f (some (.ins C fs)) H Q=oq (aP f fs) fun t=>Q t H:=propext ⟨fun h=>h.2,fun h=>⟨rfl,h⟩⟩
def ie (c:InsC X.K C ns) (A:PE3 X e ta) (n:f∈ns:=by simp) (w:attributeBase e f X.env (eval e X.env)=eval e X.env:=by rfl):PE3 X (.Attribute e f pos) (Mv C f ta):=by
 refine PE.imp (Om A w) ?_;rintro G H Q ⟨l,H3,x,z,o,h,k⟩;refine⟨l,H3,_,z,o,h,fun v H' t d s b r q=>?_⟩;cases t with
 |ref a =>
  rw[DR] at q;cases i:d a with
  |none=>rw[i] at q;exact q.elim
  |some y =>
  rw[i] at q;cases y with
  |ins m fs =>
   obtain⟨rfl,g⟩:=(show m=C/\oq (aP f fs) fun t=>x t d from q);clear q;obtain⟨p,vs,u,B⟩:=b a _ i;cases j:aP f fs with
   |none=>rw[j] at g;exact g.elim
   |some t =>
   rw[j,fG] at g;obtain⟨E,D,F⟩:=ph B j;exact⟨a,m,p,vs,E,r.ref,u,c.cls,c.no f n,D,k _ _ _ _ s b F g⟩
  |_=>exact q.elim
 |_=>exact q.elim
def sfO (C:Addr) (f:Str) (a:Addr) (y:T) (u:Option O3) (H:Hp3) (Q:Hp3->Prop):Prop:=match u with
 |some (.ins C' fs)=>C'=C/\fs.length<1000/\Q (up3 H a (.ins C (dO f y fs)))
 |_=>False
def sfq (C:Addr) (f:Str) (x y:T) (H:Hp3) (Q:Hp3->Prop):Prop:=match x with
 |.ref a=>sfO C f a y (H a) H Q
 |_=>False
def Mw (C:Addr) (f:Str) (c d:TE3):TS3:=fun D a H=>d a H fun y b=>c a b fun x e=>sfq C f x y e fun H3=>D.nx a H3
def Mx (a:Addr) (y:T) (Q:Hp3->Prop):sfq C f (.ref a) y H Q=sfO C f a y (H a) H Q:=rfl
def VF (a:Addr) (y:T) (fs:List (Str × T)) (Q:Hp3->Prop):sfO C f a y (some (.ins C fs)) H Q=(fs.length<1000/\Q (up3 H a (.ins C (dO f y fs)))):=propext ⟨fun h=>h.2,fun h=>⟨rfl,h⟩⟩
def qz (c:InsC X.K C ns) (I:PE3 X o ta) (w:PE3 X value tv) (z:f∈ns:=by simp) (L:swapsWith value (some (.Attribute o f pos')) pos.line X.env=pure false:=by rfl):PS3 X (.Assign [.Attribute o f pos'] value pos) (Mw C f ta tv):=by
 refine PS.imp (Oo I w L) ?_;rintro D R H ⟨e,H3,P,p,A,h,O,_⟩;refine⟨e,H3,_,p,A,h,fun y Q B r g n N G=>⟨e,r,_,p.mono g,n,G,fun x u F j b i E d=>?_⟩⟩;cases F with
 |ref a =>
  rw[Mx] at d;cases l:j a with
  |none=>rw[l] at d;exact d.elim
  |some J =>
  rw[l] at d;cases J with
  |ins s fs=>obtain⟨rfl,M,q⟩:=(show s=C/\fs.length<1000/\P.nx e (up3 j a (.ins C (dO f B fs))) from d);obtain⟨t,vs,m,v⟩:=i a _ l;have k:TupLe X.K u (upd u a (.ins s t (d7 f y vs))):=bR (by rw[m];exact trivial);exact⟨a,s,t,vs,E.ref,m,c.cls,c.no f z,by rw[<- aas v];exact M,O _ _ _ _ (g.trans (b.trans k)) (p.mono (g.trans (b.trans k))) (i.wrO m (tM (N.mono b) v)) q⟩
  |_=>exact d.elim
 |_=>exact d.elim
def mtO (C:Addr) (m:Str) (u:Option O3) (q:Prop):Prop:=match u with
 |some (.ins C' fs)=>C'=C/\aP m fs=none/\q
 |_=>False
def mtq (C:Addr) (m:Str) (x:T) (H:Hp3) (q:Prop):Prop:=match x with
 |.ref a=>mtO C m (H a) q
 |_=>False
def DW (C:Addr) (m:Str) (sp:Sp3) (c:TE3) (t:TA3):TE3:=fun b H Q=>c b H fun x a=>mtq C m x a (t b a fun vs d=>sp (x::vs) d Q)
def Mz (a:Addr) (q:Prop):mtq C m (.ref a) H q=mtO C m (H a) q:=rfl
def MF (fs:List (Str × T)) (q:Prop):mtO C m (some (.ins C fs)) q=(aP m fs=none/\q):=propext ⟨fun h=>h.2,fun h=>⟨rfl,h⟩⟩
def qC {pl:Sem Bool}(M:MtC X.prog X.w X.K X.mg X.base C n m ps sp) (V:Room n X.A) (P:PE3 X o ta) (L:PA3 X (e::es) t)
  (j:starEach (e::es) X.env=(false,eval e X.env)::starEach es X.env:=by rfl) (l:(backTo pos (starEach es X.env)).any (·.1)=false:=by rfl)
  (G:eval (.Call (.Attribute o m apos) (e::es) [] pos) X.env=(do
   let ov <- eval o X.env
   standAt apos.atName
   let (f,first) <- holding [ov] (getMethod ov m pl)
   callWith pos f first (backTo pos (starEach (e::es) X.env)) (backToKw pos (keywordEach [] X.env))):=by rfl) :
  PE3 X (.Call (.Attribute o m apos) (e::es) [] pos) (DW C m sp ta t):=by
 obtain⟨f,Z,U,I,F⟩:=M.ex;refine PE.imp (HB (dvs:=[]) (E:=E0) P M.cls U F V I .nil Bm L j l G) ?_;rintro W H Q ⟨g,H3,J,x,y,h,k⟩;refine⟨g,H3,_,x,y,h,fun v H' t d u b r q=>?_⟩;cases t with
 |ref a =>
  rw[Mz] at q;cases i:d a with
  |none=>rw[i] at q;exact q.elim
  |some N =>
  rw[i] at q;cases N with
  |ins Y fs=>obtain⟨rfl,R,q⟩:=q;obtain⟨z,vs,D,S⟩:=b a _ i;refine⟨a,z,vs,r.ref,D,mL S R,g,d,_,x.mono u,b,q,fun us B ts s c p O T=>?_⟩;show rW X.K sp (v::(us++[])) B Q E0;rw[S_];exact⟨_,s,J,.cons (r.mono c) O,p,T,k.at (u.trans c)⟩
  |_=>exact q.elim
 |_=>exact q.elim
def DY (C:Addr) (sp:Sp3) (t:TA3):TE3:=fun c H Q=>t c H fun vs b=>∀a,b a=none->sp (.ref a::vs) (up3 b a (.ins C [])) fun v d=>v=.non/\Q (.ref a) d
def Jw (M:MkC X.prog X.w X.K X.mg X.base C n x ps sp) (W:Room (n+1) X.A) (N:Gl X x) (o:PA3 X (e::es) t) (u:(x==("__debug__":Str))=false:=by decide)
  (S:starEach (e::es) X.env=(false,eval e X.env)::starEach es X.env:=by rfl) (s:(backTo pos (starEach es X.env)).any (·.1)=false:=by rfl):PE3 X (.Call (.Name x p) (e::es) [] pos) (DY C sp t):=by
 obtain⟨f,fd,U,l,F⟩:=M.ex;refine PE.imp (HD (dvs:=[]) (E:=E0) U F W N M.at_ l .nil Bm o u S s) ?_;rintro σ H Q ⟨D,H3,Q3,P,J,h,k⟩;refine⟨D,H3,_,P,J,h,fun us H' ts B L d R q=>fun a c o g z=>?_⟩;show rW X.K sp (V.ref a::(us++[])) _ _ E0;rw[S_];have G:upd H' c (.own a) a=none:=by rw[aL (Ne.symm z)];exact o
 have j:TupLe X.K H' (upd H' c (.own a)):=aO g;have i:TupLe X.K (upd H' c (.own a)) (upd (upd H' c (.own a)) a (.ins C c [])):=aO G;refine⟨T.ref a::ts,up3 B a (.ins C []),_,.cons .ofRef (R.mono (j.trans i)),fun b O m=>?_,q a (d.fresh o),fun v H2 t2 Z r y Y I=>⟨?_,?_⟩⟩
 ·by_cases l:b=a
  ·subst l;rw[au] at m;cases m;exact⟨c,[],aY,.nil⟩
  rw[aF l] at m;exact ((d.new g).new G) b O m
 ·obtain⟨rfl,_⟩:=I;exact Y.non
 exact k _ _ _ _ (L.trans (j.trans (i.trans r))) y .ofRef I.2
def MJ:R3:=fun x y H Q=>match y with
 |.non=>Q (.bl (!isN x)) H
 |_=>False
def VG (x:T) (H:Hp3) (Q:VK3):MJ x .non H Q=Q (.bl (!isN x)) H:=rfl
def QH:dM X (compareOp .IsNot) MJ:=by
 refine OpR.imp Hr ?_;rintro x y H Q ⟨c,ty,H3,g,b,f,d,h,k⟩;cases ty with
 |non =>
  refine⟨f.non,?_⟩;have e:decide (x=.non)=isN c:=by
   cases c with
   |non=>rw[b.non];rfl
   |int i=>rw[b.int];rfl
   |str i=>rw[b.str];rfl
   |bl i=>rw[b.bl];rfl
   |ref a=>rw[b.ref];rfl
   |tup ts=>obtain⟨a,vs,rfl,_⟩:=b.tup;rfl
   |ty n=>rw[b.ty];rfl
  rw[e];exact k _ _ _ _ .refl d .ofBl h
 |_=>exact h.elim
end
open L2 PySem.W
section
variable {O:KeyOrd}
def Kw (O:KeyOrd) (key:Nat->O.α) (n:Nat) {b:Type}:KasT b->(b->Prop)->Prop
 |.ret a,Q=>Q a
 |.ask i j k,Q=>i<n/\j<n/\Kw O key n (k (O.blt (key i) (key j))) Q
def Kw.bind {f:c->KasT b}{Q:b->Prop}:∀{t:KasT c},Kw O key n t (fun a=>Kw O key n (f a) Q)->Kw O key n (t.bind f) Q
 |.ret a,h=>h
 |.ask i j k,h=>⟨h.1,h.2.1,Kw.bind h.2.2⟩
def Kw.wp (d:∀i j (C:Bool->Shared->Prop),i<n->j<n->C (O.blt (key i) (key j)) s->b i j C s) {Q:c->Prop}{R:c->Shared->Prop} (e:∀a,Q a->R a s):
  ∀{t:KasT c},Kw O key n t Q->t.kasWp b R s
 |.ret a,h=>e a h
 |.ask i j k,h=>d i j _ h.1 h.2.1 (Kw.wp d e h.2.2)
structure Pm (n:Nat) (p:Array Nat):Prop where
 pm:p.toList.Perm (List.range n)
 n1:1<=n
def Pm.sz (h:Pm n p):p.size=n:=by
 have:=h.pm.length_eq;rw[D_] at this;simpa using this
def Pm.lt (h:Pm n p) (i:Nat):p.getD i 0<n:=by
 rw[ZP];by_cases a:i<p.size
 ·rw[aao a];exact YF.mp (h.pm.mem_iff.mp (by simp))
 rw[Array.getElem?_eq_none (by omega)];exact h.n1
def Pm.by (h:Pm n p) (e:q.Perm p):Pm n q:=⟨(Array.perm_iff_toList_perm.mp e).trans h.pm,h.n1⟩
def Ky (O:KeyOrd) (key:Nat->O.α) (p:Array Nat) (i:Nat):O.α:=key (p.getD i 0)
def Up (O:KeyOrd) (key:Nat->O.α) (p:Array Nat) (k:Nat):Prop:=∀i j,i<=j->j<k->O.kle (Ky O key p i) (Ky O key p j)
def Dn (O:KeyOrd) (key:Nat->O.α) (p:Array Nat) (k:Nat):Prop:=∀i j,i<=j->j<k->O.kle (Ky O key p j) (Ky O key p i)
def Ky.congr (h:p[i]?=q[j]?):Ky O key p i=Ky O key q j:=by unfold Ky;rw[ZP,ZP,h]
def Ky.mir (a:j<=p.size) (k:Nat):Ky O key (kas_rev p i j) k=if i<=k/\k<j then Ky O key p (i+j - 1 - k) else Ky O key p k:=by
 have e:=getElem?_mirror_all (i:=i) a k;split at e <;> rename_i h
 ·rw[if_pos h];exact Ky.congr e
 rw[if_neg h];exact Ky.congr e
def Ky.mirEq (b:j<=p.size) (a:∀k,i<=k->k<j->Ky O key p k=Ky O key p (j - 1)) (k:Nat):Ky O key (kas_rev p i j) k=Ky O key p k:=by
 rw[Ky.mir b];split
 ·rw[a _ (by omega) (by omega),a k (by omega) (by omega)]
 rfl
def Ky.bub (f:s<p.size) (c:d<=s) (k:Nat):Ky O key (bubble p s d) k=if k=s - d then Ky O key p s else if s - d<k/\k<=s then Ky O key p (k - 1) else Ky O key p k:=by
 have e:=getElem?_bubble f d c k;by_cases b:k=s - d
 ·rw[if_pos b] at e ⊢;exact Ky.congr e
 rw[if_neg b] at e ⊢;by_cases a:s - d<k/\k<=s
 ·rw[if_pos a] at e ⊢;exact Ky.congr e
 rw[if_neg a] at e ⊢;exact Ky.congr e
def Pm.rev (h:Pm n p) (i j:Nat):Pm n (kas_rev p i j):=h.by (mirror_perm _ _ _ _)
def Up.one:Up O key p 1:=fun i j b a=>by
 obtain rfl:i=j:=by omega
 exact aad _
def Up.more (f:1<=k) (h:Up O key p k) (e:O.kle (Ky O key p (k - 1)) (Ky O key p k)):Up O key p (k+1):=fun i j b d=>by
 by_cases a:j<k
 ·exact h i j b a
 obtain rfl:j=k:=by omega
 by_cases c:i=j
 ·subst c;exact aad _
 exact KeyOrd.kle_trans (h i (j - 1) (by omega) (by omega)) e
def Dn.more (f:1<=k) (h:Dn O key p k) (e:O.kle (Ky O key p k) (Ky O key p (k - 1))):Dn O key p (k+1):=fun i j b d=>by
 by_cases a:j<k
 ·exact h i j b a
 obtain rfl:j=k:=by omega
 by_cases c:i=j
 ·subst c;exact aad _
 exact KeyOrd.kle_trans e (h i (j - 1) (by omega) (by omega))
def ww (b:Pm n p):∀(f a:Nat),1<=a->Up O key p a->(∀m,a<=m->m<=a+f->Up O key p m->m=a+f\/O.klt (Ky O key p m) (Ky O key p (m - 1))->Q m)->Kw O key n (kas_asc p f a) Q
 |0,a,_,h,k=>k a (l_ _) (l_ _) h (.inl rfl)
 |f+1,a,ha,h,k=>by
  refine⟨b.lt _,b.lt _,?_⟩
  cases e:O.blt (key (p.getD a 0)) (key (p.getD (a - 1) 0)) with
  |true=>exact k a (l_ _) (by omega) h (.inr e)
  |false=>exact ww b f (a+1) (by omega) (h.more ha e) fun m g i d c=>k m (by omega) (by omega) d (c.imp (fun q=>by omega) id)
def lK:∀(f:Nat) (p:Array Nat) (a q:Nat),Pm n p->1<=a->a+f<=n->Dn O key p a->q+1<=a->(∀i,a - (q+1)<=i->i<a->Ky O key p i=Ky O key p (a - 1)) ->
  (∀b m r,Pm n b->a<=m->m<=a+f->Dn O key b m->r+1<=m->(∀i,m - (r+1)<=i->i<m->Ky O key b i=Ky O key b (m - 1))->Q (b,m,r))->Kw O key n (kas_desc f p a q) Q
 |0,p,a,q,hp,_,_,h,hq,he,k=>k p a q hp (l_ _) (l_ _) h hq he
 |f+1,p,a,q,hp,ha,hn,h,hq,he,k=>by
  refine⟨hp.lt _,hp.lt _,?_⟩
  cases e:O.blt (key (p.getD a 0)) (key (p.getD (a - 1) 0)) with
  |true =>
   have z:a<=p.size:=by rw[hp.sz];omega
   have l:∀b:Array Nat,∀i,a+1 - (0+1)<=i->i<a+1->Ky O key b i=Ky O key b (a+1 - 1):=fun b i u v=>by rw[show i=a+1 - 1 by omega]
   dsimp only
   rw[if_pos rfl]
   by_cases o:q>0
   ·
    rw[if_pos o]
    have t:=Ky.mirEq (O:=O) (key:=key) (i:=a - (q+1)) z he
    refine lK f _ (a+1) 0 (hp.rev _ _) (by omega) (by omega) (Dn.more ha (fun i j u v=>by rw[t,t];exact h i j u v) (by rw[t,t];exact aaO e)) (by omega) (l _) fun b m r d y x s c g=>k b m r d (by omega) (by omega) s c g
   ·
    rw[if_neg o]
    exact lK f p (a+1) 0 hp (by omega) (by omega) (h.more ha (aaO e)) (by omega) (l _) fun b m r d y x s c g=>k b m r d (by omega) (by omega) s c g
  |false =>
   dsimp only
   rw[if_neg J_]
   refine⟨hp.lt _,hp.lt _,?_⟩
   cases A:O.blt (key (p.getD (a - 1) 0)) (key (p.getD a 0)) with
   |true=>exact k p a q hp (l_ _) (by omega) h hq he
   |false =>
    dsimp only
    rw[if_neg J_]
    have w:Ky O key p a=Ky O key p (a - 1):=KeyOrd.kle_antisymm A e
    refine lK f p (a+1) (q+1) hp (by omega) (by omega) (h.more ha (by rw[w];exact aad _)) (by omega) (fun i u v=>?_) fun b m r d y x s c g=>k b m r d (by omega) (by omega) s c g
    rw[show a+1 - 1=a by omega]
    by_cases B:i=a
    ·
     rw[B]
    ·
     rw[w];exact he i (by omega) (by omega)
def yh (b:Pm n p) (e:1<=a) (l:a<=n) (h:Dn O key p a) (k:∀m p',Pm n p'->1<=m->m<=n->Up O key p' m->Q (m,p')):Kw O key n (kas_tail3 a n p) Q:=by
 refine Kw.bind (ww (b.rev 0 a) _ a e (fun i j f g=>?_) fun m f g d _=>k m _ (b.rev 0 a) (by omega) (by omega) d);have c:a<=p.size:=by rw[b.sz];exact l
 rw[Ky.mir c,Ky.mir c,if_pos (by omega),if_pos (by omega)];exact h _ _ (by omega) (by omega)
def kY (s:Pm n p) (v:a+1<=n) (h:Dn O key p (a+1)) (k:∀m b,Pm n b->1<=m->m<=n->Up O key b m->Q (m,b)):Kw O key n (kas_descPart a n p) Q:=by
 refine Kw.bind (lK _ p (a+1) 0 s (by omega) (by omega) h (by omega) (fun i f g=>by rw[show i=a+1 - 1 by omega]) fun b m r c w u l t o=>?_);dsimp only;have q:m<=b.size:=by rw[c.sz];omega
 by_cases d:r>0
 ·rw[if_pos d];have e:=Ky.mirEq (O:=O) (key:=key) (i:=m - (r+1)) q o;exact yh (c.rev _ _) (by omega) (by omega) (fun i j f g=>by rw[e,e];exact l i j f g) k
 rw[if_neg d];exact yh c (by omega) (by omega) l k
def Ea (a:Pm n p) (k:∀m p',Pm n p'->1<=m->m<=n->Up O key p' m->Q (m,p')):Kw O key n (kas_count n p) Q:=by
 have u:=a.n1;refine Kw.bind (ww a _ 1 (l_ _) Up.one fun m g v d o=>?_);by_cases h:m=n
 ·rw[if_pos (by simpa using h)];exact k m p a g (by omega) d
 rw[if_neg (by simpa using h)];have c:O.klt (Ky O key p m) (Ky O key p (m - 1)):=o.resolve_left (by omega);by_cases l:m>1
 ·rw[if_pos l];refine⟨a.lt _,a.lt _,?_⟩;cases e:O.blt (key (p.getD 0 0)) (key (p.getD (m - 1) 0)) with
  |true=>exact k m p a g (by omega) d
  |false =>
  dsimp only;rw[if_neg J_];have r:m<=p.size:=by rw[a.sz];omega
  have b:∀i,0<=i->i<m->Ky O key p i=Ky O key p (m - 1):=fun i _ t=>KeyOrd.kle_antisymm (d i (m - 1) (by omega) (by omega)) (KeyOrd.kle_trans e (d 0 i (by omega) t));have f:=Ky.mirEq (O:=O) (key:=key) (i:=0) r b;refine kY (a.rev _ _) (by omega) (Dn.more g (fun i j s q=>?_) ?_) k
  ·rw[f,f,b i (by omega) (by omega),b j (by omega) (by omega)];exact aad _
  rw[f,f];exact aaO c
 rw[if_neg l];obtain rfl:m=1:=by omega
 refine kY a (by omega) (Dn.more (l_ _) (fun i j s q=>?_) (aaO c)) k;obtain rfl:i=j:=by omega
 exact aad _
def mO (a:Pm n p):∀(f l r:Nat),l<=r->r<=k->r - l<=f->(∀i,i<l->O.kle (Ky O key p i) (Ky O key p k))->(∀i,r<=i->i<k->O.klt (Ky O key p k) (Ky O key p i))->Up O key p k ->
  (∀l,l<=k->(∀i,i<l->O.kle (Ky O key p i) (Ky O key p k))->(∀i,l<=i->i<k->O.klt (Ky O key p k) (Ky O key p i))->Q l)->Kw O key n (kas_place p k f l r) Q
 |0,l,r,h1,h2,h3,lo,hi,_,q=>by
  obtain rfl:l=r:=by omega
  exact q l h2 lo hi
 |f+1,l,r,h1,h2,h3,lo,hi,hu,q=>by
  unfold kas_place
  by_cases h:l ≥ r
  ·
   obtain rfl:l=r:=by omega
   rw[if_pos h]
   exact q l h2 lo hi
  ·
   rw[if_neg h]
   refine⟨a.lt _,a.lt _,?_⟩
   cases e:O.blt (key (p.getD k 0)) (key (p.getD ((l+r) / 2) 0)) with
   |true=>exact mO a f l ((l+r) / 2) (by omega) (by omega) (by omega) lo (fun i b c=>KeyOrd.klt_of_klt_of_kle e (hu _ i b c)) hu q
   |false=>exact mO a f ((l+r) / 2+1) r (by omega) h2 (by omega) (fun i b=>KeyOrd.kle_trans (hu i ((l+r) / 2) (by omega) (by omega)) e) hi hu q
def Eb:∀(f:Nat) (p:Array Nat) (k:Nat),Pm n p->k+f=n->Up O key p k->(∀b,Pm n b->Up O key b n->Q b)->Kw O key n (kas_bin f p k) Q
 |0,p,k,hp,e,h,q=>by
  obtain rfl:k=n:=by omega
  exact q p hp h
 |f+1,p,k,hp,e,h,q=>by
  have c:k<p.size:=by rw[hp.sz];omega
  refine Kw.bind (mO hp k 0 k (Y7 _) (l_ _) (by omega) (fun _ z=>absurd z (Nat.not_lt_zero _)) (fun _ v r=>absurd r (by omega)) h fun l w t s=>?_)
  refine Eb f _ (k+1) (hp.by (bubble_perm _ _ _)) (by omega) (fun i j o u=>?_) q
  rw[Ky.bub c (by omega),Ky.bub c (by omega),show k - (k - l)=l by omega]
  by_cases m:i=l
  ·
   rw[if_pos m]
   by_cases a:j=l
   ·
    rw[if_pos a];exact aad _
   ·
    rw[if_neg a,if_pos (by omega)];exact aaO (s _ (by omega) (by omega))
  ·
   rw[if_neg m]
   by_cases g:l<i/\i<=k
   ·
    rw[if_pos g,if_neg (by omega),if_pos (by omega)];exact h _ _ (by omega) (by omega)
   ·
    rw[if_neg g]
    by_cases a:j=l
    ·
     rw[if_pos a];exact t i (by omega)
    ·
     rw[if_neg a]
     by_cases d:l<j/\j<=k
     ·
      rw[if_pos d];exact h _ _ (by omega) (by omega)
     ·
      rw[if_neg d];exact h _ _ o (by omega)
def Jx (e:1<=n):Kw O key n (kas_sort n) fun p=>Pm n p/\Up O key p n:=by
 have f:Pm n (List.toArray (List.range n)):=⟨.refl _,e⟩;refine Kw.bind (Ea f fun m p d i j c=>?_);dsimp only;by_cases h:m<n
 ·rw[if_pos h,show max m 1=m by omega];exact Eb _ p m d (by omega) c fun g a b=>⟨a,b⟩
 rw[if_neg h];obtain rfl:m=n:=by omega
 exact⟨d,c⟩
def Kpt (h h':Heap):Prop:=∀b o,h.get? b=some o->h'.get? b=some o
end
def jY:bootBuiltins "sorted"=some (.builtin "sorted"):=by decide +kernel
def Srt (O:KeyOrd) (key:Nat->O.α) (n:Nat) (a:List Nat):Prop:=a.Perm (List.range n)/\∀i j,i<=j->j<n->O.kle (key (a.getD i 0)) (key (a.getD j 0))
def Srt.of (h:Pm n p) (u:Up O key p n):Srt O key n p.toList:=⟨h.pm,fun i j b a=>by
 have:=u i j b a;unfold Ky at this;rw[ZP,ZP] at this;rw[h_,h_,aaN,aaN];exact this⟩
section
variable {s:Shared}{O:KeyOrd}
def mQ (l:s.heap.get? a=some (seqObj "list" vs.toArray c)) (t:vs.length<64) (B:2<=vs.length->∀h',(∀b o,b≠a->s.heap.get? b=some o->h'.get? b=some o)->wpAny (model P w) A (keyKind' vs.toArray) (fun u s'=>s'={ s with heap:=h'}/\∀i j (C:Bool->Shared->Prop),i<vs.length->j<vs.length->C (O.blt (key i) (key j)) { s with heap:=h'}->kas_ask P w A u vs i j C { s with heap:=h'}) (fun _ _=>False) { s with heap:=h'}) (h:∀ps,Srt O key vs.length ps->R (.done (.ret .none)) { s with heap:=sortedHeap s.heap a vs (ps.map fun i=>vs.getD i Value.none).toArray}):wpAny (model P w) A (Builtin.«list.sort» ⟨[.ref a],[]⟩) R E s:=by
 have U:a<s.heap.objs.size:=p_ l;have M:vs.length<=sizeLine:=by rw[aaD];omega
 rw[list_sort_plain];refine a_ (listItems_at l rfl ?_);refine a_ (listUpdate_at l rfl ?_ (by rw[t_];omega) (Y7 _));obtain⟨r,k⟩:∃r,(s.heap.update a (Obj.mapSeq fun _=>(#[]:Array Value))).get? a=some (seqObj "list" #[] r):=⟨_,aaK l fun _=>#[]⟩;refine a_ (seqEpoch_at k rfl ?_);refine a_ (wpAny_newTuple ?_ M);refine a_ (aba ?_ (Y7 _));refine Zw ?_;have d:(((s.heap.update a (Obj.mapSeq fun _=>(#[]:Array Value))).push (seqObj "tuple" vs.toArray 0)).push (seqObj "list" #[] 0)).get? a=some (seqObj "list" #[] r):=b_ _ (b_ _ k);show wpAny (model P w) A _ R E { s with heap:=((s.heap.update a (Obj.mapSeq fun _=>(#[]:Array Value))).push (seqObj "tuple" vs.toArray 0)).push (seqObj "list" #[] 0)};dsimp only;by_cases g:vs.toArray.size<2
 ·rw[if_pos g,if_pos g];refine a_ (n_ ?_);rw[StateT.run_pure];refine a_ (n_ ?_);dsimp only;rw[t_] at g;refine a_ (seqEpoch_at d rfl ?_);have e:((vs.toArray.zip vs.toArray).map (·.2))=((List.range vs.length).map fun i=>vs.getD i Value.none).toArray:=by
   match vs,g with
   |[],_=>simp
   |[v],_=>simp [List.range_succ]
  show wpAny (model P w) A (Builtin.List.listUpdate (.ref a) (fun _=>(vs.toArray.zip vs.toArray).map (·.2)) >>= _) R E _;rw[e];refine a_ (listUpdate_at d rfl ?_ (Y7 _) (by rw[t_,e_,D_];omega));simp only[bne_self_eq_false,C_,YG];refine n_ (h (List.range vs.length) ⟨.refl _,fun i j V T=>?_⟩);obtain rfl:i=j:=by omega
  exact aad _
 rw[if_neg g,if_neg g];rw[t_] at g;refine a_ (Y5 (B (by omega) _ fun b o J e=>b_ _ (b_ _ ((ZX _ _ _ _ J).trans e))) (fun u s' L=>?_) fun _ _ x=>x.elim);obtain⟨rfl,N⟩:=L;have F:=Jx (O:=O) (key:=key) (n:=vs.length) (by omega);refine a_ (Y5 (kat_run (G:=fun p s'=>(Pm vs.length p/\Up O key p vs.length)/\s'={ s with heap:=((s.heap.update a (Obj.mapSeq fun _=>(#[]:Array Value))).push (seqObj "tuple" vs.toArray 0)).push (seqObj "list" #[] 0)}) (Q:=fun f s'=>∃p:Array Nat,arrOf f=p.map (kas_item (vs.toArray.zip vs.toArray))/\failedOf f=none/\(Pm vs.length p/\Up O key p vs.length)/\s'={ s with heap:=((s.heap.update a (Obj.mapSeq fun _=>(#[]:Array Value))).push (seqObj "tuple" vs.toArray 0)).push (seqObj "list" #[] 0)}) rfl (by omega) t (fun K f s' S H D y=>⟨K,H,D,y.1,y.2⟩) (F.wp N fun p m=>⟨m,rfl⟩)) ?_ fun _ _ e=>e);rintro⟨⟨⟩,f⟩ s' ⟨p,q,z,⟨m,I⟩,rfl⟩;dsimp only;rw[kat_snds rfl q];refine a_ (seqEpoch_at d rfl ?_);refine a_ (listUpdate_at d rfl ?_ (Y7 _) (by rw[t_,e_,m.pm.length_eq,D_];omega));rw[z];simp only[bne_self_eq_false,C_,YG];exact n_ (h _ (.of m I))
def wy:Kpt h (sortedAll h vs out)/\∃c,(sortedAll h vs out).get? (h.objs.size+1)=some (seqObj "list" out c):=by
 have f:((h.push (seqObj "list" #[] 0)).update h.objs.size (Obj.mapSeq (·++vs.toArray))).objs.size=h.objs.size+1:=by rw[Heap.size_update,size_push']
 have a:(((h.push (seqObj "list" #[] 0)).update h.objs.size (Obj.mapSeq (·++vs.toArray))).push (seqObj "list" vs.toArray 0)).get? (h.objs.size+1)=some (seqObj "list" vs.toArray 0):=by rw[<- f];exact o_ _ rfl
 refine⟨fun b o e=>?_,?_⟩
 ·have d:b<h.objs.size:=p_ e;unfold sortedAll sortedHeap;rw[ZX _ _ _ _ (I_ (Zn d))];refine b_ _ (b_ _ ?_);rw[ZX _ _ _ _ (I_ (Zn d))];refine b_ _ ?_;rw[ZX _ _ _ _ (I_ d)];exact b_ _ e
 unfold sortedAll sortedHeap;exact⟨_,aaK (b_ _ (b_ _ (aaK a fun _=>#[]))) fun _=>out⟩
def tO (c:s.heap.IsTuple l vs.toArray) (f:vs.length<=sizeLine) (h:Q vs { s with heap:=(s.heap.push (seqObj "list" #[] 0)).update s.heap.objs.size (Obj.mapSeq (·++vs.toArray))}):wpAny (model P w) A (collect (.ref l)) Q E s:=by
 obtain⟨o,b,e,n,d⟩:=id c;unfold collect;refine a_ (wpAny_runValue (codeAny_builtin entry_proto_collect' ?_));refine a_ (m:=newList []) (aba (n_ ⟨aak _ (by decide +kernel),codeAny_builtin entry_list_iadd' ?_⟩));show wpAny _ _ (Builtin.List.listExtendWith (.ref s.heap.objs.size) (.ref l) (.ref s.heap.objs.size)) _ _ { s with heap:=s.heap.push (seqObj "list" #[] 0)};unfold Builtin.List.listExtendWith;have a:(s.heap.push (seqObj "list" #[] 0)).get? l=some o:=b_ _ b;refine a_ (wpAny_typeOf (T:="tuple") ⟨o,a,e⟩ ?_);rw[if_pos (by rw[show (Value.type "tuple"==Value.type "tuple")=true from rfl,Bool.or_true])];refine a_ (listItems_at a d (a_ (listItems_at (xs:=#[]) (n:=0) (o_ _ rfl) rfl ?_)));rw[if_neg (by simp)];refine a_ (listUpdate_at (xs:=#[]) (n:=0) (o_ _ rfl) rfl ?_ (Y7 _) (by show (#[]++vs.toArray).size<=sizeLine+1;simp only[Array.size_append,t_,Y0];omega));refine n_ ?_;refine a_ (m:=load s.heap.objs.size) (wpAny_load (aaK (o_ _ rfl) _) ?_);show wpAny _ _ (pure ((#[]:Array Value)++vs.toArray).toList) Q E _;rw[show ((#[]:Array Value)++vs.toArray).toList=vs by simp];exact n_ h
def tQ (a:s.heap.IsList l vs.toArray\/s.heap.IsTuple l vs.toArray) (b:vs.length<=sizeLine) (h:Q vs { s with heap:=(s.heap.push (seqObj "list" #[] 0)).update s.heap.objs.size (Obj.mapSeq (·++vs.toArray))}):wpAny (model P w) A (collect (.ref l)) Q E s:=by
 rcases a with a | a
 ·exact collect_list a h b
 exact tO a b h
def sortedK (r:s.heap.IsList l vs.toArray\/s.heap.IsTuple l vs.toArray) (g:vs.length<64) (q:2<=vs.length->∀h',Kpt s.heap h'->wpAny (model P w) A.in1.in1 (keyKind' vs.toArray) (fun κ s'=>s'={ s with heap:=h'}/\∀i j (C:Bool->Shared->Prop),i<vs.length->j<vs.length->C (O.blt (key i) (key j)) { s with heap:=h'}->kas_ask P w A.in1.in1 κ vs i j C { s with heap:=h'}) (fun _ _=>False) { s with heap:=h'}) (h:∀d h' c,Srt O key vs.length d->Kpt s.heap h'->h'.get? (s.heap.objs.size+1)=some (seqObj "list" (d.map fun i=>vs.getD i Value.none).toArray c)->Q (.ref (s.heap.objs.size+1)) { s with heap:=h'}):wpAny (model P w) A (call (.builtin "sorted") [.ref l]) Q E s:=by
 refine Calls.call_function_entry kind_sorted plain_sorted entry_sorted (args_sorted1 _) ?_;unfold Builtin.«sorted»;refine a_ (m:=checkCount "sorted" 1 1 _) (n_ ?_);refine a_ (tQ r (by rw[aaD];omega) ?_);refine a_ (aba ?_ (by rw[aaD];omega));have k:((s.heap.push (seqObj "list" #[] 0)).update s.heap.objs.size (Obj.mapSeq (·++vs.toArray))).objs.size=s.heap.objs.size+1:=by rw[Heap.size_update,size_push']
 have a:(((s.heap.push (seqObj "list" #[] 0)).update s.heap.objs.size (Obj.mapSeq (·++vs.toArray))).push (seqObj "list" vs.toArray 0)).get? (s.heap.objs.size+1)=some (seqObj "list" vs.toArray 0):=by rw[<- k];exact o_ _ rfl
 show wpAny _ _ _ _ _ { s with heap:=((s.heap.push (seqObj "list" #[] 0)).update s.heap.objs.size (Obj.mapSeq (·++vs.toArray))).push (seqObj "list" vs.toArray 0)};rw[k];refine a_ (Zw (Z2 slot_list_sort ⟨_,a,rfl⟩ entry_list_sort (mQ (O:=O) (key:=key) a g (fun p h' f=>q p h' fun b o e=>f b o ?_ ?_) fun d n=>⟨_,rfl,?_⟩) (args_list_sort _)))
 ·exact I_ (Zn (p_ e))
 ·have t:b<s.heap.objs.size:=p_ e;refine b_ _ ?_;rw[ZX _ _ _ _ (I_ t)];exact b_ _ e
 obtain⟨f,c,u⟩:=wy (h:=s.heap) (vs:=vs) (out:=(d.map fun i=>vs.getD i Value.none).toArray);exact n_ ⟨_,rfl,h d _ c n f u⟩
end
open L2 PySem.W M
@[reducible] def strOrd:KeyOrd:=strKind.toKeyOrd
def zN (x:Str):strOrd.α:=x.cps.toList
section
variable {X:Cx}{pins:List (Addr × Obj)}{σ:L2.St}
def QJ (I:Inv X pins σ H s) (M:SimH X.K H3 H) (k:KV3 X.K H Q3 Q) {v:Type} (O:KeyOrd) (key:v->O.α) (f:v->T) (m:v) {d:List v} (N:Reps X.K H (d.map f) l) (o:Vals l b) (Y:s.heap.IsList a b.toArray\/s.heap.IsTuple a b.toArray) (h64:d.length<64) (R:2<=b.length->∀h',Kpt s.heap h'->wpAny (model X.prog X.w) X.A.in1.in1 (keyKind' b.toArray) (fun κ s'=>s'={ s with heap:=h'}/\∀i j (C:Bool->Shared->Prop),i<b.length->j<b.length->C (O.blt (key (d.getD i m)) (key (d.getD j m))) { s with heap:=h'}->kas_ask X.prog X.w X.A.in1.in1 κ b i j C { s with heap:=h'}) (fun _ _=>False) { s with heap:=h'}) (h:∀us:List v,us.Perm d->us.Pairwise (fun x y=>O.kle (key x) (key y))->∀p,H3 p=none->Q3 (.ref p) (up3 H3 p (.lst (us.map f)))):wpAny (model X.prog X.w) X.A (call (.builtin "sorted") [.ref a]) (EP X pins σ Q) X.xe s:=by
 have l1:=N.length;rw[e_] at l1;have l2:=o.length;have hz:sizeLine=16777216:=rfl;refine sortedK (O:=O) (key:=fun i=>key (d.getD i m)) Y (by omega) R fun q h' c W U L=>?_;obtain⟨u,D⟩:=W;have g:∀i∈q,i<d.length:=fun i e=>by have:=YF.mp (u.mem_iff.mp e);omega
 have r:q.length=d.length:=by rw[u.length_eq,D_];omega
 have P:Reps X.K H ((q.map fun i=>d.getD i m).map f) (q.map fun i=>l.getD i .non):=by
  clear D u r L;induction q with
  |nil=>exact .nil
  |cons i q F =>
  refine .cons ?_ (F fun j n=>g j (.tail _ n));have e:=g i (.head _);obtain⟨y,J,E⟩:=N.get (i:=i) (t:=f d[i]) (by rw[y_,g_ e];rfl);dsimp only;rw[h_,g_ e,h_,J];exact E
 have S:Vals (q.map fun i=>l.getD i .non) (q.map fun i=>b.getD i Value.none):=by
  clear D u r P L;induction q with
  |nil=>exact .nil
  |cons i q F =>
  refine .cons ?_ (F fun j n=>g j (.tail _ n));have e:i<l.length:=by have:=g i (.head _);omega
  obtain⟨z,J,E⟩:=o.get (i:=i) (g_ e);dsimp only;rw[h_,g_ e,h_,J];exact E
 have B:H (s.heap.objs.size+1)=none:=I.hok.fresh (Z6 _);refine⟨.ref (s.heap.objs.size+1),upd H (s.heap.objs.size+1) (.lst (q.map fun i=>l.getD i .non)),I.laid (t':=s.toks) U (Z6 _) ⟨by rw[e_];omega,_,c,S,L⟩,rfl,?_⟩;refine k _ _ _ _ (aO B) (M.newLst B P) .ofRef (h _ ?_ ?_ _ (M.fresh B))
 ·have G:=u.map fun i=>d.getD i m;rw[show b.length=d.length by omega] at G;have e2:(List.range d.length).map (fun i=>d.getD i m)=d:=by
   apply aar;intro i;rw[y_];by_cases e:i<d.length
   ·rw[YK e,g_ e];simp [h_,e]
   rw[P_ (by simpa using e),P_ (by omega)];rfl
  rw[e2] at G;exact G
 rw[Z0];intro i j e n Z;rw[e_] at e n;have:=D i j (by omega) (by omega);rw[h_,g_ e,h_,g_ n] at this;rw[Z3,Z3];exact this
def qD:∀{d:List Str}{e:List V}{c:List Value},Reps X.K H (d.map T.str) e->Vals e c->StrsAre c d
 |[],_,_,r,a=>by rw[r.inv0] at a;cases a;exact .nil
 |x::d,_,_,r,a=>by
  obtain⟨v,g,rfl,q,b⟩:=r.inv
  cases a with
  |cons f a =>
   cases q.str
   obtain⟨t,rfl⟩:=f
   exact .cons x t (qD b a)
def StrsAre.get (h:StrsAre a c):∀i,i<a.length->∃t,a.getD i Value.none=Value.str (c.getD i default) t:=by
 induction h with
 |nil=>intro i b;exact absurd b (Nat.not_lt_zero _)
 |cons x t _ d =>
 intro i b;cases i with
 |zero=>exact⟨t,rfl⟩
 |succ i=>exact d i (by simpa using b)
def StrsAre.len (h:StrsAre a b):a.length=b.length:=by
 induction h with
 |nil=>rfl
 |cons x t _ c=>rw[j_,j_,c]
def Ec (I:Inv X pins σ H s) (m:SimH X.K H3 H) (k:KV3 X.K H Q3 Q) (l:Reps X.K H (d.map T.str) g) (c:Vals g b) (z:s.heap.IsList a b.toArray\/s.heap.IsTuple a b.toArray) (e:d.length<64) (h:∀us:List Str,us.Perm d->us.Pairwise (fun x y=>strOrd.kle (zN x) (zN y))->∀p,H3 p=none->Q3 (.ref p) (up3 H3 p (.lst (us.map T.str)))):wpAny (model X.prog X.w) X.A (call (.builtin "sorted") [.ref a]) (EP X pins σ Q) X.xe s:=by
 have f:=qD l c;refine QJ I m k strOrd zN T.str default l c z e (fun r h' F=>?_) h;refine kas_kind (T:=.type "str") (s:={ s with heap:=h'}) r (fun v n=>?_) rfl rfl ⟨rfl,fun i j C E q o=>?_⟩
 ·obtain⟨x,t,rfl⟩:=f.all v n;exact Looks.of_pure rfl
 obtain⟨t,B⟩:=StrsAre.get f i E;obtain⟨u,D⟩:=StrsAre.get f j q;unfold kas_ask;rw[B,D];exact kas_lt_str o
end
def leS (x y:Str):Prop:=strOrd.kle (zN x) (zN y)
def srL (x:T) (H:Hp3) (Q:VK3):Prop:=∃(b:List Str) (a:Addr),x=.ref a/\H a=some (.lst (b.map T.str))/\b.length<64/\∀us:List Str,us.Perm b->us.Pairwise leS->∀p,H p=none->Q (.ref p) (up3 H p (.lst (us.map T.str)))
def Ed:List T->Hp3->VK3->Prop:=fun ts H Q=>match ts with
 |[x]=>srL x H Q
 |_=>False
def QK (x:T) (H:Hp3) (Q:VK3):Ed [x] H Q=srL x H Q:=rfl
def Jy:cX X (.builtin "sorted") Ed:=by
 intro g s x H xs us Q I n h;obtain⟨ts,H3,p,r,e,h,k⟩:=h;cases ts with
 |nil=>exact h.elim
 |cons t ts =>
 cases ts with
 |cons _ _=>exact h.elim
 |nil =>
 obtain⟨v,rfl,d⟩:=r.one';obtain⟨u,rfl,f⟩:=vals1 n;obtain⟨q,a,rfl,l,c,h⟩:=h;rw[d.ref] at f;cases f;obtain⟨w,j,o⟩:=e.sqL (.inl l);obtain⟨i,b,m,_⟩:=I.list j;exact Ec I e k o b (.inl m.isList) c h
def zO (r:KV kvs vs):∀(us:List Value),us.length=vs.length->(∀(j:Nat) (v:Value),us[j]?=some v->∃k x,vs[j]?=some (k,x)/\(bK P w).is k v=true)->Vals (kvs.map fun q=>kV q.1) us:=by
 induction r with
 |nil=>intro us h _;rw[Zz h];exact .nil
 |cons l n g =>
 intro us d a;cases us with
 |nil=>cases d
 |cons u us =>
 refine .cons ?_ (g us (Nat.succ.inj d) fun j v e=>a (j+1) v e);obtain⟨k,x,e,m⟩:=a 0 u rfl;cases e;obtain⟨f,_⟩:=l;dsimp only at f ⊢;rw[f];rcases bQ m with ⟨i,t,b,c⟩ | ⟨y,t,b,c⟩
 ·rw[b,c];exact⟨t,rfl⟩
 rw[b,c];exact⟨t,rfl⟩
def zP {K:Frag} (r:RepD K H kvs vs):Reps K H (kvs.map fun q=>T.str q.1) (vs.map fun q=>kV q.1):=by
 induction r with
 |nil=>exact .nil
 |cons h _ a =>
 refine .cons ?_ a;dsimp only;rw[h.1];exact .ofStr
def Jz:Kpt h (sortedHeap (h.push (seqObj "list" vs.toArray 0)) h.objs.size vs out)/\∃c,(sortedHeap (h.push (seqObj "list" vs.toArray 0)) h.objs.size vs out).get? h.objs.size=some (seqObj "list" out c):=by
 have a:(h.push (seqObj "list" vs.toArray 0)).get? h.objs.size=some (seqObj "list" vs.toArray 0):=o_ _ rfl;refine⟨fun b o e=>?_,?_⟩
 ·have d:b<h.objs.size:=p_ e;unfold sortedHeap;rw[ZX _ _ _ _ (I_ d)];refine b_ _ (b_ _ ?_);rw[ZX _ _ _ _ (I_ d)];exact b_ _ e
 unfold sortedHeap;exact⟨_,aaK (b_ _ (b_ _ (aaK a fun _=>#[]))) fun _=>out⟩
section
variable {P:Program}{w:World}{A:Around}{O:KeyOrd}
def JB (n:∀A' E',A'.handled=A.handled->wpAny (model P w) A' (collect x) (fun vs s1=>vs.length<64 /\
   (2<=vs.length->∀h',Kpt s1.heap h'->wpAny (model P w) A.in1.in1 (keyKind' vs.toArray) (fun κ s'=>s'={ s1 with heap:=h'}/\∀i j (C:Bool->Shared->Prop),i<vs.length->j<vs.length->C (O.blt (key i) (key j)) { s1 with heap:=h'}->kas_ask P w A.in1.in1 κ vs i j C { s1 with heap:=h'}) (fun _ _=>False) { s1 with heap:=h'}) /\
   ∀d h' c,Srt O key vs.length d->Kpt s1.heap h'->h'.get? s1.heap.objs.size=some (seqObj "list" (d.map fun i=>vs.getD i Value.none).toArray c)->Q (.ref s1.heap.objs.size) { s1 with heap:=h'}) E' s):wpAny (model P w) A (call (.builtin "sorted") [x]) Q E s:=by
 refine Calls.call_function_entry kind_sorted plain_sorted entry_sorted (args_sorted1 _) ?_;unfold Builtin.«sorted»;refine a_ (m:=checkCount "sorted" 1 1 _) (n_ ?_);refine a_ (Y5 (n _ _ rfl) (fun vs s1 k=>?_) fun _ _ e=>e);obtain⟨g,q,h⟩:=k;refine a_ (aba ?_ (by rw[aaD];omega));have a:(s1.heap.push (seqObj "list" vs.toArray 0)).get? s1.heap.objs.size=some (seqObj "list" vs.toArray 0):=o_ _ rfl;refine a_ (Zw (Z2 slot_list_sort ⟨_,a,rfl⟩ entry_list_sort (mQ (O:=O) (key:=key) a g (fun p h' f=>q p h' fun b o e=>f b o ?_ ?_) fun d l=>⟨_,rfl,?_⟩) (args_list_sort _)))
 ·exact I_ (p_ e)
 ·exact b_ _ e
 obtain⟨f,c,r⟩:=Jz (h:=s1.heap) (vs:=vs) (out:=(d.map fun i=>vs.getD i Value.none).toArray);exact n_ ⟨_,rfl,h d _ c l f r⟩
def tR {T:String} (K:KdlSrc P w T r d n u z) (F:A.handled=none) (l:z s.heap) (D:n<=sizeLine) (h:∀h' tk a,Kpt s.heap h'->s.heap.objs.size<h'.objs.size->ItemsOf u a n->Q a.toList { s with heap:=h',toks:=tk}):wpAny (model P w) A (collect (.ref r)) Q E s:=by
 have k:=K.there _ l;unfold collect;refine a_ (wpAny_runValue (codeAny_builtin entry_proto_collect' ?_));refine a_ (m:=newList []) (aba (n_ ⟨aak _ (by decide +kernel),codeAny_builtin entry_list_iadd' ?_⟩))
 let st:Shared:={ s with heap:=s.heap.push (seqObj "list" #[] 0)}
 let G:Result->Shared->Prop:=fun q t=>∃h' tk a c,q=.ok (.ret (.ref s.heap.objs.size))/\t={ s with heap:=h',toks:=tk}/\Kpt s.heap h'/\h'.get? s.heap.objs.size=some (seqObj "list" a c)/\ItemsOf u a n
 have key:=kdl_extend (A:=A) (s:=st) (R:=G) K F (K.keep _ _ l fun b _ o e=>b_ _ e) s.heap.objs.size (Yz k.1) (Yz k.2) (.ref s.heap.objs.size) 0 (o_ _ rfl) (fun h' tk a c C i g=>⟨h',tk,a,c,rfl,rfl,fun b o e=>C b o (I_ (p_ e)) (b_ _ e),i,g⟩) D;have j:∀q t,G q t->∃h' tk a c,q=.ok (.ret (.ref s.heap.objs.size))/\h'.get? s.heap.objs.size=some (seqObj "list" a c)/\t={ s with heap:=h',toks:=tk}/\Q a.toList t:=by rintro q t ⟨h',tk,a,c,p,rfl,B,i,g⟩;exact⟨h',tk,a,c,p,i,rfl,h h' tk a B (p_ i) g⟩
 refine Y5 (A:=A.in1) key (fun f t x=>?_) fun e t x=>?_
 ·cases f with
  |done f=>obtain⟨h',tk,a,c,p,i,rfl,v⟩:=j _ _ x;cases p;exact a_ (m:=load s.heap.objs.size) (wpAny_load i (n_ v))
  |again H =>
  refine⟨x.1,aaS x.2 fun q t y=>?_⟩;obtain⟨h',tk,a,c,rfl,i,rfl,v⟩:=j _ _ y;exact a_ (m:=load s.heap.objs.size) (wpAny_load i (n_ v))
 obtain⟨_,_,_,_,p,_⟩:=j _ _ x;cases p
variable {X:Cx}{pins:List (Addr × Obj)}{σ:L2.St}
def Ef (I:Inv X pins σ H s) (U:SimH X.K H3 H) (k:KV3 X.K H Q3 Q) (hh:X.A.handled=none) (ha:H3 a=some (.dct kvs)) (h64:kvs.length<64) (h:∀us:List Str,us.Perm (kvs.map (·.1))->us.Pairwise leS->∀p,H3 p=none->Q3 (.ref p) (up3 H3 p (.lst (us.map T.str)))):wpAny (model X.prog X.w) X.A (call (.builtin "sorted") [.ref a]) (EP X pins σ Q) X.xe s:=by
 obtain⟨vs,N,rd⟩:=U a _ ha;obtain⟨z,hd,vs',D,dd⟩:=rH I.hok N;obtain⟨o,es,ep,h1,h2,h3,h4,h5,h6⟩:=dd;have hl:=D.length;have hl2:=aas rd;refine JB (O:=strOrd) (key:=fun i=>zN ((kvs.map (·.1)).getD i default)) fun A' E' hA=>?_;refine tR (kdl_dict (knd:=bK X.prog X.w) (kvs:=vs') (ep:=ep) hd) (hA.trans hh) ⟨o,es,h1,h2,h3,h4,h5,h6⟩ (by omega) fun h' tk F kp r m=>?_;have g:=zO (P:=X.prog) (w:=X.w) D F.toList (by rw[aaf];exact m.1) fun j v e=>m.2 j v (by rw[<- aaN];exact e);have rs:=zP rd;have f:Reps X.K H ((kvs.map (·.1)).map T.str) (vs.map fun q=>kV q.1):=by rw[YC];exact rs
 have S:=qD f g;have l3:=StrsAre.len S;rw[e_] at l3;generalize hys:(vs.map fun q=>kV q.1)=R at g f;generalize F.toList=G at *;have l1:=f.length;rw[e_,e_] at l1;have l2:=g.length;have hz:sizeLine=16777216:=rfl;refine⟨by omega,fun g2 g' kq=>?_,fun q g' c hs kq hc=>?_⟩
 ·refine kas_kind (T:=.type "str") (s:={ s with heap:=g',toks:=tk}) g2 (fun v hv=>?_) rfl rfl ⟨rfl,fun i j C d n hC=>?_⟩
  ·obtain⟨x,t,rfl⟩:=S.all v hv;exact Looks.of_pure rfl
  obtain⟨t,M⟩:=StrsAre.get S i d;obtain⟨u,N⟩:=StrsAre.get S j n;unfold kas_ask;rw[M,N];exact kas_lt_str hC
 obtain⟨L,W⟩:=hs;have l:∀i∈q,i<kvs.length:=fun i d=>by have:=YF.mp (L.mem_iff.mp d);omega
 have E:q.length=kvs.length:=by rw[L.length_eq,D_];omega
 have ry:Reps X.K H ((q.map fun i=>(kvs.map (·.1)).getD i default).map T.str) (q.map fun i=>R.getD i .non):=by
  clear W L E hc;induction q with
  |nil=>exact .nil
  |cons i q Z =>
  refine .cons ?_ (Z fun j n=>l j (.tail _ n));have d:=l i (.head _);have B:i<(kvs.map (·.1)).length:=by rw[e_];exact d
  obtain⟨y,M,Y⟩:=f.get (i:=i) (t:=T.str ((kvs.map (·.1))[i])) (by rw[y_,g_ B];rfl);dsimp only;rw[h_,g_ B,h_,M];exact Y
 have rz:Vals (q.map fun i=>R.getD i .non) (q.map fun i=>G.getD i Value.none):=by
  clear W L E ry hc;induction q with
  |nil=>exact .nil
  |cons i q Z =>
  refine .cons ?_ (Z fun j n=>l j (.tail _ n));have d:i<R.length:=by have:=l i (.head _);omega
  obtain⟨z,M,Y⟩:=g.get (i:=i) (g_ d);dsimp only;rw[h_,g_ d,h_,M];exact Y
 have J:s.heap.objs.size<=h'.objs.size:=ZD r;have V:H h'.objs.size=none:=I.hok.fresh J;refine⟨.ref h'.objs.size,upd H h'.objs.size (.lst (q.map fun i=>R.getD i .non)),I.laid (t':=tk) (fun b o e=>kq b o (kp b o e)) J ⟨by rw[e_];omega,_,c,rz,hc⟩,rfl,?_⟩;refine k _ _ _ _ (aO V) (U.newLst V ry) .ofRef (h _ ?_ ?_ _ (U.fresh V))
 ·have hm:=L.map fun i=>(kvs.map (·.1)).getD i default;rw[show G.length=(kvs.map (·.1)).length by rw[e_];omega] at hm;have N:(List.range (kvs.map (·.1)).length).map (fun i=>(kvs.map (·.1)).getD i default)=kvs.map (·.1):=by
   apply aar;intro i;rw[y_];by_cases d:i<(kvs.map (·.1)).length
   ·rw[YK d,g_ d,aaL,h_,g_ d];rfl
   rw[P_ (by simpa using d),P_ (by omega)];rfl
  rw[N] at hm;exact hm
 rw[Z0];intro i j d n hij;rw[e_] at d n;have:=W i j (by omega) (by omega);rw[h_,g_ d,h_,g_ n] at this;rw[Z3,Z3];exact this
def sdD (o:Option O3) (H:Hp3) (Q:VK3):Prop:=match o with
 |some (.dct kvs)=>kvs.length<64/\∀us:List Str,us.Perm (kvs.map (·.1))->us.Pairwise leS->∀p,H p=none->Q (.ref p) (up3 H p (.lst (us.map T.str)))
 |_=>False
def Eg:List T->Hp3->VK3->Prop:=fun ts H Q=>match ts with
 |[.ref a]=>sdD (H a) H Q
 |_=>False
def QL (a:Addr) (H:Hp3) (Q:VK3):Eg [.ref a] H Q=sdD (H a) H Q:=rfl
def VH (kvs:List (Str × T)) (H:Hp3) (Q:VK3):sdD (some (.dct kvs)) H Q=(kvs.length<64/\∀us:List Str,us.Perm (kvs.map (·.1))->us.Pairwise leS->∀p,H p=none->Q (.ref p) (up3 H p (.lst (us.map T.str)))):=rfl
def JC (g:Room n X.A):cX X (.builtin "sorted") Eg:=by
 intro d s l H xs us Q I j h;obtain⟨ts,H3,i,r,f,h,k⟩:=h
 match ts,h,r with
 |[.ref a],h,r =>
 obtain⟨v,rfl,b⟩:=r.one';obtain⟨u,rfl,c⟩:=vals1 j;rw[b.ref] at c;cases c;have h':sdD (H3 a) H3 i:=h;unfold sdD at h';split at h'
 ·rename_i kvs e;exact Ef I f k g.hd e h'.1 h'.2
 exact h'.elim
end
@[reducible] def trOrd:KeyOrd where
 α:=Int × Int × Int
 blt x y:=decide (x.1<y.1\/(x.1=y.1/\(x.2.1<y.2.1\/(x.2.1=y.2.1/\x.2.2<y.2.2))))
 irrefl a:=by rw[ZK];omega
 trans a b c h1 h2:=by rw[aa7] at *;omega
 negTrans a b c h:=by rw[aa7] at h;rw[aa7,aa7];omega
 total a b h1 h2:=by
  rw[ZK] at h1 h2;obtain⟨e,l,i⟩:=a;obtain⟨k,d,m⟩:=b;dsimp only at h1 h2;have g:e=k:=by omega
  have j:l=d:=by omega
  have f:i=m:=by omega
  rw[g,j,f]
def JD (x y:Int × Int × Int):Prop:=trOrd.kle x y
def trT (p:Int × Int × Int):T:=.tup [.int p.1,.int p.2.1,.int p.2.2]
section
variable {X:Cx}{pins:List (Addr × Obj)}{σ:L2.St}
def QM (h:Heap) (p:Int × Int × Int) (v:Value):Prop:=∃a o n t u z,v=.ref a/\h.get? a=some o/\o.cls=.type "tuple"/\o.data=.seq #[.int p.1 t,.int p.2.1 u,.int p.2.2 z] n
def wz (I:Inv X pins σ H s) (w:Kpt s.heap h'):∀{j:List (Int × Int × Int)}{l:List V}{d:List Value},Reps X.K H (j.map trT) l->Vals l d ->
  d.length=j.length/\(∃fs,KatTups h' d fs/\fs.length=d.length/\∀v∈fs,∃x t,v=Value.int x t)/\∀(i:Nat) (p:Int × Int × Int),j[i]?=some p->∃v,d[i]?=some v/\QM h' p v
 |[],_,_,r,f=>by
  rw[r.inv0] at f
  cases f
  exact⟨rfl,⟨[],.nil,rfl,(fun _ z=>nomatch z)⟩,(fun _ _ z=>nomatch z)⟩
 |p::j,_,_,r,f=>by
  obtain⟨v,Z,rfl,q,b⟩:=r.inv
  cases f with
  |cons F f =>
   rename_i u us
   obtain⟨O,⟨fs,E,N,B⟩,J⟩:=wz I w b f
   obtain⟨a,xs,rfl,R,Q⟩:=Rep.tup q
   cases F
   obtain⟨y,c,⟨o,C,A,n,m⟩,_⟩:=I.tuple R
   obtain⟨v1,Y,rfl,M,P⟩:=Q.inv
   obtain⟨v2,r2,rfl,S,W⟩:=P.inv
   obtain⟨v3,r3,rfl,D,G⟩:=W.inv
   rw[G.inv0] at c
   cases M.int
   cases S.int
   cases D.int
   cases c with
   |cons U c =>
   cases c with
   |cons L c =>
   cases c with
   |cons T c =>
   cases c
   obtain⟨t,rfl⟩:=U
   obtain⟨t',rfl⟩:=L
   obtain⟨k,rfl⟩:=T
   have g:=w a o C
   refine⟨by simp [O],⟨.int p.1 t::fs,.cons g A m rfl E,by simp [N],fun z h=>?_⟩,fun i z h=>?_⟩
   ·
    rcases u_.mp h with e | e
    ·
     exact⟨_,_,e⟩
    ·
     exact B z e
   ·
    cases i with
    |zero=>cases h;exact⟨_,rfl,a,o,n,t,t',k,rfl,g,A,m⟩
    |succ i=>exact J i z h
def VJ (e:s'.heap=h') (l:QM h' x u) (m:QM h' y v) (h:C (trOrd.blt x y) s'):
  wpAny (model P w) A (keyLt' (tuples' true) u v) C E s':=by
 obtain⟨a,o,n,F,B,z,rfl,k,G,p⟩:=l;obtain⟨b,t,r,s,q,D,rfl,d,j,c⟩:=m;subst e;refine kat_lt k p d c ?_;dsimp only[trOrd] at h;refine kat_cons (aa4 _ _ _ _ P w _ _ ?_);by_cases g:x.1=y.1
 ·rw[show (x.1==y.1)=true from Zt.mpr g];refine kat_yes (kat_cons (aa4 _ _ _ _ P w _ _ ?_));by_cases i:x.2.1=y.2.1
  ·rw[show (x.2.1==y.2.1)=true from Zt.mpr i];refine kat_yes (kat_cons (aa4 _ _ _ _ P w _ _ ?_));by_cases f:x.2.2=y.2.2
   ·rw[show (x.2.2==y.2.2)=true from Zt.mpr f];refine kat_yes (kat_nil ?_);rw[H_ (by omega)] at h;exact h
   rw[show (x.2.2==y.2.2)=false from YZ.mpr f];refine kat_no (kat_one _ _ (wpAny_lt_int ?_));rw[show decide (x.1<y.1\/(x.1=y.1/\(x.2.1<y.2.1\/(x.2.1=y.2.1/\x.2.2<y.2.2))))=decide (x.2.2<y.2.2) from Z4.mpr (by omega)] at h;exact h
  rw[show (x.2.1==y.2.1)=false from YZ.mpr i];refine kat_no (kat_one _ _ (wpAny_lt_int ?_));rw[show decide (x.1<y.1\/(x.1=y.1/\(x.2.1<y.2.1\/(x.2.1=y.2.1/\x.2.2<y.2.2))))=decide (x.2.1<y.2.1) from Z4.mpr (by omega)] at h;exact h
 rw[show (x.1==y.1)=false from YZ.mpr g];refine kat_no (oneLt_int ?_);rw[show decide (x.1<y.1\/(x.1=y.1/\(x.2.1<y.2.1\/(x.2.1=y.2.1/\x.2.2<y.2.2))))=decide (x.1<y.1) from Z4.mpr (by omega)] at h;exact h
end
def srT (o:Option O3) (H:Hp3) (Q:VK3):Prop:=match o with
 |some (.lst ts)=>∃a:List (Int × Int × Int),ts=a.map trT/\a.length<64/\∀us:List (Int × Int × Int),us.Perm a->us.Pairwise JD->∀p,H p=none->Q (.ref p) (up3 H p (.lst (us.map trT)))
 |_=>False
def Eh:List T->Hp3->VK3->Prop:=fun ts H Q=>match ts with
 |[.ref a]=>srT (H a) H Q
 |_=>False
def Ei (a:Addr) (H:Hp3) (Q:VK3):Eh [.ref a] H Q=srT (H a) H Q:=rfl
def VM (ts:List T) (H:Hp3) (Q:VK3):srT (some (.lst ts)) H Q=(∃a:List (Int × Int × Int),ts=a.map trT/\a.length<64/\∀us:List (Int × Int × Int),us.Perm a->us.Pairwise JD->∀p,H p=none->Q (.ref p) (up3 H p (.lst (us.map trT)))):=rfl
def JF:cX X (.builtin "sorted") Eh:=by
 intro Y s σ H xs us Q I rv h;obtain⟨ts,H3,Q3,r,D,h,k⟩:=h;cases ts with
 |nil=>exact h.elim
 |cons t ts =>
 cases ts with
 |cons _ _=>cases t <;> exact h.elim
 |nil =>
 cases t with
 |ref a =>
  rw[Ei] at h;obtain⟨v,rfl,R⟩:=r.one';obtain⟨u,rfl,W⟩:=vals1 rv;rw[R.ref] at W;cases W;cases e:H3 a with
  |none=>rw[e] at h;exact h.elim
  |some o =>
  rw[e] at h;cases o with
  |lst ls =>
   obtain⟨b,rfl,h64,h⟩:=h;obtain⟨m,sq,B⟩:=D.sqL (.inl e);obtain⟨N,g,hl,_⟩:=I.list sq;have G:=(wz I (fun _ _ q=>q) B g).1
   let key:Nat->trOrd.α:=fun i=>b.getD i default
   refine sortedK (O:=trOrd) (key:=key) (.inl hl.isList) (by omega) (fun h2 h' P=>?_) fun q h' c hs P F=>?_
   ·obtain⟨_,⟨fs,kt,hfl,U⟩,w⟩:=wz I P B g;refine kat_kind (T:=.type "int") (s:={ s with heap:=h'}) kt (by omega) (fun v hv=>?_) rfl ⟨rfl,fun i j C d l hC=>?_⟩
    ·obtain⟨x,t,rfl⟩:=U v hv;exact Looks.of_pure rfl
    have gi:b[i]?=some (b.getD i default):=by rw[h_,g_ (by omega)];rfl
    have gj:b[j]?=some (b.getD j default):=by rw[h_,g_ (by omega)];rfl
    obtain⟨vi,A,p1⟩:=w i _ gi;obtain⟨vj,V,p2⟩:=w j _ gj;unfold kas_ask;rw[h_,h_,A,V];exact VJ rfl p1 p2 hC
   obtain⟨p,J⟩:=hs;have f:∀i∈q,i<b.length:=fun i d=>by rw[<- G];exact YF.mp (p.mem_iff.mp d)
   have l1:=B.length;rw[e_] at l1;have n:q.length=b.length:=by rw[p.length_eq,D_,G]
   have hz:sizeLine=16777216:=rfl;have Z:Reps X.K H ((q.map fun i=>b.getD i default).map trT) (q.map fun i=>m.getD i .non):=by
    clear J p n F;induction q with
    |nil=>exact .nil
    |cons i q M =>
    refine .cons ?_ (M fun j l=>f j (.tail _ l));have d:=f i (.head _);obtain⟨y,A,L⟩:=B.get (i:=i) (t:=trT b[i]) (by rw[y_,g_ d];rfl);dsimp only;rw[h_,g_ d,h_,A];exact L
   have rz:Vals (q.map fun i=>m.getD i .non) (q.map fun i=>N.getD i Value.none):=by
    clear J p n Z F;induction q with
    |nil=>exact .nil
    |cons i q M =>
    refine .cons ?_ (M fun j l=>f j (.tail _ l));have d:=f i (.head _);obtain⟨z,A,L⟩:=g.get (i:=i) (g_ (show i<m.length by omega));dsimp only;rw[h_,g_ (show i<m.length by omega),h_,A];exact L
   have E:H (s.heap.objs.size+1)=none:=I.hok.fresh (Z6 _);refine⟨.ref (s.heap.objs.size+1),upd H (s.heap.objs.size+1) (.lst (q.map fun i=>m.getD i .non)),I.laid (t':=s.toks) P (Z6 _) ⟨by rw[e_];omega,_,c,rz,F⟩,rfl,?_⟩;refine k _ _ _ _ (aO E) (D.newLst E Z) .ofRef (h _ ?_ ?_ _ (D.fresh E))
   ·have S:=p.map fun i=>b.getD i default;rw[G] at S;have V:(List.range b.length).map (fun i=>b.getD i default)=b:=by
     apply aar;intro i;rw[y_];by_cases d:i<b.length
     ·rw[YK d,g_ d];simp [h_,d]
     rw[P_ (by simpa using d),P_ (by omega)];rfl
    rw[V] at S;exact S
   rw[Z0];intro i j d l hij;rw[e_] at d l;have:=J i j (by omega) (by omega);rw[h_,g_ d,h_,g_ l] at this;rw[Z3,Z3];exact this
  |_=>exact h.elim
 |_=>cases h
def JG (f:A.handled=none) (it t:Addr) (c:t≠it) (a:Array Value) (k:Nat) (b:a[k]?=none):
  Draws prog w A it [it,t] k (fun _ _=>True) (fun i h=>i=k/\h.IsListIter it t i/\h.IsList t a) where
 live:=fun _ _ st=>let ⟨o,ho,_⟩:=st.2.1;⟨o,ho⟩
 frame:=fun _ _ _ st b=>⟨st.1,st.2.1.at fun o e=>b it (by simp) o e,st.2.2.at fun o e=>b t (by simp) o e⟩
 item:=fun i s Q E g st j=>absurd st.1 (I_ g)
 done:=fun s Q E st d=>wpAny_nextOf_list_end f st.2.1 st.2.2 b d
structure SqK where
 Sq:Frag->Hp->Addr->List V->Prop
 It:Heap->Addr->Addr->Nat->Prop
 Is:Heap->Addr->Array Value->Prop
 itAt:∀{h h':Heap} {it a:Addr} {i:Nat},It h it a i->(∀o,h.get? it=some o->h'.get? it=some o)->It h' it a i
 itOb:∀{h:Heap} {it a:Addr} {i:Nat},It h it a i->∃o,h.get? it=some o/\∀v,o.data≠.cell v
 lt:∀{h:Heap} {a:Addr} {xs:Array Value},Is h a xs->a<h.objs.size
 seq:∀{X:Cx} {pins:List (Addr × Obj)} {σ:L2.St} {H:Hp} {s:Shared} {a:Addr} {xs:List V},L2.Inv X pins σ H s->Sq X.K H a xs->∃its:List Value,Vals xs its/\Is s.heap a its.toArray
 inj:∀{X:Cx} {pins:List (Addr × Obj)} {σ:L2.St} {H:Hp} {s:Shared} {a:Addr} {xs ys:List V},L2.Inv X pins σ H s->Sq X.K H a xs->Sq X.K H a ys->xs=ys
 dr:∀{prog:Program} {w:World} {A:Around} (hh:A.handled=none) (it t:Addr) (hne:t≠it) (items:Array Value),Draws prog w A it [it,t] items.size (fun i v=>items[i]?=some v) (fun i h=>It h it t i/\Is h t items)
 drE:∀{prog:Program} {w:World} {A:Around} (hh:A.handled=none) (it t:Addr) (hne:t≠it) (items:Array Value) (k:Nat) (hk:items[k]?=none),Draws prog w A it [it,t] k (fun _ _=>True) (fun i h=>i=k/\It h it t i/\Is h t items)
def kL:SqK:=⟨SqL,fun h=>h.IsListIter,fun h=>h.IsList,fun x k=>x.at k,fun ⟨o,e,_,d⟩=>⟨o,e,fun v z=>by rw[d] at z;cases z⟩,fun ⟨_,e,_⟩=>p_ e,fun I q=>let ⟨its,r,p,_⟩:=I.list q;⟨its,r,p.isList⟩,fun I a b=>I.list_inj a b,Draws.list,JG⟩
def kT:SqK:=⟨SqT,fun h=>h.IsTupleIter,fun h=>h.IsTuple,fun x k=>x.at k,fun ⟨o,e,_,d⟩=>⟨o,e,fun v z=>by rw[d] at z;cases z⟩,fun ⟨_,e,_⟩=>p_ e,fun I q=>let ⟨its,r,p,_⟩:=I.tuple q;⟨its,r,p⟩,fun I a b=>I.tuple_inj a b,CQ,CV⟩
def QQ (e d:SqK) (K:Frag) (a b:Addr):It :=
 ⟨fun i H=>∃xs c x y,e.Sq K H a xs/\d.Sq K H b c/\xs[i]?=some x/\c[i]?=some y,
  fun i H v H'=>∃p x y,v=.ref p/\H p=none/\H'=upd H p (.tup [x,y])/\(∀xs,e.Sq K H a xs->xs[i]?=some x)/\∀c,d.Sq K H b c->c[i]?=some y,
  fun i H=>∃xs c,e.Sq K H a xs/\d.Sq K H b c/\(xs.length<=i\/c.length<=i)⟩
def Yi (c d:SqK) (a b z g e j f:Addr) (i:Nat) (h:Heap):Prop:=IsZip h z g e .none/\IsPair h g (.ref j) (.ref f)/\(∃u v,IsPair h e u v)/\c.It h j a i/\d.It h f b i
def zQ (g f:SqK) {K:Frag}{V:List Expr} (a b z p m j l:Addr) (M:a<j/\b<j) (l2:j<l) (l3:l<p) (l4:p<m) (l5:m<z):
  Turn P w K (.Tuple V x1 pos) (QQ g f K a b) [z,p,m,j,l] z (Yi g f a b z p m j l) where
 mem:=k_
 obj:=fun i h st c d=>by
  obtain⟨F,C,⟨u,v,L⟩,G,J⟩:=st
  simp only[u_,YB,ZV] at d
  rcases d with rfl | rfl | rfl | rfl | rfl
  ·
   exact⟨_,F,fun v z=>by cases z⟩
  ·
   exact⟨_,C,fun v z=>by cases z⟩
  ·
   exact⟨_,L,fun v z=>by cases z⟩
  ·
   exact g.itOb G
  ·
   exact f.itOb J
 keep:=fun i h h' st k=>by
  obtain⟨F,C,⟨u,v,L⟩,G,J⟩:=st
  exact⟨k z (by simp) _ F,k p (by simp) _ C,⟨u,v,k m (by simp) _ L⟩,g.itAt G fun o e=>k j (by simp) o e,f.itAt J fun o e=>k l (by simp) o e⟩
 item:=by
  intro X hP hw hK d i n s σ H E I U st hg
  subst hP hw hK
  obtain⟨xs,ys,x,y,qx,qy,ex,ey⟩:=hg
  obtain⟨B,rv,p1⟩:=g.seq I qx
  obtain⟨r,N,p2⟩:=f.seq I qy
  obtain⟨u,hu,ru⟩:=rv.get ex
  obtain⟨v,hv,rv'⟩:=N.get ey
  have F:=st.1
  have C:=st.2.1
  obtain⟨a0,b0,L⟩:=st.2.2.1
  have G:=st.2.2.2.1
  have J:=st.2.2.2.2
  have S:B.toArray[i]?=some u:=by simpa using hu
  have Z:r.toArray[i]?=some v:=by simpa using hv
  have D:ZAp z p m j l [j,a] [l,b]:=zap M l2 l3 l4 l5
  have d1:=g.dr (prog:=X.prog) (w:=X.w) (A:=X.A.in1) (I.ok.hd d) j a (I_ M.1) B.toArray
  have d2:=f.dr (prog:=X.prog) (w:=X.w) (A:=X.A.in1) (I.ok.hd d) l b (I_ (YL M.2 l2)) r.toArray
  refine Ji d1 d2 D F C L ⟨G,p1⟩ ⟨J,p2⟩ (Zv.mp S).1 (Zv.mp Z).1 fun Q O h' tk px py hz' hO' s1 s2 hT hsz kp=>?_
  have e1:Q=u:=O_ (px.symm.trans S)
  have e2:O=v:=O_ (py.symm.trans Z)
  subst e1 e2
  refine⟨_,rfl,wpAny_letOwnedTupleGo_zip hz' fun W hz2' sb=>?_⟩
  have kp2:∀c o,c∉[z,m,j,l]->s.heap.get? c=some o->W.get? c=some o:=fun c o nc e=>(sb.2 c fun q=>nc (q▸k_)).trans (kp c o nc e)
  have t:∀c∈[z,m,j,l],c∈[z,p,m,j,l]:=fun c d=>by simp only[u_,YB,ZV] at d ⊢;rcases d with q | q | q | q <;> simp [q]
  have R:∀{c o},s.heap.get? c=some o->s.heap.objs.size≠c:=fun e=>Yz (p_ e)
  have lt1:∀{c:Addr},c∈[z,p,m,j,l]->c≠s.heap.objs.size:=fun {c} d=>by
   simp only[u_,YB,ZV] at d
   rcases d with q | q | q | q | q <;> subst q
   ·
    exact Ne.symm (R F)
   ·
    exact Ne.symm (R C)
   ·
    exact Ne.symm (R L)
   ·
    obtain⟨o,e,_⟩:=g.itOb G;exact Ne.symm (R e)
   ·
    obtain⟨o,e,_⟩:=f.itOb J;exact Ne.symm (R e)
  have hTz:s.heap.objs.size≠z:=R F
  have I1:Inv X n σ (upd H s.heap.objs.size (.tup [x,y])) { s with heap:=s.heap.push { cls:=.type "tuple",data:=.seq #[Q,O]},toks:=tk} :=
   I.laid (t':=tk) (fun b o e=>b_ _ e) (l_ _) (show ObjOk X.prog X.w _ _ _ (.tup [x,y]) from ⟨by show 2<=sizeLine;decide,[Q,O],.cons ru (.cons rv' .nil),Tup0.new _ _⟩)
  have I2:Inv X n σ (upd H s.heap.objs.size (.tup [x,y])) { s with heap:=W,toks:=tk}:=iH (s:={ s with heap:=s.heap.push { cls:=.type "tuple",data:=.seq #[Q,O]},toks:=tk}) (ch:=[z,m,j,l]) (t':=tk) I1 (fun c o nc e=>by
   by_cases q:c=s.heap.objs.size
   ·
    subst q
    have T:(s.heap.push { cls:=.type "tuple",data:=.seq #[Q,O]}).get? s.heap.objs.size=some o:=e
    rw[o_ _ rfl] at T
    cases T
    exact (sb.2 _ hTz).trans hT
   ·
    have T:(s.heap.push { cls:=.type "tuple",data:=.seq #[Q,O]}).get? c=some o:=e
    rw[Heap.get?_push_ne _ _ _ q] at T
    exact kp2 c o nc T) fun c d=>⟨by rw[aL (lt1 (t c d))];exact (U c (t c d)).1,(U c (t c d)).2⟩
  refine⟨.ref s.heap.objs.size,_,I2,rfl,⟨s.heap.objs.size,x,y,rfl,I.hok.fresh (l_ _),rfl,fun zs hq=>by rw[g.inj I hq qx];exact ex,fun zs hq=>by rw[f.inj I hq qy];exact ey⟩,?_,fun c d=>by rw[aL (lt1 d)];exact (U c d).1⟩
  have n1:p≠z:=D.ne.1
  refine⟨hz2',?_,⟨Q,O,(sb.2 m D.ne.2.1).trans hO'⟩,g.itAt s1.1 fun o e=>(sb.2 j D.i1z).trans e,f.itAt s2.1 fun o e=>(sb.2 l D.i2z).trans e⟩
  refine kp2 p _ ?_ C
  simp only[u_,YB,ZV,not_or]
  exact⟨D.ne.1,D.ne.2.2.1,Ne.symm D.i1ti,Ne.symm D.i2ti⟩
 done:=by
  intro X hP hw hK d i n s σ H E I U st hg
  subst hP hw hK
  obtain⟨xs,ys,qx,qy,hg⟩:=hg
  obtain⟨B,rv,p1⟩:=g.seq I qx
  obtain⟨r,N,p2⟩:=f.seq I qy
  have F:=st.1
  have C:=st.2.1
  obtain⟨a0,b0,L⟩:=st.2.2.1
  have G:=st.2.2.2.1
  have J:=st.2.2.2.2
  have n1:=rv.length
  have n2:=N.length
  have D:ZAp z p m j l [j,a] [l,b]:=zap M l2 l3 l4 l5
  have Y:∀(h':Heap) (tk:Nat),(∀c o,c∉[z,m,j,l]->s.heap.get? c=some o->h'.get? c=some o)->(none:Option Value)=none/\Inv X n σ H { s with heap:=h',toks:=tk}:=fun h' tk kp=>⟨rfl,iH I kp fun c d=>U c (by
   simp only[u_,YB,ZV] at d ⊢;rcases d with q | q | q | q <;> simp [q])⟩
  have d1:=g.dr (prog:=X.prog) (w:=X.w) (A:=X.A.in1) (I.ok.hd d) j a (I_ M.1) B.toArray
  have d2:=f.dr (prog:=X.prog) (w:=X.w) (A:=X.A.in1) (I.ok.hd d) l b (I_ (YL M.2 l2)) r.toArray
  by_cases hi:xs.length<=i
  ·
   have e1:=g.drE (prog:=X.prog) (w:=X.w) (A:=X.A.in1) (I.ok.hd d) j a (I_ M.1) B.toArray i (by simp;omega)
   exact CT (k:=i) e1 d2 D F C L ⟨rfl,G,p1⟩ ⟨J,p2⟩ (.inl rfl) Y
  ·
   have hy:ys.length<=i:=hg.resolve_left hi
   have e2:=f.drE (prog:=X.prog) (w:=X.w) (A:=X.A.in1) (I.ok.hd d) l b (I_ (YL M.2 l2)) r.toArray i (by simp;omega)
   exact CT (k:=i) d1 e2 D F C L ⟨G,p1⟩ ⟨rfl,J,p2⟩ (.inr ⟨by simp;omega,rfl⟩) Y
 self:=fun _ _ _ _ _ st h=>wpAny_pyIter_zip st.1 h
abbrev Ej (t:Addr):Obj:={ cls:=.type "list_iterator",data:=.fields #[.ref t,.int 0 0]}
def wA (a b:Addr) (xs n:Array Value) :
  Meets (Builtin.«zip.__new__» ⟨[.type "zip",.ref a,.ref b],[]⟩) (fun _ R s=>s.heap.IsTuple a xs/\s.heap.IsList b n/\∀l k f c,l=s.heap.push (Ma a)->k=l.push (Ej b)->f=k.push { cls:=.type "tuple",data:=.seq #[.ref s.heap.objs.size,.ref l.objs.size]}->c=f.push { cls:=.type "tuple",data:=.seq #[.none,.none]} ->
   R (.ok (.ret (.ref c.objs.size))) { s with heap:=c.push { cls:=.type "zip",data:=.fields #[.none,.bool false,.bool false,.ref k.objs.size,.ref f.objs.size]}}) :=
 .of_wp fun prog w A R s h=>by
  obtain⟨o,g,d,tk,p⟩:=s;obtain⟨m,e,h⟩:=h;have q:=sub_zip;have j:Heap.IsTuple (Shared.heap ⟨o,g,d,tk,p⟩) a xs:=m;have i:Heap.IsList (Shared.heap ⟨o.push { cls:=.type "tuple_iterator",data:=.fields #[.ref a,.int 0 0]},g,d,tk,p⟩) b n:=Heap.IsList.push e _
  wp_walk using aaF j,wpAny_pyIter_list i
  exact⟨_,rfl,h _ _ _ _ rfl rfl rfl rfl⟩
section
variable {s:Shared}
def zR (m:s.heap.IsTuple f xs) (j:s.heap.IsList e v) (h:∀h' i1 i2 ti to z,IsZip h' z ti to .none->IsPair h' ti (.ref i1) (.ref i2)->IsPair h' to .none .none->h'.IsTupleIter i1 f 0->h'.IsListIter i2 e 0 ->
   s.heap.objs.size<=i1->i1<i2->i2<ti->ti<to->to<z->(∀c o,s.heap.get? c=some o->h'.get? c=some o)->Q (.ref z) { s with heap:=h'}):
  wpAny (model prog w) A (call (.type "zip") [.ref f,.ref e]) Q E s:=by
 refine callType_new F.called_zip (by decide) (F.typeCall_zip_2 _ _) (F.newCall_zip_2 _ _) (fun t=>F.args_object_init_3 t _ _) F.entry_zip_new
  (wA f e xs v) ⟨m,j,fun d a b g r u n k=>?_⟩
 have p:∀(h:Heap) (o:Obj),h.objs.size<(h.push o).objs.size:=fun h o=>by rw[Y_];exact Zg _
 have y:=o_ g (o:={ cls:=.type "zip",data:=.fields #[.none,.bool false,.bool false,.ref a.objs.size,.ref b.objs.size]}) rfl;have H:g.get? b.objs.size=some { cls:=.type "tuple",data:=.seq #[.none,.none]}:=by rw[k];exact o_ _ rfl
 have G:b.get? a.objs.size=some { cls:=.type "tuple",data:=.seq #[.ref s.heap.objs.size,.ref d.objs.size]}:=by rw[n];exact o_ _ rfl
 have B:a.get? d.objs.size=some (Ej e):=by rw[u];exact o_ _ rfl
 have C:d.get? s.heap.objs.size=some (Ma f):=by rw[r];exact o_ _ rfl
 have D:∀c o,s.heap.get? c=some o->d.get? c=some o:=fun c o q=>by rw[r];exact b_ _ q
 have x:∀c o,d.get? c=some o->a.get? c=some o:=fun c o q=>by rw[u];exact b_ _ q
 have l:∀c o,a.get? c=some o->b.get? c=some o:=fun c o q=>by rw[n];exact b_ _ q
 have i:∀c o,b.get? c=some o->g.get? c=some o:=fun c o q=>by rw[k];exact b_ _ q
 refine⟨⟨_,y,rfl⟩,h _ s.heap.objs.size d.objs.size a.objs.size b.objs.size g.objs.size y (b_ _ (i _ _ G)) (b_ _ H) ⟨_,b_ _ (i _ _ (l _ _ (x _ _ C))),rfl,rfl⟩ ⟨_,b_ _ (i _ _ (l _ _ B)),rfl,rfl⟩
  (l_ _) ?_ ?_ ?_ ?_ fun c o q=>b_ _ (i _ _ (l _ _ (x _ _ (D _ _ q))))⟩
 ·rw[r];exact p _ _
 ·rw[u];exact p _ _
 ·rw[n];exact p _ _
 rw[k];exact p _ _
end
def Ek (a b:SqK) (prog:Program) (w:World):Prop:=∀(A:Around) (E:Value->Shared->Prop) (s:Shared) (t1 t2:Addr) (xs ys:Array Value) (Q:Value->Shared->Prop),a.Is s.heap t1 xs->b.Is s.heap t2 ys ->
 (∀h' g e f d z,IsZip h' z f d .none->IsPair h' f (.ref g) (.ref e)->IsPair h' d .none .none->a.It h' g t1 0->b.It h' e t2 0->s.heap.objs.size<=g->g<e->e<f->f<d->d<z->(∀c o,s.heap.get? c=some o->h'.get? c=some o)->Q (.ref z) { s with heap:=h'}) ->
 wpAny (model prog w) A (call (.type "zip") [.ref t1,.ref t2]) Q E s
def zcL:Ek kL kL prog w:=fun _ _ _ _ _ _ _ _ p1 b h=>call_zip_2 p1 b fun h' a g f d e _ c=>h h' _ _ _ _ _ a g f d e (l_ _) (Zg _) (Zg _) (Zg _) (Zg _) c
section
variable {X:Cx}{elts:List Expr}{x1:Nat}{tpos pos p:Pos}
def VP (c d:SqK) (K:Frag) (t:TA):TI:=fun g H R=>t g H fun vs e=>∃a b,vs=[.ref a,.ref b]/\(∃xs,c.Sq K e a xs)/\(∃f,d.Sq K e b f)/\R (QQ c d K a b) e
def yj (O:Ek d f X.prog X.w) (S:Gl X "zip") (hm:X.mg "zip"=none) (B:bootBuiltins "zip"=some (.type "zip")) (U:PA X [ea,eb] t) (W:starEach [ea,eb] X.env=[(false,eval ea X.env),(false,eval eb X.env)]:=by rfl) (j:starEach [eb] X.env=[(false,eval eb X.env)]:=by rfl):
  PI X (.Tuple elts x1 tpos) (.Call (.Name "zip" p) [ea,eb] [] pos) (VP d f X.K t):=by
 intro g s Z H R I h;refine Call_ (fU I S hm B (YS (thn (U pos g s Z H _ I h) fun us M ⟨vs,v,i,G,N⟩=>?_) (by rw[W,j]) (by rw[j];rfl)));obtain⟨a,b,e,⟨xs,P⟩,⟨ys,sb⟩,q⟩:=N;subst e;cases G with
 |cons r n =>
 cases n with
 |cons L n =>
 cases n;cases r;cases L;obtain⟨Q,rv,p1⟩:=d.seq i P;obtain⟨jts,rw',y⟩:=f.seq i sb;refine O _ _ _ _ _ _ _ _ p1 y fun h' m x o u z A E hO Y D k l1 F T J V=>wpAny_pyIter_zip A ?_;have C:∀c,m<=c->lY X g v c:=fun c l=>i.fpOk (Q_ k l) (i.hok.fresh (Q_ k l));refine⟨z,[z,o,u,m,x],_,_,v,rfl,i.kept (t':=M.toks) V,zQ d f a b z o u m x ⟨K_ (d.lt p1) k,K_ (f.lt y) k⟩ l1 F T J,⟨A,E,⟨_,_,hO⟩,Y,D⟩,fun c l=>C c ?_,q⟩;simp only[u_,YB,ZV] at l;simp only[Addr] at *;omega
def pA {K:Frag} (L:∀H' c,TupLe K H H'->SimH K c H'->S c->(∃xs,f.Sq K H' a xs/\Reps K H' ts xs)/\∃d,h.Sq K H' b d/\Reps K H' us d):jt K (QQ f h K a b) (gF ts us) S H:=fun H' c A q st=>by
 obtain⟨⟨xs,k,r⟩,d,o,u⟩:=L H' c A q st;have w:=r.length;have I:=u.length;refine⟨fun i J=>⟨xs,d,k,o,by rw[sU] at J;omega⟩,fun i t e=>?_⟩;rw[sS] at e;cases j:ts[i]? with
 |none=>rw[j] at e;cases e
 |some x =>
 cases n:us[i]? with
 |none=>rw[j,n] at e;cases e
 |some y =>
 rw[j,n] at e;cases e;obtain⟨v,s,G⟩:=r.get j;obtain⟨F,g,m⟩:=u.get n;refine⟨⟨xs,d,v,F,k,o,s,g⟩,fun z B E=>?_⟩;obtain⟨p,M,N,rfl,l,rfl,C,D⟩:=E;have:=(C xs k).symm.trans s;cases this;have:=(D d o).symm.trans g;cases this;exact⟨aO l,q.new l,SimH.newTup (H3:=c) l (.cons G (.cons m .nil))⟩
def zlO (o u:Option O3) (a b:Addr) (H:Hp3) (R:List T->(Hp3->Prop)->Hp3->Prop):Prop:=match o,u with
 |some (.lst xs),some (.lst ys)=>R (gF xs ys) (fun H'=>bF a xs H'/\bF b ys H') H
 |_,_=>False
def El (d:TA3):TI3:=fun e H R=>d e H fun vs c=>match vs with
 |[.ref a,.ref b]=>zlO (c a) (c b) a b c R
 |_=>False
def JH (t:Gl X "zip") (B:X.mg "zip"=none) (u:PA3 X [ea,eb] j) (A:starEach [ea,eb] X.env=[(false,eval ea X.env),(false,eval eb X.env)]:=by rfl) (i:starEach [eb] X.env=[(false,eval eb X.env)]:=by rfl):
  PI3 X (.Tuple elts x1 tpos) (.Call (.Name "zip" p) [ea,eb] [] pos) (El j):=by
 refine PI.imp (yj zcL t B CW u A i) ?_;rintro I H R ⟨g,H3,R3,x,l,h,k⟩;refine⟨g,H3,_,x,l,h,fun vs H' ts c m d r q=>?_⟩
 match ts,q,r with
 |[.ref a,.ref b],q,r =>
  have f:(match c a,c b with
   |some (.lst xs),some (.lst e)=>R3 (gF xs e) (fun H'=>bF a xs H'/\bF b e H') c
   |_,_=>False):=q
  obtain⟨v,w,rfl,n,C⟩:=r.two'
  split at f
  ·
   rename_i xs e D E
   obtain⟨us,o,G⟩:=d.sqL (.inl D)
   obtain⟨y,F,J⟩:=d.sqL (.inl E)
   exact⟨a,b,by rw[n.ref,C.ref],⟨_,o⟩,⟨_,F⟩,k _ _ _ H' c m d (pA fun _ _ _ s z=>⟨s.sqL z.1,s.sqL z.2⟩) f⟩
  ·
   exact f.elim
def JK (d:TA3) {e:St3}{H:Hp3}{R:List T->(Hp3->Prop)->Hp3->Prop}:El d e H R=d e H fun vs c=>match vs with
 |[.ref a,.ref b]=>zlO (c a) (c b) a b c R
 |_=>False:=rfl
def VR (xs c:List T) (a b:Addr) (H:Hp3) (R:List T->(Hp3->Prop)->Hp3->Prop):zlO (some (.lst xs)) (some (.lst c)) a b H R=R (gF xs c) (fun H'=>bF a xs H'/\bF b c H') H:=rfl
end
def zcM:Ek kT kL prog w:=fun _ _ _ _ _ _ _ _ p1 a h=>zR p1 a h
section
variable {elts:List Expr}{x1:Nat}{tpos pos p:Pos}
def zmO (xs:List T) (u:Option O3) (b:Addr) (H:Hp3) (R:List T->(Hp3->Prop)->Hp3->Prop):Prop:=match u with
 |some (.lst ys)=>R (gF xs ys) (bF b ys) H
 |_=>False
def Em (c:TA3):TI3:=fun d H R=>c d H fun vs a=>match vs with
 |[.tup xs,.ref b]=>zmO xs (a b) b a R
 |_=>False
def JL (u:Gl X "zip") (D:X.mg "zip"=none) (x:PA3 X [ea,eb] m) (C:starEach [ea,eb] X.env=[(false,eval ea X.env),(false,eval eb X.env)]:=by rfl) (i:starEach [eb] X.env=[(false,eval eb X.env)]:=by rfl):
  PI3 X (.Tuple elts x1 tpos) (.Call (.Name "zip" p) [ea,eb] [] pos) (Em m):=by
 refine PI.imp (yj zcM u D CW x C i) ?_;rintro I H R ⟨g,H3,R3,A,n,h,k⟩;refine⟨g,H3,_,A,n,h,fun vs H' ts c o d r q=>?_⟩
 match ts,q,r with
 |[.tup xs,.ref b],q,r =>
  have f:(match c b with
   |some (.lst e)=>R3 (gF xs e) (bF b e) c
   |_=>False):=q
  obtain⟨v,w,rfl,t,E⟩:=r.two'
  obtain⟨a,us,rfl,j,y⟩:=t.tup
  split at f
  ·
   rename_i e F
   obtain⟨B,G,J⟩:=d.sqL (.inl F)
   exact⟨a,b,by rw[E.ref],⟨_,j⟩,⟨_,G⟩,k _ _ _ H' c o d (pA fun _ _ l s z=>⟨⟨_,l _ _ j,y.mono l⟩,s.sqL z⟩) f⟩
  ·
   exact f.elim
def JM (c:TA3) {d:St3}{H:Hp3}{R:List T->(Hp3->Prop)->Hp3->Prop}:Em c d H R=c d H fun vs a=>match vs with
 |[.tup xs,.ref b]=>zmO xs (a b) b a R
 |_=>False:=rfl
def V0 (xs a:List T) (b:Addr) (H:Hp3) (R:List T->(Hp3->Prop)->Hp3->Prop):zmO xs (some (.lst a)) b H R=R (gF xs a) (bF b a) H:=rfl
end
end L3
namespace L2
open PySem
section
variable {os:OsState}
variable {dd:Option Addr}
abbrev tU (h:Heap) (C:Addr) (us:List Value):Heap:=(h.push { cls:=.type "tuple",data:=.seq us.toArray}).push { cls:=.ref C,data:=.fields #[.ref h.objs.size,.none,.none,.none,.bool false,.none]}
def wB (k:ExcBaseFacts Bn newId inN bmN) (c:bmB.contains (.type Bn)=true) (F:ExcBaseFacts B nid initId bmB) (T:OwnTail h bmB bm) (a:h.get? C=some (excClassObj nm q C N bs bm hdct sn sub ab col dd k0 k1 k2 k3 k5 newId)) (D:h.Ns N l) (G:l "__init__"=some (.ref j)) (n:h.get? j=some m) (z:m.cls=.type "function") (u:us.length<=sizeLine) (s:wpAny (model prog w) A (call (.ref j) (.ref (h.objs.size+1)::us)) (fun r s'=>r=.none/\Q (.done (.ret (.ref (h.objs.size+1)))) s') E ⟨tU h C us,g,d,t,os⟩):
  wpAny (model prog w) A (Builtin.«type.__call__» ⟨.ref C::us,[]⟩) Q E ⟨h,g,d,t,os⟩:=by
 have f:∀b o,h.get? b=some o->(tU h C us).get? b=some o:=fun b o e=>b_ _ (b_ _ e);have v:(tU h C us).get? (h.objs.size+1)=some { cls:=.ref C,data:=.fields #[.ref h.objs.size,.none,.none,.none,.bool false,.none]}:=by have:=o_ (h.push { cls:=.type "tuple",data:=.seq us.toArray}) (o:={ cls:=.ref C,data:=.fields #[.ref h.objs.size,.none,.none,.none,.bool false,.none]}) rfl;rw[Y_] at this;exact this
 have i:(Value.ref C::bm).contains (.ref C)=true:=by simp
 repeat (first | (with_reducible refine Zo a ?_) | (with_reducible refine wpAny_madeBy_exc a ?_) | wp_step)
 refine codeAny_call_builtin_code (aak _ k.quiet) (wpAny_check_new_subU k c T a (codeAny_exc_new_subU k c F T a ?_ u));show wpAny _ _ _ _ _ _;unfold isInstance;repeat (first | (with_reducible refine Zo v ?_) | (with_reducible refine wpAny_isSubtype_exc (f _ _ a) ?_;rw[i]) | wp_step)
 show wpAny _ _ (typeLookup (.ref C) _) _ _ _;refine wpAny_typeLookup_tail (f _ _ a) (D.keeps f) (T.keeps f) F.mroIs F.init.lookup ?_;rw[G];refine Zw (a_ ?_);unfold bindSpecial;refine a_ (wpAny_typeOf (T:="function") ⟨_,f _ _ n,z⟩ ?_);rw[if_pos (by decide)];refine n_ (a_ (Y5 s (fun r s' p=>?_) fun _ _ x=>x));obtain⟨rfl,y⟩:=p
 wp_walk
 exact y
def En (n:ExcBaseFacts Bn newId inN bmN) (b:bmB.contains (.type Bn)=true) (F:ExcBaseFacts B nid initId bmB) (T:OwnTail h bmB bm) (a:h.get? C=some (excClassObj nm q C N bs bm hdct sn sub ab col dd k0 k1 k2 k3 k5 newId)) (l:h.Ns N e) (m:e "__init__"=some (.ref c)) (i:h.get? c=some f) (k:f.cls=.type "function") (j:us.length<=sizeLine) (o:wpAny (model prog w) (A.under (.builtin "type.__call__" ⟨.ref C::us,[]⟩)) (call (.ref c) (.ref (h.objs.size+1)::us)) (fun r s'=>r=.none/\Q (.ref (h.objs.size+1)) s') E ⟨tU h C us,g,d,t,os⟩):
  wpAny (model prog w) A (call (.ref C) us) Q E ⟨h,g,d,t,os⟩:=by
 have p:=tc_lookup;have u:=tc_bind (.ref C);have s:(⟨h,g,d,t,os⟩:Shared).TypeIs (.ref C) "type":=⟨_,a,rfl⟩;refine aa1 (codeAny_of_tree ?_);show wpAny _ _ (callAny (.ref C) _) _ _ _;repeat (any_goals (first | assumption | (with_reducible refine Zo a ?_) | wp_step))
 refine⟨rfl,codeAny_call_builtin_at (aak _ (by decide +kernel)) entry_typeCall (wpAny_check_type_call_sub a (wB n b F T a l m i k j o))⟩
end
def tV (h:Heap) (a:Addr) (f:Obj->Obj):(h.update a f).objs.size=h.objs.size:=Heap.size_after_update ..
abbrev fra (l : List Env) : List Addr:=l.filterMap (·.frame)
def Ntd (h:Heap) (S:Addr->Prop) (e:Addr) (b:Value) (a:Option Addr) (d:Value):Prop :=
 ∃vs c T oT ts,h.get? e=some ⟨b,a,.fields vs,c⟩/\vs[1]?=some (.ref T)/\¬S T/\T≠e/\h.get? T=some oT/\oT.data=.fields ts/\ts[3]?=some d
def Rsd (h:Heap) (e:Addr) (a:Value) (b:Option Addr):Prop:=∃vs c,h.get? e=some ⟨a,b,.fields vs,c⟩/\vs[1]?=some .none
structure Kpx (fs:List Addr) (e:Addr) (S:Addr->Prop) (h h':Heap):Prop where
 sz:h.objs.size<=h'.objs.size
 ex:∃xs:List Addr,(∀b∈xs,¬S b)/\∀b o,h.get? b=some o->b∉fs->b≠e->b∉xs->h'.get? b=some o
 slot:∀b o,h.get? b=some o->b∈fs->∃sl,h'.get? b=some { o with slots:=sl}
 up:∀b o,h.get? b=some o->(∀vs,o.data≠.fields vs)->∃sl,h'.get? b=some { o with slots:=sl}
def Kpx.keep (x:Kpx fs e S h h') (b:Addr) (o:Obj) (d:h.get? b=some o) (f:S b) (c:b∉fs) (g:b≠e):h'.get? b=some o :=
 let ⟨_,a,k⟩:=x.ex;k b o d c g fun m=>a b m f
def Kpx.trans (x:Kpx fs e S h j) (y:Kpx fs e S j l):Kpx fs e S h l:=by
 obtain⟨xs,a,k⟩:=x.ex;obtain⟨q,p,r⟩:=y.ex;exact⟨Q_ x.sz y.sz,⟨xs++q,fun b m=>(v_.mp m).elim (a b) (p b),fun b o c f i g=>r b o (k b o c f i fun m=>g (T_ _ m)) f i fun m=>g (U_ _ m)⟩,
  fun b o c d=>let ⟨_,e1⟩:=x.slot b o c d;let ⟨sl,e2⟩:=y.slot b _ e1 d;⟨sl,e2⟩,
  fun b o c n=>let ⟨_,e1⟩:=x.up b o c n;let ⟨sl,e2⟩:=y.up b _ e1 n;⟨sl,e2⟩⟩
def Kpx.fr (x:Kpx fs e S h h') (a:h.FunFrames base l):h'.FunFrames base l:=a.of_keeps fun b o c d=>let ⟨_,q⟩:=x.up b o c d;⟨_,q,rfl⟩
section
variable {M:Model}{A:Around}{S:Addr->Prop}{cls:Value}{dct:Option Addr}
def ym (p:A.frames=some (env::outer)) (C:s.heap.FunFrames base (env::outer)) (G:env.frame=some L) (r:s.heap.get? e=some ⟨cls,dct,.fields vs,n⟩) (D:1<vs.size) (u:∀b,S b->b<s.heap.objs.size) (h:∀h' fl,fl=rawInt L->Ntd h' S e cls dct fl->Kpx (fra (env::outer)) e S s.heap h'->Q () { s with heap:=h'}):
  wpAny M A (do let a <- frameOf env;let pl <- entryPlaceOf L c;let b <- EntryCells.newEntry d a .none (rawInt L) .none pl;setField (.ref e) 1 b) Q E s:=by
 have F:e∉fra (env::outer):=fun m=>by obtain⟨_,o,y,I⟩:=C.mem m;rw[r] at y;cases y;exact I vs rfl
 refine a_ (wpAny_frameOf_fun p C G fun l q=>?_);refine a_ (wpAny_entryPlaceOf fun pl k=>?_);unfold EntryCells.newEntry newFields;refine a_ (ZS ?_ (k.sizeOk5 _ _ _ _ _));generalize v:([d,.ref L,.none,rawInt L,.none]++(if pl.isEmpty then List.replicate 6 Value.none else pl)).toArray=ts;have w:l.get? e=some ⟨cls,dct,.fields vs,n⟩:=(q.2.1 e F).trans r;have B:l.objs.size≠e:=Yz (p_ w);refine wpAny_setField (b_ _ w) rfl D (h _ _ rfl ?_ ⟨by rw[tV,Y_,q.1];exact Z6 _,⟨[],(fun _ m=>nomatch m),fun b o f J j _=>?_⟩,fun b o f H=>?_,fun b o f x=>?_⟩)
 ·refine⟨vs.setIfInBounds 1 (.ref l.objs.size),n,l.objs.size,_,ts,ZC _ (b_ _ w) rfl,by simp [D],?_,B,(YJ _ _ (Ne.symm B)).trans (o_ l rfl),rfl,?_⟩
  ·intro g;have:=u _ g;rw[q.1] at this;exact absurd this (YM _)
  rw[<- v];first | (simp;done) | (rcases k with rfl | ⟨_,_,_,_,_,_,_,rfl⟩ <;> simp)
 ·exact (YJ _ _ (Ne.symm j)).trans (b_ _ ((q.2.1 b J).trans f))
 ·obtain⟨i,t⟩:=q.2.2 b o f;have j:b≠e:=fun z=>F (z▸H);exact⟨i,(YJ _ _ (Ne.symm j)).trans (b_ _ t)⟩
 obtain⟨i,t⟩:=q.2.2 b o f;have j:b≠e:=fun z=>by subst z;rw[r] at f;cases f;exact x vs rfl
 exact⟨i,(YJ _ _ (Ne.symm j)).trans (b_ _ t)⟩
def V1 (r:s.heap.get? e=some ⟨cls,dct,.fields vs,i⟩) (C:vs[1]?=some (.ref T)) (d:¬S T) (c:T≠e) (j:s.heap.get? T=some oT) (k:oT.data=.fields ts) (B:ts[3]?=some u) (n:∀b∈fs,∃o,s.heap.get? b=some o/\∀vs,o.data≠.fields vs) (h:∀h',h'.get? e=some ⟨cls,dct,.fields vs,i⟩->Ntd h' S e cls dct x->Kpx fs e S s.heap h'->Q () { s with heap:=h'}):wpAny M A (setField (.ref T) 3 x) Q E s:=by
 have f:∀b,b≠T->(s.heap.update T (Obj.mapFields (·.setIfInBounds 3 x))).get? b=s.heap.get? b:=fun b a=>YJ _ _ (Ne.symm a);have p:=(Zv.mp B).1;have q:=Obj.data_mapFields k (·.setIfInBounds 3 x);have t:∀b o,s.heap.get? b=some o->(∀vs,o.data≠.fields vs)->b≠T:=fun b o a g z=>by subst z;rw[j] at a;cases a;exact g ts k
 refine wpAny_setField j k p (h _ ((f e (Ne.symm c)).trans r) ⟨vs,i,T,_,_,(f e (Ne.symm c)).trans r,C,d,c,ZC _ j (Obj.isFreed_of_fields q),q,by simp [p]⟩ ⟨by rw[tV];exact l_ _,⟨[T],fun b m=>by rw[i_.mp m];exact d,fun b o a _ _ y=>(f b fun z=>y (i_.mpr z)).trans a⟩,fun b o a w=>⟨o.slots,(f b ?_).trans a⟩,fun b o a g=>⟨o.slots,(f b (t b o a g)).trans a⟩⟩);obtain⟨v,l,g⟩:=n b w;exact t b v l g
def Eo (k:Ntd s.heap S e cls dct p) (a:∀b∈fs,∃o,s.heap.get? b=some o/\∀vs,o.data≠.fields vs) (h:∀h',Ntd h' S e cls dct .none->Kpx fs e S s.heap h'->Q () { s with heap:=h'}):wpAny M A (setFlight (.ref e) none) Q E s:=by
 obtain⟨vs,q,T,oT,ts,g,i,d,c,l,n,j⟩:=k;unfold setFlight;refine a_ (YT g rfl i ?_);rw[if_pos (show (Value.ref T != Value.none)=true from by simp)];exact V1 g i d c l n j a fun h' _ f m=>h h' f m
def note (i:A.frames=some (env::outer)) (u:s.heap.FunFrames base (env::outer)) (p:env.frame=some L) (B:Rsd s.heap e cls dct\/Ntd s.heap S e cls dct .none\/Ntd s.heap S e cls dct (rawInt L)) (n:∀b,S b->b<s.heap.objs.size) (h:∀h',Ntd h' S e cls dct (rawInt L)->Kpx (fra (env::outer)) e S s.heap h'->Q () { s with heap:=h'}):wpAny M A (noteFrame (.ref e) env) Q E s:=by
 have y:∀b∈fra (env::outer),∃o,s.heap.get? b=some o/\∀vs,o.data≠.fields vs:=fun b F=>(u.mem F).2;unfold noteFrame;simp only[p];rcases B with ⟨vs,r,c,a⟩ | ⟨vs,r,T,oT,ts,c,a,d,f,j,k,l⟩ | ⟨vs,r,T,oT,ts,c,a,d,f,j,k,l⟩
 ·refine a_ (YT c rfl a ?_);rw[if_neg (by decide)];exact ym i u p c (Zv.mp a).1 n fun h' C z w g=>h h' (z▸w) g
 ·refine a_ (YT c rfl a ?_);rw[if_pos (show (Value.ref T != Value.none)=true from by simp)];refine a_ (YT j k l ?_);rw[if_neg (show ¬((Value.none==rawInt L)=true) from by simp [rawInt])];refine a_ (V1 (x:=.none) c a d f j k l y fun G v _ g=>?_);refine ym i (g.fr u) p v (Zv.mp a).1 (fun b D=>K_ (n b D) g.sz) fun h' C z w t=>h h' (z▸w) (g.trans t)
 refine a_ (YT c rfl a ?_);rw[if_pos (show (Value.ref T != Value.none)=true from by simp)];refine a_ (YT j k l ?_);rw[if_pos (show (rawInt L==rawInt L)=true from by first | (simp;done) | exact beq_self_eq_true _)];exact n_ (h _ ⟨vs,r,T,oT,ts,c,a,d,f,j,k,l⟩ ⟨l_ _,⟨[],(fun _ m=>nomatch m),fun _ _ q _ _ _=>q⟩,fun _ o q _=>⟨o.slots,q⟩,fun _ o q _=>⟨o.slots,q⟩⟩)
def leaves (a:A.frames=some (env::outer)) (i:s.heap.FunFrames base (env::outer)) (j:env.frame=some L) (l:Rsd s.heap e cls dct\/Ntd s.heap S e cls dct .none\/Ntd s.heap S e cls dct (rawInt L)) (d:∀b,S b->b<s.heap.objs.size) (h:∀h',Ntd h' S e cls dct .none->Kpx (fra (env::outer)) e S s.heap h'->Q () { s with heap:=h'}):wpAny M A (leaving env (.ref e)) Q E s:=by
 unfold leaving;refine a_ (note a i j l d fun o n g=>?_);refine Eo n (fun b k=>?_) fun m f c=>h m f (g.trans c);exact ((g.fr i).mem k).2
end
abbrev Std (s:Shared) (H:Hp):Addr->Prop:=fun b=>b<s.heap.objs.size\/∃u,H b=some u
def CX1 (P:Program) (w:World):CXT:=fun outer H s E e s'=>∃(a C:Addr) (b:Option Addr) (H':Hp),e=.ref a/\s'.os=s.os/\AllBare s'.gens/\Un (frs outer) [] H H' s.heap s'.heap/\HOk P w H' s'.heap/\s.heap.objs.size<=a/\H' a=none /\
 Ntd s'.heap (Std s H') a (.ref C) b .none/\E (.ref C) b H'
def SX (X:Cx) (a:List (Addr × Obj)) (H:Hp):Addr->Prop:=fun b=>Std X.s₀ H b\/(∃p∈X.pn++a,p.1=b)\/(∃x,X.env.cells.lookup x=some b)\/b=X.env.locals
structure Fly (X:Cx) (pins:List (Addr × Obj)) (σ:St) (H:Hp) (s:Shared) (ea C:Addr) (dx:Option Addr):Prop where
 inv:Inv X pins σ H s
 new:X.s₀.heap.objs.size<=ea/\ea≠X.env.locals/\(∀x c,X.env.cells.lookup x=some c->c≠ea)/\∀p∈X.pn++pins,p.1≠ea
 free:H ea=none
 fly:Rsd s.heap ea (.ref C) dx\/Ntd s.heap (SX X pins H) ea (.ref C) dx .none
def Ntd.mono (x:Ntd h S e a c d) (k:∀b,f b->S b):Ntd h f e a c d:=by
 obtain⟨vs,l,T,oT,ts,i,j,g,r⟩:=x;exact⟨vs,l,T,oT,ts,i,j,fun z=>g (k _ z),r⟩
section
variable {X:Cx}{pins:List (Addr × Obj)}{σ:St}
def Inv.cellAt (I:Inv X pins σ H s) (h:X.env.cells.lookup x=some c):∃u,s.heap.get? c=some u:=by
 obtain⟨v,o,e,_⟩:=I.cell x c h;exact⟨o,e⟩
def Inv.sx (I:Inv X pins σ H s) (h:SX X pins H b):b<s.heap.objs.size:=by
 rcases h with (h | ⟨u,a⟩) | ⟨p,c,rfl⟩ | ⟨x,d⟩ | rfl
 ·exact K_ h I.sz
 ·exact (I.hok b u a).lt
 ·exact p_ (I.pin p c).1
 ·obtain⟨u,a⟩:=I.cellAt d;exact p_ a
 exact I.lt
def Inv.newer (I:Inv X pins σ H s) {a:Addr}(h:s.heap.objs.size<=a):X.s₀.heap.objs.size<=a/\a≠X.env.locals/\(∀x c,X.env.cells.lookup x=some c->c≠a)/\∀p∈X.pn++pins,p.1≠a:=by
 have d:∀b,b<s.heap.objs.size->b≠a:=fun b e z=>by rw[z] at e;exact absurd e (Nat.not_lt_of_le h)
 exact⟨Q_ I.sz h,Ne.symm (d _ I.lt),fun x c g=>d c (let ⟨_,hu⟩:=I.cellAt g;p_ hu),fun p f=>d _ (p_ (I.pin p f).1)⟩
def QR (I:Inv X pins σ H s) (h:CX1 X.prog X.w X.stack H s E e s'):∃g C f H',e=.ref g/\Fly X pins σ H' s' g C f/\E (.ref C) f H':=by
 obtain⟨g,C,f,H',rfl,r,c,q,i,j,a,k,m⟩:=h;refine⟨g,C,f,H',rfl,⟨I.call' r q i c (fun b z=>absurd z (by simp)),I.newer j,a,.inr (k.mono fun b d=>?_)⟩,m⟩;rcases d with (d | d) | ⟨p,o,rfl⟩ | ⟨x,n⟩ | rfl
 ·exact .inl (K_ d I.sz)
 ·exact .inr d
 ·exact .inl (p_ (I.pin p o).1)
 ·obtain⟨u,l⟩:=I.cellAt n;exact .inl (p_ l)
 exact .inl I.lt
def Kpx.hok (k:Kpx fs ea S h h') (i:∀b u,H b=some u->S b) (f:∀b∈fs,H b=none) (g:H ea=none) (x:HOk P w H h):HOk P w H h':=fun b u e=>by
 refine (x b u e).stay (fun c v l q=>?_) (fun _ q=>q) fun _ _ q=>q;have d:∃u,H c=some u:=by
  rcases l with z | z
  ·exact⟨u,z▸e⟩
  exact⟨_,z⟩
 obtain⟨j,a⟩:=d;exact k.keep c v q (i c j a) (fun z=>by rw[f c z] at a;cases a) fun z=>by rw[z,g] at a;cases a
def JN (F:Fly X pins σ H s ea C dx) (K:X.ex=[]) (D:X.stack=X.env::X.outer) (y:X.env.frame=some X.env.locals) (O:E (.ref C) dx H):
  wpAny (model X.prog X.w) X.A (leaving X.env (.ref ea)) (fun _ s'=>CX1 X.prog X.w X.outer X.H₀ X.s₀ E (.ref ea) s') M s:=by
 obtain ⟨I,j,d,x⟩:=F;have G:=I.stack;have f:=I.ok.frames;rw [D] at G f;have a : fra (X.env :: X.outer) = X.env.locals :: frs X.outer:=by show List.filterMap _ (X.env :: X.outer) = _;rw [aax,y];rfl
 refine leaves (base:=X.base) (S:=SX X pins H) f G y (by rcases x with q | q;exact .inl q;exact .inr (.inl q)) (fun b g=>I.sx g) fun h' t k=>?_;have r:∀b∈fra (X.env::X.outer),H b=none:=fun b g=>I.stkFree b (by rw[D];exact g);have p:∀b o,X.s₀.heap.get? b=some o->b≠X.env.locals:=fun b o e z=>by have l:=p_ e;have L:=I.ok.above;rw[z] at l;exact absurd l (Nat.not_lt_of_le L)
 have i:∀b o,X.s₀.heap.get? b=some o->b≠ea:=fun b o e z=>by have l:=p_ e;rw[z] at l;exact absurd l (Nat.not_lt_of_le j.1)
 have c:∀b:Addr,b∉X.ex:=fun b=>by rw[K];simp
 refine⟨ea,C,dx,H,rfl,I.os,I.bare,⟨fun b o e n J _=>?_,fun b o e n B _=>?_,fun b o e n _=>I.base.free b o e n (c b),fun b o e _=>?_,I.base.tups,I.base.frzs,I.base.tbls⟩,k.hok (fun b u e=>.inl (.inr ⟨u,e⟩)) r d I.hok,j.1,d,t.mono (fun b g=>.inl g),O⟩
 ·refine k.keep b o (I.base.keep b o e n J (c b)) (.inl (.inl (p_ e))) ?_ (i b o e);rw[a];exact fun z=>(u_.mp z).elim (p b o e) J
 ·obtain⟨P,q⟩:=I.base.slot b o e n B (c b);obtain⟨h,v⟩:=k.slot b _ q (by rw[a];exact q_ _ B);exact⟨h,v⟩
 obtain⟨N,q⟩:=I.base.there b o e (c b);by_cases m:b∈fra (X.env::X.outer)
 ·obtain⟨h,v⟩:=k.slot b _ q m;exact⟨_,v⟩
 exact⟨_,k.keep b N q (.inl (.inl (p_ e))) m (i b o e)⟩
def Meet (X:Cx) (E:St->XK):Prop:=∀(a:List (Addr × Obj)) (c:St) (H:Hp) (s:Shared) (d C:Addr) (b:Option Addr),Fly X a c H s d C b->E c (.ref C) b H->X.xe (.ref d) s
end
def Ep {K:Frag}:
  Meet (mq (CX1 P w) P w K c base N a scope f b A outer s H E) (fun _=>E):=fun d i H' s' h C g F e=>JN (X:=mq (CX1 P w) P w K c base N a scope f b A outer s H E) F rfl rfl rfl e
section
variable {X:Cx}{k:Nat}
def JP {c:St} (F:FnOk X.prog X.w X.K X.mg X.base (CX1 X.prog X.w) k f fd ps sp) (g:Room k X.A) (l:Binds X.K fd ps []) (q:Meet X E) (I:Inv X a c H s) (r:Vals vs us) (h:sp vs H Q (E c)):wpAny (model X.prog X.w) X.A (call (.ref f) us) (EP X a c Q) X.xe s:=by
 have m:(us++[]).length=ps.length:=by rw[S_,<- r.length];exact F.len _ _ _ _ h
 have b:=l s us I.kIn m;rw[S_] at b;refine aa1 (aaS (F.run X.A X.stack s H ⟨us,[]⟩ us vs Q (E c) g I.env0 b r h) fun r s' d=>?_);cases r with
 |error e=>obtain⟨o,C,i,H',rfl,p,j⟩:=QR I d;exact q a c H' s' o C i p j
 |ok n =>
 cases n with
 |ret u=>exact I.after d
 |next=>exact False.elim d
 |brk=>exact False.elim d
 |cont=>exact False.elim d
end
open PySem.Builtin PySem.Builtin.ObjectAttr
section
variable {prog:Program}{w:World}{A:Around}{K:Frag}
structure XSet (K:Frag) (C:Addr) (cd:ClassData):Prop where
 cls:clsIn K C=some cd
 sa:findIn K (.ref C) "__setattr__"=some (some (.builtin "object.__setattr__"))
 ref:∀self:Value,refuseLoop self "__setattr__" cd.mro=pure ()
 obj:mroIn K C (.type "object")=some true
 dct:cd.hasDict=true
def pB (F:XSet K C c) (X:K.In s.heap) (I:InstAt s.heap x ox C od) (e:findIn K (.ref C) name=some none) (h:wpAny (model prog w) A.in1 (storeInOwnDict (.ref x) (.ref C) (.str name s.toks) name v false) (fun b s'=>b=.done (.ret .none)/\Q () s') E { s with toks:=s.toks+1}):
  wpAny (model prog w) A (setAttr (.ref x) name v) Q E s:=by
 have a:=PySem.F.store_object;refine set_plain X I F.sa ?_;have sub:PySem.W.Looks (model prog w) s.heap (isInstance (.ref x) (.type "object")) true:=I.type.andThen (abb X F.obj);refine aaQ a.slot.plain a.entry (@check_slot (model prog w) _ _ { s with toks:=s.toks+1} "object.__setattr__" "object" "__setattr__" (.ref x) [.str name s.toks,v] [] _ a.kind a.split sub (a.args (.ref x) (.str name s.toks) v) ?_);have d:PySem.W.Looks (model prog w) s.heap (mroOf (.ref C)) c.mro:=(looks_clsIn X F.cls).andThen .now;rw[osa_eq,refuse_eq];refine a_ (a_ (Zu (s:={ s with toks:=s.toks+1}) I.type (a_ (Zu (s:={ s with toks:=s.toks+1}) d ?_))));rw[F.ref];refine n_ (a_ (Zu (s:={ s with toks:=s.toks+1}) I.type (a_ (Zu (s:={ s with toks:=s.toks+1}) (aaR X e) ?_))));refine a_ (n_ ?_);refine Y5 h (fun b s' z=>?_) fun _ _ z=>z;obtain⟨rfl,q⟩:=z;exact q
def zT (F:XSet K C k) (X:K.In s.heap) (i:s.heap.get? x=some ⟨.ref C,some b,.fields vs,q⟩) (j:s.heap.Ns1 b mA) (n:PySem.Within mA ns) (r:ns.length<sizeLine) (o:findIn K (.ref C) name=some none) (h:∀h',h'.Ns1 b (fun y=>if y=name then some v else mA y)->Heap.SameBut b s.heap h'->Q () { s with heap:=h',toks:=s.toks+2}):
  wpAny (model prog w) A (setAttr (.ref x) name v) Q E s:=by
 obtain⟨od,l,_⟩:=iB j;refine pB F X (od:=some od) ⟨i,rfl,rfl,l⟩ o ?_;refine a_ (n_ (a_ (a_ (wpAny_loadPart i (a_ (Zu (s:={ s with toks:=s.toks+1}) (looks_clsIn X F.cls) ?_))))));rw[F.dct];refine n_ (a:=some b) ?_;refine a_ (n_ (a_ (wpAny_nsSet1 (s:={ s with toks:=s.toks+1}) j fun h' c g=>?_)));obtain⟨oD,p,m,d,e,f⟩:=c.count (PySem.Within.cons name v n);refine a_ (wpAny_lookBehind d (by rw[e];exact pastItsLine_dict (Q_ f (by rw[j_];omega))) ?_);exact n_ ⟨rfl,h h' c g⟩
def Er (F:XSet K C B) (X:K.In s.heap) (f:s.heap.get? x=some ⟨.ref C,none,.fields vs,i⟩) (u:findIn K (.ref C) name=some none) (h:∀h',h'.get? x=some ⟨.ref C,some s.heap.objs.size,.fields vs,i⟩->h'.Ns1 s.heap.objs.size (fun y=>if y=name then some v else none)->(∀b o,b≠x->s.heap.get? b=some o->h'.get? b=some o)->Q () { s with heap:=h',toks:=s.toks+2}):
  wpAny (model prog w) A (setAttr (.ref x) name v) Q E s:=by
 refine pB F X (od:=none) ⟨f,rfl,rfl,trivial⟩ u ?_;refine a_ (n_ (a_ (a_ (wpAny_loadPart f (a_ (Zu (s:={ s with toks:=s.toks+1}) (looks_clsIn X F.cls) ?_))))));rw[F.dct];have xs:x≠s.heap.objs.size:=I_ (p_ f);have c:(s.heap.push { cls:=.type "dict",data:=.dict #[]}).get? x=some ⟨.ref C,none,.fields vs,i⟩:=b_ _ f;show wpAny _ _ (alloc { cls:=.type "dict",data:=.dict #[]} >>= _) _ _ _;refine a_ (wpAny_alloc (a_ (wpAny_update c (n_ ?_))));have p:=ZC (fun o=>{ cls:=o.cls,dict:=some s.heap.objs.size,data:=o.data,slots:=o.slots}) c rfl;have m:=(YJ (s.heap.push { cls:=.type "dict",data:=.dict #[]}) (fun o=>{ cls:=o.cls,dict:=some s.heap.objs.size,data:=o.data,slots:=o.slots}) xs).trans (o_ s.heap rfl);have n:∀b o,b≠x->s.heap.get? b=some o->((s.heap.push { cls:=.type "dict",data:=.dict #[]}).update x fun o=>{ cls:=o.cls,dict:=some s.heap.objs.size,data:=o.data,slots:=o.slots}).get? b=some o:=fun b o g e=>(YJ _ _ (Ne.symm g)).trans (b_ _ e);generalize (s.heap.push { cls:=.type "dict",data:=.dict #[]}).update x (fun o=>{ cls:=o.cls,dict:=some s.heap.objs.size,data:=o.data,slots:=o.slots})=q at p m n;have D:q.Ns s.heap.objs.size (fun _=>none):=⟨_,#[],_,m,rfl,fun e t=>absurd t (by simp),fun _=>rfl⟩;refine a_ (n_ (a_ (wpAny_nsSet1 (Heap.Ns1.of_empty D) fun h' a d=>?_)));obtain⟨oD,z,r,j,k,l⟩:=a.count (PySem.Within.cons name v PySem.Within.nil);refine a_ (wpAny_lookBehind j (by rw[k];exact pastItsLine_dict (Q_ l (by rw[j_,Y0,aaD];omega))) ?_);exact n_ ⟨rfl,h h' ((d.2 x xs).trans p) a fun b o g e=>(d.2 b (I_ (p_ e))).trans (n b o g e)⟩
variable {X:Cx}{pins:List (Addr × Obj)}{σ:St}
def Inv.xlay {d f:HO} (I:Inv X pins σ H s) (a:Mut (H e)) (y:s.heap.get? dx=none) (g:H dx=none) (A:dx≠e) (k:∀b o,b≠e->s.heap.get? b=some o->h'.get? b=some o) (t:∃o,h'.get? e=some o) (l:ObjOk X.prog X.w (upd (upd H dx d) e f) h' dx d) (p:ObjOk X.prog X.w (upd (upd H dx d) e f) h' e f):Inv X pins σ (upd (upd H dx d) e f) { s with heap:=h',toks:=t'}:=by
 have x:∃q,H e=some q:=by cases q:H e with
  |none=>rw[q] at a;exact a.elim
  |some o=>exact⟨o,rfl⟩
 obtain⟨q,C⟩:=x;have h:∀b,H b=none->b≠e:=fun b z w=>by subst w;rw[C] at z;cases z
 have B:∀b o,s.heap.get? b=some o->b≠dx:=fun b o z w=>by subst w;rw[y] at z;cases z
 have nm:∀b o,H b=some o->Mut (some o)=False->b≠e/\b≠dx:=fun b o z m=>⟨fun w=>by subst w;rw[z] at a;rw[m] at a;exact a,fun w=>by subst w;rw[g] at z;cases z⟩;have st:∀b o,H b=some o->Mut (some o)=False->upd (upd H dx d) e f b=some o:=fun b o z m=>by rw[aL (nm b o z m).1,aL (nm b o z m).2];exact z
 refine I.un ⟨fun b o z n _ _=>k b o (h b n) z,fun b o z n _ _=>⟨o.slots,k b o (h b n) z⟩,fun b o z n _=>by rw[aL (h b n),aL (B b o z)];exact n,fun b o z _=>?_,fun b xs z=>st b _ z rfl,fun b o u z=>st b _ z rfl,fun b D z=>⟨#[],by rw[st b _ z rfl];simp⟩⟩ fun b u z=>?_
 ·by_cases w:b=e
  ·subst w;exact t
  exact⟨o,k b o w z⟩
 by_cases w:b=e
 ·subst w;rw[aY] at z;cases z;exact p
 rw[aL w] at z;by_cases j:b=dx
 ·subst j;rw[aY] at z;cases z;exact l
 rw[aL j] at z;refine (I.hok b u z).stay (fun c v i r=>k c v ?_ r) (fun c r=>st c _ r rfl) fun c xs r=>st c _ r rfl;rcases i with rfl | i
 ·exact w
 exact (nm c _ i rfl).1
def Et (r:∀g,RelO (fs.lookup g) (mA g)) (c:PySem.Within mA (fs.map (·.1))) (a:RelV y u):
  (∀g,RelO ((d7 f y fs).lookup g) (if g=f then some u else mA g))/\PySem.Within (fun g=>if g=f then some u else mA g) ((d7 f y fs).map (·.1)):=by
 refine⟨fun g=>?_,fun g b=>?_⟩
 ·rw[gR];by_cases q:g=f
  ·rw[if_pos q,if_pos q];exact a
  rw[if_neg q,if_neg q];exact r g
 by_cases q:g=f
 ·rw[q];exact (fW f y fs).1
 refine (fW f y fs).2 g (c g fun z=>b ?_);show (if g=f then some u else mA g)=none;rw[if_neg q];exact z
def V2 (F:XSet X.K C cd) (I:Inv X pins σ H s) (b:H e=some (exO e C none rd)) (l:findIn X.K (.ref C) f=some none) (m:RelV y u) (h:∀dx s',H dx=none->dx≠e->Inv X pins σ (upd (upd H dx (dxO dx [(f,y)])) e (exO e C (some dx) rd)) s'->Q () s'):wpAny (model X.prog X.w) A (setAttr (.ref e) f u) Q E s:=by
 obtain⟨vs,o,c,i⟩:=exO.of I.hok b;have g:H s.heap.objs.size=none:=I.hok.fresh (l_ _);have a:s.heap.objs.size≠e:=Yz (p_ c);refine Er F I.kIn c l fun h' d j k=>h s.heap.objs.size _ g a ?_;have n:dxP s.heap.objs.size [(f,y)] h':=by have:=Et (f:=f) (fs:=[]) (mA:=fun _=>none) (y:=y) (u:=u) (fun _=>trivial) PySem.Within.nil m;exact⟨_,j,this.1,this.2⟩
 exact I.xlay (by rw[b];exact trivial) (Heap.get?_none_of_le (l_ _)) g a k ⟨_,d⟩ (dxO.ok n) (exO.ok ⟨vs,o,d,i⟩)
def V3 (F:XSet X.K C cd) (I:Inv X pins σ H s) (l:H e=some (exO e C (some dx) rd)) (d:H dx=some (dxO dx fs)) (B:fs.length<1000) (n:findIn X.K (.ref C) f=some none) (t:RelV y u) (h:∀s',Inv X pins σ (upd H dx (dxO dx (d7 f y fs))) s'->Q () s'):wpAny (model X.prog X.w) A (setAttr (.ref e) f u) Q E s:=by
 obtain⟨vs,D,m,v⟩:=exO.of I.hok l;obtain⟨mA,c,r,g⟩:=dxO.of I.hok d;have k:(fs.map (·.1)).length<sizeLine:=by rw[e_,aaD];omega
 refine zT F I.kIn m c g k n fun h' a i=>h _ ?_;have:=Et (f:=f) r g t;have p:dxP dx (d7 f y fs) h':=⟨_,a,this.1,this.2⟩;exact I.write (x:=dx) (e:=dx) (by rw[d];exact trivial) (.inl rfl) (fun b q j z=>(i.2 b j).trans z) (let ⟨o,_,_,z,_⟩:=a;⟨o,z⟩) (dxO.ok p)
end
def wC {K:Frag} (X:K.In h) (G:h.Ns N a) (e:nsIn K N n=some (some v)):a n=some v:=by
 obtain⟨o,g,ep,c,f,_,b⟩:=G;unfold nsIn at e;split at e
 ·rename_i q;have:=X _ _ q;rw[c] at this;cases this;cases f;split at e
  ·rename_i d;rw[<- b];unfold nsFind findBy;rw[<- Array.find?_toList,d];simpa using e
  split at e <;> cases e
 cases e
def wD {K:Frag} (X:K.In h) (G:h.Ns N a) (e:nsIn K N n=some v):a n=v:=by
 cases v with
 |none=>exact PySem.W.ns_none_of X G e
 |some v=>exact wC X G e
def yo (K:Frag) (C:Addr) (io:Option Value) (a:List Value) (newId:String):Bool:=match K.lookup C with
 |some ⟨.type "type",_,.cls cd,sl⟩=>(match cd.mro,sl.toList with
  |.ref C'::bm,[_,_,_,_,some (.builtin n),_]=>C'==C&&(n==newId&&(!cd.hasDel&&(tailIn K a bm&&(nsOkIn K cd.ns&&nsIn K cd.ns "__init__"==some io))))
  |_,_=>false)
 |_=>false
def V4 (h:Heap) (C:Addr) (io:Option Value) (b:List Value) (newId:String):Prop :=
 ∃(d:List Value) (N:Addr) (nm q:Str) (e:List Value) (m:Bool) (i:List Str) (sub:List Value) (n:Bool) (a:Option Bool) (f:Option Addr) (k g j l o:Option Value) (c:Str->Option Value),
  h.get? C=some (excClassObj nm q C N e d m i sub n a f k g j l o newId)/\h.Ns N c/\c "__init__"=io/\OwnTail h b d
def lL {K:Frag} (X:K.In h) (q:yo K C io c newId=true):V4 h C io c newId:=by
 unfold yo at q;split at q
 ·rename_i z A i s;split at q
  ·rename_i F x o m f p n g k j;simp only[YD,Zt,aaP] at q;obtain⟨rfl,rfl,a,u,b,r⟩:=q;obtain⟨nm,B,E,ns,w,v,D,sub,t,e,y⟩:=A;dsimp only at k a b r;subst k a;have d:i=#[o,m,f,p,some (.builtin n),g]:=by obtain⟨l⟩:=i;simp only at j;rw[j]
   subst d;have G:h.Ns ns (h.nsMap ns):=.of_isNs (PySem.W.isNs_of_in X b);exact⟨x,ns,nm,w,B,v,D,sub,t,e,z,o,m,f,p,g,_,X _ _ s,G,wD X G r,PySem.W.tail_of_in X u⟩
  cases q
 cases q
structure XMk (K:Frag) (C f:Addr) (bmB:List Value) (newId:String):Prop where
 makes:yo K C (some (.ref f)) bmB newId=true
 fn:isFn K (.ref f)=true
 kp:keepIn K (.ref C)=true
section
variable {X:Cx}{CX:CXT}
def Inv.xmade {d:St} (I:Inv X c d H s) (us:List Value):Inv X c d (upd H (s.heap.objs.size+1) (exO (s.heap.objs.size+1) C none true)) { s with heap:=tU s.heap C us}:=by
 have f:∀b o,s.heap.get? b=some o->(tU s.heap C us).get? b=some o:=fun b o e=>b_ _ (b_ _ e);refine I.laid (t':=s.toks) (a:=s.heap.objs.size+1) f (Z6 _) (exO.ok ⟨#[.ref s.heap.objs.size,.none,.none,.none,.bool false,.none],#[],?_,fun _=>rfl⟩);have:=o_ (s.heap.push { cls:=.type "tuple",data:=.seq us.toArray}) (o:={ cls:=.ref C,data:=.fields #[.ref s.heap.objs.size,.none,.none,.none,.bool false,.none]}) rfl;rw[Y_] at this;exact this
def zU {o:St} (G:ExcBaseFacts Bn newId inN bmN) (c:bmB.contains (.type Bn)=true) (FB:ExcBaseFacts B nid initId bmB) (M:XMk X.K C f bmB newId) (F:FnOk X.prog X.w X.K X.mg X.base CX0 k f fd ps sp) (W:Room (k+1) X.A) (J:Binds X.K fd ps []) (I:Inv X b o H s) (r:Vals vs us) (Y:us.length<=sizeLine) (h:∀x,H x=none->s.heap.objs.size<=x->sp (.ref x::vs) (upd H x (exO x C none true)) (fun v H2=>v=.non/\Q (.ref x) H2) E0):
  wpAny (model X.prog X.w) X.A (call (.ref C) us) (EP X b o Q) X.xe s:=by
 have p:=h (s.heap.objs.size+1) (I.hok.fresh (Z6 _)) (Z6 _);have n:=Inv.xmade (C:=C) I us;have y:Vals (V.ref (s.heap.objs.size+1)::vs) (Value.ref (s.heap.objs.size+1)::us):=.cons rfl r;have P:(Value.ref (s.heap.objs.size+1)::us++[]).length=ps.length:=by have e:=y.length;rw[F.len _ _ _ _ p] at e;rw[S_];exact e.symm
 obtain⟨bm,N,nm,q,bs,hd,sn,sub,ab,Z,dd,k0,k1,k2,k3,k5,mN,O,S,hi,T⟩:=lL I.kIn M.makes;have i:∃j,X.K.lookup f=some j/\j.cls=.type "function":=by have:=Zt.mp M.fn;exact Option.map_eq_some_iff.mp this
 obtain⟨j,lk,l⟩:=i;have z:=I.kIn _ _ lk;have m:=F.run _ X.stack _ _ ⟨Value.ref (s.heap.objs.size+1)::us,[]⟩ (Value.ref (s.heap.objs.size+1)::us) _ _ E0 (W.make C us []) (n.env0.make C us []) (by have:=J _ (Value.ref (s.heap.objs.size+1)::us) n.kIn P;rw[S_] at this;exact this) y p;obtain⟨R,g,d,t,os⟩:=s;refine En G c FB T O S hi z l Y (aa1 (aaS m fun r s' a=>?_));cases r with
 |error e=>exact a.elim
 |ok E =>
 cases E with
 |ret u=>obtain⟨v,H',L,rv,U,D⟩:=n.after a;subst U;exact⟨rv,⟨V.ref (R.objs.size+1),H',L,rfl,D⟩⟩
 |next=>exact False.elim a
 |brk=>exact False.elim a
 |cont=>exact False.elim a
end
def pC (l:bmB.contains (.type "BaseException")=true) (o:A.handled=none) (h:wpAny M A x (fun v a=>∃e vs f d,v=.ref e/\V4 a.heap C io bmB newId/\a.heap.get? e=some ⟨.ref C,d,.fields vs,f⟩/\vs[1]?=some .none/\E (.ref e) a) E s):
  wpAny M A (raiseStmt env (some x) none) Q E s:=by
 unfold raiseStmt;refine a_ (Y5 h (fun v a b=>?_) fun _ _ z=>z);obtain⟨e,vs,f,d,rfl,⟨m,N,nm,q,H,y,K,sub,u,p,I,L,J,t,O,w,r,i,F,P,T⟩,j,n,k⟩:=b;have c:(Value.ref C::m).contains (.type "BaseException")=true:=by rw[List.contains_cons,T.hasType l,Bool.or_true]
 obtain⟨D,g,B,tk,G⟩:=a;repeat (first | (with_reducible refine Zo j ?_) | (with_reducible refine Zo i ?_) | (with_reducible refine wpAny_isSubtype_exc i ?_;rw[c]) | (with_reducible refine YT j rfl n ?_) | wp_step)
 exact wpAny_raiseNew_none o k
def rem (H:Hp) (e:Addr):Hp:=fun b=>if b=e then none else H b
def tW:rem H e e=none:=by unfold rem;rw[if_pos rfl]
def ig (h:b≠e):rem H e b=H b:=by unfold rem;rw[if_neg h]
def jC (h:H b=none):rem H e b=none:=by
 unfold rem;split
 ·rfl
 exact h
section
variable {X:Cx}{pins:List (Addr × Obj)}{σ:St}
def Inv.rem (I:Inv X pins σ H s) (J:H e=some (.ext φ)):Inv X pins σ (rem H e) s:=by
 have i:∀b o,H b=some o->(∀y,o≠.ext y)->b≠e:=fun b o z n w=>by subst w;rw[J] at z;cases z;exact n φ rfl
 obtain⟨A,K,f,⟨E,B,C,F,v,D,G⟩,t,g,h,d,a,j,k⟩:=I;refine⟨A,K,f,⟨E,B,fun b o z n m=>jC (C b o z n m),F,fun b xs z=>?_,fun b o u z=>?_,fun b L z=>?_⟩,t,g,jC h,fun x c z=>jC (d x c z),fun p l=>⟨(a p l).1,jC (a p l).2.1,(a p l).2.2⟩,fun b u z=>?_,k⟩
 ·have:=v b xs z;rw[ig (i b _ this (fun _=>nofun))];exact this
 ·have:=D b o u z;rw[ig (i b _ this (fun _=>nofun))];exact this
 ·obtain⟨m,q⟩:=G b L z;exact⟨m,by rw[ig (i b _ q (fun _=>nofun))];exact q⟩
 by_cases w:b=e
 ·subst w;rw[tW] at z;cases z
 rw[ig w] at z;exact (j b u z).stay (fun _ _ _ r=>r) (fun c r=>by rw[ig (i c _ r (fun _=>nofun))];exact r) fun c xs r=>by rw[ig (i c _ r (fun _=>nofun))];exact r
end
section
variable {X:Cx}{k:Nat}{np cpos pos:Pos}
def QS (C:Addr) (sp:Sp) (E:St->XK) (t:TA):TS:=fun _ d H=>t d H fun vs b=>vs.length<=sizeLine/\∀e,b e=none->∀Q:VK,(∀a c,a e=some (exO e C (some c) true)->E d (.ref C) (some c) (rem a e)->Q .non a)->sp (.ref e::vs) (upd b e (exO e C none true)) Q E0
def Eu (hc:X.calm=true) (R:ExcBaseFacts Bn newId inN bmN) (l:bmB.contains (.type Bn)=true) (N:ExcBaseFacts B nid initId bmB) (M:XMk X.K C f bmB newId) (F:FnOk X.prog X.w X.K X.mg X.base CX0 k f fd ps sp) (hr:Room (k+1) X.A) (U:Binds X.K fd ps [])
  (V:Gl X x) (hm:X.mg x=some (.ref C)) (S:Meet X E) (W:PA X (e::es) t) (y:(x==("__debug__":Str))=false:=by decide) (Y:starEach (e::es) X.env=(false,eval e X.env)::starEach es X.env:=by rfl) (p:(backTo cpos (starEach es X.env)).any (·.1)=false:=by rfl) :
  PS X (.Raise (some (.Call (.Name x np) (e::es) [] cpos)) none pos) (QS C sp E t):=by
 intro b s G H D I h;rw[arm_exec_Raise];refine a_ (aaM (pC (C:=C) (io:=some (.ref f)) (newId:=newId) N.hasBase (I.ok.hd hc) ?_));refine a_ ?_;refine Y6 (gA I V hm ?_ y);refine callWith_K (h₀:=X.base) I.ok.mod.kin M.kp (thn (W cpos b s G H _ I h) fun us T ⟨vs,H1,m,r,hz,q⟩=>⟨m.kIn,?_⟩) Y p;refine thn (zU (Q:=fun v g=>∃a c,v=.ref a/\T.heap.objs.size<=a/\g a=some (exO a C (some c) true)/\E G (.ref C) (some c) (rem g a)) R l N M F hr U m r (by show us.length<=_;rw[<- r.length];exact hz) fun a o n=>?_) fun u Z ⟨v,g,z,rv,a,c,ev,hn,d,P⟩=>?_
 ·exact q a o _ fun g c j O=>⟨rfl,a,c,rfl,n,j,O⟩
 subst ev;obtain rfl:u=Value.ref a:=rv;obtain⟨i,L,J,j⟩:=exO.of z.hok d;refine a_ (aaM (n_ ⟨a,i,L,some c,rfl,lL z.kIn M.makes,J,j rfl,S b G (rem g a) Z a C (some c) ⟨z.rem d,m.newer hn,tW,.inl ⟨i,L,J,j rfl⟩⟩ P⟩))
variable {pins:List (Addr × Obj)}{σ:St}
def zV (b:X.stack=X.env::X.outer) (a:X.env.frame=some X.env.locals):fra X.stack=X.env.locals::X.fs:=by
 rw [b];show List.filterMap _ (X.env :: X.outer) = _;rw [aax,a];rfl
def Inv.kpx (I:Inv X pins σ H s) (E:X.stack=X.env::X.outer) (A:X.env.frame=some X.env.locals) (k:Kpx (fra X.stack) ea (SX X pins H) s.heap h') (g:H ea=none)
  (h:X.s₀.heap.objs.size<=ea/\ea≠X.env.locals/\(∀x c,X.env.cells.lookup x=some c->c≠ea)/\∀p∈X.pn++pins,p.1≠ea):Inv X pins σ H { s with heap:=h'}:=by
 have a:=zV E A;obtain⟨xs,D,y⟩:=k.ex;have v:∀b,b≠X.env.locals->b∉X.fs->b∉fra X.stack:=fun b t j z=>by rw[a] at z;exact (u_.mp z).elim t j
 have l:∀b,b∈X.fs->b∈fra X.stack:=fun b z=>by rw[a];exact q_ _ z
 have w:X.env.locals∈fra X.stack:=by rw[a];exact k_
 refine I.step (ch:=ea::xs) (g':=s.gens) (d':=s.drawn) (t':=s.toks) (fun b f=>?_) (fun b o t j d e _=>y b o e (v b t j) (fun z=>d (z▸k_)) fun z=>d (q_ _ z))
  (fun b o _ i _ e _=>k.slot b o e (l b i)) (fun _ _ _ _ n=>n) (fun b o d e=>?_) (fun _ _ e=>e) (fun _ _ _ e=>e) (fun b L e=>⟨#[],by rw[e];simp⟩) (fun m J=>?_)
  (k.hok (fun b u e=>.inl (.inr ⟨u,e⟩)) (fun b f=>I.stkFree b f) g I.hok) I.bare
 ·rcases u_.mp f with rfl | f
  ·exact⟨.inr h.1,h.2⟩
  have:=D b f;refine⟨.inr (Nat.le_of_not_lt fun z=>this (.inl (.inl z))),fun z=>this (.inr (.inr (.inr z))),fun x c K z=>this (.inr (.inr (.inl ⟨x,z▸K⟩))),fun p G z=>this (.inr (.inl ⟨p,G,z⟩))⟩
 ·by_cases i:b∈fra X.stack
  ·obtain⟨C,q⟩:=k.slot b o e i;exact⟨_,q⟩
  exact⟨o,y b o e i (fun z=>d (z▸k_)) fun z=>d (q_ _ z)⟩
 obtain⟨o,F,ep,B,r⟩:=J;obtain⟨C,q⟩:=k.slot _ o B w;exact⟨_,F,ep,q,r⟩
def Inv.track (I:Inv X pins σ H s) (h:H ea=none) (a:X.s₀.heap.objs.size<=ea/\ea≠X.env.locals/\(∀x c,X.env.cells.lookup x=some c->c≠ea)/\∀p∈X.pn++pins,p.1≠ea) (A:ObjOk X.prog X.w (upd H ea (.ext φ)) s.heap ea (.ext φ)):
  Inv X pins σ (upd H ea (.ext φ)) s:=by
 have i:∀b o,H b=some o->b≠ea:=fun b o z w=>by subst w;rw[h] at z;cases z
 obtain⟨v,J,f,⟨E,B,C,F,y,D,G⟩,t,g,L,e,d,k,l⟩:=I;refine⟨v,J,f,⟨E,B,fun b o z n m=>?_,F,fun b xs z=>?_,fun b o u z=>?_,fun b K z=>?_⟩,t,g,by rw[aL (Ne.symm a.2.1)];exact L,fun x c z=>by rw[aL (a.2.2.1 x c z)];exact e x c z,fun p j=>⟨(d p j).1,by rw[aL (a.2.2.2 p j)];exact (d p j).2.1,(d p j).2.2⟩,fun b u z=>?_,l⟩
 ·rw[aL fun w=>by subst w;exact absurd (p_ z) (Nat.not_lt_of_le a.1)];exact C b o z n m
 ·have:=y b xs z;rw[aL (i b _ this)];exact this
 ·have:=D b o u z;rw[aL (i b _ this)];exact this
 ·obtain⟨m,q⟩:=G b K z;exact⟨m,by rw[aL (i b _ q)];exact q⟩
 by_cases w:b=ea
 ·subst w;rw[aY] at z;cases z;exact A
 rw[aL w] at z;exact (k b u z).stay (fun _ _ _ r=>r) (fun c r=>by rw[aL (i c _ r)];exact r) fun c xs r=>by rw[aL (i c _ r)];exact r
end
def Cx.inH (X:Cx) (e:Addr):Cx:={ X with A:=X.A.mark (some (.ref e)),calm:=false,xe:=fun _ _=>False}
section
variable {X:Cx}{pins:List (Addr × Obj)}{σ:St}{s:Shared}
def Inv.inH (I:Inv X pins σ H s):Inv (X.inH ea) pins σ H s:=by
 obtain⟨a,i,d,base,g,c,j,b,h,e,f⟩:=I;exact⟨⟨a.mod,a.kind,a.glob,a.blt,a.above,a.inj,a.has,a.cab,(fun z=>nomatch z),a.frames,a.stk,a.exf,a.bs,a.bsz,a.noex,a.exfs,a.funs,a.frf⟩,i,d,base,g,c,j,b,h,e,f⟩
def Inv.outH (I:Inv (X.inH ea) pins σ H s) (h:X.Ok):Inv X pins σ H s:=by
 obtain⟨_,i,c,base,f,b,j,a,g,d,e⟩:=I;exact⟨h,i,c,base,f,b,j,a,g,d,e⟩
variable {prog:Program}{w:World}{A:Around}{K:Frag}
def askIn (K:Frag) (R:Addr):Bool:=match K.lookup R with
 |some ⟨.type t,_,.cls _,_⟩=>t=="type"
 |_=>false
def QT (h:askIn K R=true):∃a b c,K.lookup R=some ⟨.type "type",a,.cls b,c⟩:=by
 unfold askIn at h;split at h
 ·rename_i t a b c q;rw[Zt.mp h] at q;exact⟨a,b,c,q⟩
 cases h
structure XAsk (K:Frag) (R:Addr):Prop where
 at_:askIn K R=true
 base:mroIn K R (.type "BaseException")=some true
def zW (a:XAsk K R) (X:K.In s.heap) (k:s.heap.get? ea=some e) (m:e.cls=.ref C) (j:mroIn K C (.ref R)=some b) (h:Q b s):
  wpAny (model prog w) A (excMatches (.ref ea) (.ref R)) Q E s:=by
 obtain⟨c,p⟩:=a;obtain⟨r,t,v,l⟩:=QT c
 have n:=X _ _ l;have o:PySem.W.Looks (model prog w) s.heap (isSubtype (.ref R) (.type "BaseException")) true:=abb X p;have q:PySem.W.Looks (model prog w) s.heap (isSubtype (.ref C) (.ref R)) b:=abb X j;have u:isSubtype (.type "type") (.type "tuple")=pure false:=by rw[isSubtype_type];kernel_rfl
 obtain⟨f,g,d,tk,i⟩:=s;unfold excMatches;repeat (first | (with_reducible refine Zo n ?_) | (with_reducible refine Zo k ?_;rw[m]) | (with_reducible refine Zu (s:=⟨f,g,d,tk,i⟩) o ?_) | (with_reducible refine Zu (s:=⟨f,g,d,tk,i⟩) q ?_) | wp_step)
 cases b <;> (wp_walk;exact h)
variable {dx:Addr}{M:Model}
def name_goes (I:Inv X pins σ H s) (O:X.N.Nodup) (G:X.N[i]?=some n) (w:X.env.scope.names.lookup n=some .local) (h:∀s',Inv X pins (σ.set i none) H s'->Q () s'):wpAny M A (do bindName X.env n .none;unbindBehindTheSuite X.env n J) Q E s:=by
 refine a_ (wpAny_bindName (iz (v:=.non) (u:=.none) I O G (.inl w) rfl (fun s1 a _=>?_) (.inr w)));unfold unbindBehindTheSuite;refine aa_ ?_;obtain⟨m,R,x⟩:=id a.loc;have r:(X.env.scope.kind==.class||(X.env.scope.kind==.module&&X.env.locals != X.env.globals))=false:=by rw[a.ok.kind];rfl
 have f:i<σ.length:=by rw[I.len];exact (Zc.mp G).1
 obtain⟨u,ru,lk⟩:=x i n .non G (by rw[Zd f]) (.inl w);have U:m n=some u:=by
  rcases lk with ⟨_,z⟩ | ⟨z,_⟩
  ·exact z
  have W:X.env.kindOf n=some .local:=w;rcases z with z | z <;> rw[W] at z <;> cases z
 have t:=a.cne;obtain⟨oL,_,_,V,_⟩:=id R;refine wpAny_unbindName_local w R U r fun h' u' K g=>h _ ⟨a.ok,a.os,a.bare,⟨fun b o e n L l=>?_,fun b o e n L l=>?_,a.base.free,fun b o e l=>?_,a.base.tups,a.base.frzs,a.base.tbls⟩,⟨_,K,fun j y v' T F e3=>?_⟩,fun y c e=>?_,a.free,a.freeC,fun p hp=>?_,fun b ob e=>?_,by have:=a.len;simp only[aaZ] at this ⊢;exact this⟩
 ·exact (g.2 b (I_ (K_ (p_ e) a.ok.above))).trans (a.base.keep b o e n L l)
 ·obtain⟨Y,q⟩:=a.base.slot b o e n L l;exact⟨Y,(g.2 b (I_ (K_ (p_ e) a.ok.above))).trans q⟩
 ·obtain⟨Z,q⟩:=a.base.there b o e l;exact⟨Z,(g.2 b (I_ (K_ (p_ e) a.ok.above))).trans q⟩
 ·by_cases D:j=i
  ·subst D;rw[Zd f] at F;cases F
  rw[Zr (Ne.symm D)] at F;obtain⟨C,r',q⟩:=x j y v' T (by rw[Zr (Ne.symm D)];exact F) e3;refine⟨C,r',?_⟩;rcases q with ⟨k,e⟩ | ⟨k,c,e,z⟩
  ·refine .inl ⟨k,?_⟩;have:y≠n:=fun e=>D (lW O T (e▸G));simp [this,e]
  exact .inr ⟨k,c,e,z.sameBut g (t y c e)⟩
 ·obtain⟨C,z⟩:=a.cell y c e;exact⟨C,z.sameBut g (t y c e)⟩
 ·obtain⟨e,n,S,nf,d⟩:=a.pin p hp;exact⟨(g.2 p.1 S).trans e,n,S,nf,d⟩
 refine (a.hok b ob e).stay (fun c C B q=>(g.2 c ?_).trans q) (fun _ q=>q) fun _ _ q=>q;rintro rfl;have P:=a.free;rcases B with z | B
 ·rw[<- z,P] at e;cases e
 rw[P] at B;cases B
end
def mrg (a H:Hp):Hp:=fun b=>match H b with
 |some (.tup xs)=>some (.tup xs)
 |some (.frz o u)=>some (.frz o u)
 |_=>a b
def jD (h:H b=none):mrg a H b=a b:=by unfold mrg;rw[h]
def qF (h:H b=some (.tup xs)):mrg a H b=some (.tup xs):=by unfold mrg;rw[h]
def qG (h:H b=some (.frz o u)):mrg a H b=some (.frz o u):=by unfold mrg;rw[h]
def qH (a H:Hp) (b:Addr):(∃xs,H b=some (.tup xs)/\mrg a H b=some (.tup xs))\/(∃o u,H b=some (.frz o u)/\mrg a H b=some (.frz o u))\/mrg a H b=a b:=by
 cases q:H b with
 |none=>exact .inr (.inr (jD q))
 |some o =>
 cases o with
 |tup xs=>exact .inl ⟨xs,rfl,qF q⟩
 |frz o u=>exact .inr (.inl ⟨o,u,rfl,qG q⟩)
 |_=>exact .inr (.inr (by unfold mrg;rw[q]))
def Cx.atTry (X:Cx) (xe:Value->Shared->Prop) (pn:List (Addr × Obj)) (a:Hp):Cx:={ X with xe:=xe,pn:=pn,H₀:=a}
section
variable {X:Cx}{pins pins':List (Addr × Obj)}{σ:St}
def Inv.atTry (I:Inv X pins σ H s):Inv (X.atTry xe (X.pn++pins) (mrg X.H₀ H)) [] σ H s:=by
 have K:=I.bs;have r:∀b∈X.fs,H b=none:=fun b d=>by obtain⟨_,o,x,_⟩:=I.ok.funs.mem d;exact I.base.free b o x (I.ok.frf b d) fun z=>I.ok.exfs b z d
 obtain⟨a,J,f,⟨D,y,A,E,w,C,F⟩,v,g,M,c,k,j,l⟩:=I;have m:∀b,mrg X.H₀ H b=none->X.H₀ b=none:=fun b z=>by
  rcases qH X.H₀ H b with ⟨xs,_,q⟩ | ⟨o,u,_,q⟩ | q
  ·rw[q] at z;cases z
  ·rw[q] at z;cases z
  rw[<- q];exact z
 refine⟨⟨a.mod,a.kind,a.glob,a.blt,a.above,a.inj,a.has,a.cab,a.hd,a.frames,a.stk,a.exf,fun b o e=>⟨(a.bs b o e).1,(jD (K b o e).2).trans (a.bs b o e).2⟩,a.bsz,a.noex,a.exfs,a.funs,fun b d=>(jD (r b d)).trans (a.frf b d)⟩,J,f,
  ⟨fun b o e n=>D b o e (m b n),fun b o e n=>y b o e (m b n),fun b o e n=>A b o e (m b n),E,fun b xs z=>?_,fun b o u z=>?_,fun b t z=>?_⟩,v,g,M,c,fun p G=>k p (by simpa [Cx.atTry] using G),j,l⟩
 ·rcases qH X.H₀ H b with ⟨i,h,q⟩ | ⟨o,u,h,q⟩ | q
  ·rw[show mrg X.H₀ H b=some (.tup xs) from z] at q;cases q;exact h
  ·rw[show mrg X.H₀ H b=some (.tup xs) from z] at q;cases q
  exact w b xs (q▸z)
 ·rcases qH X.H₀ H b with ⟨i,h,q⟩ | ⟨B,L,h,q⟩ | q
  ·rw[show mrg X.H₀ H b=some (.frz o u) from z] at q;cases q
  ·rw[show mrg X.H₀ H b=some (.frz o u) from z] at q;cases q;exact h
  exact C b o u (q▸z)
 rcases qH X.H₀ H b with ⟨i,h,q⟩ | ⟨B,L,h,q⟩ | q
 ·rw[show mrg X.H₀ H b=some (.tbl t) from z] at q;cases q
 ·rw[show mrg X.H₀ H b=some (.tbl t) from z] at q;cases q
 exact F b t (q▸z)
def Inv.offTry (I:Inv X pins σ H s) {c:St}(J:Inv (X.atTry xe (X.pn++pins) (mrg X.H₀ H)) pins' c H1 s1):Inv X pins c H1 s1:=by
 have k:∀b o,X.s₀.heap.get? b=some o->X.H₀ b=none->b∉X.ex->mrg X.H₀ H b=none:=fun b o e n x=>(jD (I.base.free b o e n x)).trans n;obtain⟨_,E,d,⟨A,v,w,B,t,y,C⟩,l,g,F,a,i,h,j⟩:=J;refine⟨I.ok,E,d,⟨fun b o e n f x=>A b o e (k b o e n x) f x,fun b o e n f x=>v b o e (k b o e n x) f x,fun b o e n x=>w b o e (k b o e n x) x,B,fun b xs z=>t b xs (qF (I.base.tups b xs z)),fun b o u z=>y b o u (qG (I.base.frzs b o u z)),fun b r z=>C b r ?_⟩,l,g,F,a,fun p D=>i p (T_ _ D),h,j⟩;obtain⟨m,q⟩:=I.base.tbls b r z;show mrg X.H₀ H b=_;unfold mrg;rw[q];exact z
def QV {K:Frag} (h:SqT K H a xs):SqT K (mrg b H) a xs:=by
 rcases h with (h | ⟨o,h⟩) | h
 ·exact .inl (.inl (qF h))
 ·exact .inl (.inr ⟨o,qG h⟩)
 exact .inr h
def Inv.sqt {K:Frag} (I:Inv X pins σ H s) (h:SqT K X.H₀ a xs):SqT K H a xs:=by
 rcases h with (h | ⟨o,h⟩) | h
 ·exact .inl (.inl (I.base.tups a xs h))
 ·exact .inl (.inr ⟨o,I.base.frzs a o _ h⟩)
 exact .inr h
def SP.offTry (I:Inv X pins σ H s) (h:SP (X.atTry xe (X.pn++pins) (mrg X.H₀ H)) pins' D f s'):SP X pins D f s':=by
 cases f with
 |next=>obtain⟨a,H',J,q⟩:=h;exact⟨a,H',I.offTry J,q⟩
 |brk=>obtain⟨a,H',J,q⟩:=h;exact⟨a,H',I.offTry J,q⟩
 |cont=>obtain⟨a,H',J,q⟩:=h;exact⟨a,H',I.offTry J,q⟩
 |ret u=>obtain⟨v,a,H',J,r,q⟩:=h;exact⟨v,a,H',I.offTry J,r,q⟩
end
def Ends.gone (D:Ends) (i:Nat):Ends:=⟨fun a H=>D.nx (a.set i none) H,D.rt,fun a H=>D.bk (a.set i none) H,fun a H=>D.ct (a.set i none) H⟩
def V5 (K:Frag) (e:Hp) (R:Addr) (i:Nat) (th:TS) (D:Ends):St->XK:=fun f c d H=>∃C,c=.ref C/\mroIn K C (.ref R)=some true /\
 ((∀a xs,SqT K e a xs->SqT K H a xs)->∀b,H b=none->th (D.gone i) (f.set i (some (.ref b))) (upd H b (exO b C d false)))
def Yj (K:Frag) (R:Addr) (i:Nat) (tb:(St->XK)->TS) (th:TS):TS:=fun D a H=>tb (V5 K H R i th D) D a H
section
variable {i:Nat}
def QW (O:X.stack=X.env::X.outer) (Y:X.env.frame=some X.env.locals) (a:XAsk X.K R) (hg:Gl X x) (hm:X.mg x=some (.ref R)) (Q:X.N.Nodup) (W:X.N[i]?=some n) (P:X.env.scope.names.lookup n=some .local)
  (M:∀(xe:Value->Shared->Prop) (pn:List (Addr × Obj)) (H0:Hp) (Es:St->XK),Meet (X.atTry xe pn H0) Es->PSs (X.atTry xe pn H0) body (tb Es)) (k:∀j,PSs (X.inH j) (b₀::suite) th) (hdb:(x==("__debug__":Str))=false:=by decide) :
  PS X (.Try body [.ExceptHandler (some (.Name x np)) (some n) (b₀::suite) hpos] [] [] pos) (Yj X.K R i tb th):=by
 intro d s σ H D I h;refine wpAny_Try_except ?_;refine Y5 (M _ (X.pn++d) (mrg X.H₀ H) (V5 X.K H R i th D) ?_ [] s σ H D I.atTry h) (fun f s1 q=>?_) (fun _ _ z=>z)
 ·intro pins' σ' H' s' j C Z m he;obtain⟨C',e1,S,F⟩:=he;cases e1;have t:Inv X d σ' H' s':=I.offTry m.inv;replace F:=F fun a xs z=>Inv.sqt m.inv (QV z);have g:=m.free;have l:X.s₀.heap.objs.size<=j/\j≠X.env.locals/\(∀x c,X.env.cells.lookup x=some c->c≠j)/\∀p∈X.pn++d,p.1≠j:=⟨m.new.1,m.new.2.1,m.new.2.2.1,fun p hp=>m.new.2.2.2 p (T_ _ hp)⟩;have fly:Rsd s'.heap j (.ref C) Z\/Ntd s'.heap (SX X d H') j (.ref C) Z .none\/Ntd s'.heap (SX X d H') j (.ref C) Z (rawInt X.env.locals):=by
   rcases m.fly with q | q
   ·exact .inl q
   refine .inr (.inl (q.mono fun b E=>?_));rcases E with E | ⟨p,hp,e⟩ | E
   ·exact .inl E
   ·exact .inr (.inl ⟨p,T_ _ hp,e⟩)
   exact .inr (.inr E)
  have hfr:=t.ok.frames;have hl0:=t.stack;have V:∀{U:Heap},U.FunFrames X.base X.stack->∀b∈fra X.stack,∃o,U.get? b=some o/\∀vs,o.data≠.fields vs:=fun z b mb=>(z.mem mb).2;show wpAny (model X.prog X.w) X.A (noteFrame (.ref j) X.env) _ _ s';refine note (L:=X.env.locals) (base:=X.base) (outer:=X.outer) (by rw[<- O];exact hfr) (by rw[<- O];exact hl0) Y fly (fun b E=>t.sx E) fun h1 n1 k1=>?_;rw[<- O] at k1;have I1:=t.kpx O Y k1 g l;refine Eo (fs:=fra X.stack) n1 (V I1.stack) fun h2 n2 k2=>?_;have I2:=I1.kpx O Y k2 g l;refine wpAny_handleBy_cons (codeAny_handlers_test (gA (X:=X.inH j) I2.inH hg hm ?_ hdb)) (by intro q;cases q);obtain⟨vs,sl,T,oT,ts,ho,_⟩:=id n2;refine zW a I2.kIn ho rfl S ?_;show codeAny _ _ _ _ _;refine codeAny_handlers_suite_as ?_;refine Eo (fs:=fra X.stack) n2 (V I2.stack) fun h3 n3 k3=>?_;have I3:=I2.kpx O Y k3 g l;obtain⟨vs,sl,T,oT,ts,ho,_⟩:=id n3;have I4:=I3.track (φ:=exP j C Z false) g l (exO.ok ⟨vs,sl,ho,(fun z=>nomatch z)⟩);refine iz (v:=.ref j) (u:=.ref j) I4 Q W (.inl P) rfl (fun s4 I5 _=>?_) (.inr P);refine Y5 (k j d s4 _ _ (D.gone i) I5.inH (F j g)) (fun f s5 q=>?_) fun _ _ z=>z.elim;cases f with
  |next=>obtain⟨G,B,y,q⟩:=q;exact name_goes (y.outH t.ok) Q W P fun s6 J=>⟨_,B,J,q⟩
  |brk=>obtain⟨G,B,y,q⟩:=q;exact name_goes (y.outH t.ok) Q W P fun s6 J=>⟨_,B,J,q⟩
  |cont=>obtain⟨G,B,y,q⟩:=q;exact name_goes (y.outH t.ok) Q W P fun s6 J=>⟨_,B,J,q⟩
  |ret u=>obtain⟨v,G,B,y,r,q⟩:=q;exact name_goes (y.outH t.ok) Q W P fun s6 J=>⟨v,_,B,J,r,q⟩
 cases f with
 |next=>exact aaY (SP.offTry I q)
 |brk=>exact (SP.offTry I q)
 |cont=>exact (SP.offTry I q)
 |ret u=>exact (SP.offTry I q)
variable {os:OsState}
def wF (k:ExcBaseFacts Bn newId inN bmN) (f:bmB.contains (.type Bn)=true) (F:ExcBaseFacts B nid initId bmB) (T:OwnTail h bmB bm) (a:h.get? C=some (excClassObj nm q C N bs bm hdct sn sub ab col dd k0 k1 k2 k3 k5 newId)) (n:h.Ns N l) (p:l "__init__"=none) (r:∀h' e vs,(∀b o,h.get? b=some o->h'.get? b=some o)->h.objs.size<=e->h'.get? e=some ⟨.ref C,none,.fields vs,#[]⟩->vs[1]?=some .none->Q (.done (.ret (.ref e))) ⟨h',g,d,t,os⟩):
  wpAny (model prog w) A (Builtin.«type.__call__» ⟨.ref C::[],[]⟩) Q E ⟨h,g,d,t,os⟩:=by
 have c:∀b o,h.get? b=some o->(tU h C []).get? b=some o:=fun b o e=>b_ _ (b_ _ e);have i:(tU h C []).get? (h.objs.size+1)=some { cls:=.ref C,data:=.fields #[.ref h.objs.size,.none,.none,.none,.bool false,.none]}:=by have:=o_ (h.push { cls:=.type "tuple",data:=.seq ([]:List Value).toArray}) (o:={ cls:=.ref C,data:=.fields #[.ref h.objs.size,.none,.none,.none,.bool false,.none]}) rfl;rw[Y_] at this;exact this
 have j:(Value.ref C::bm).contains (.ref C)=true:=by simp
 repeat (first | (with_reducible refine Zo a ?_) | (with_reducible refine wpAny_madeBy_exc a ?_) | wp_step)
 refine codeAny_call_builtin_code (aak _ k.quiet) (wpAny_check_new_subU k f T a (codeAny_exc_new_subU k f F T a ?_ (by decide)));show wpAny _ _ _ _ _ _;unfold isInstance;repeat (first | (with_reducible refine Zo i ?_) | (with_reducible refine wpAny_isSubtype_exc (c _ _ a) ?_;rw[j]) | wp_step)
 show wpAny _ _ (typeLookup (.ref C) _) _ _ _;refine wpAny_typeLookup_tail (c _ _ a) (n.keeps c) (T.keeps c) F.mroIs F.init.lookup ?_;rw[p];refine Zw (a_ (wpAny_of_eq (F.init.bind _) ?_));refine a_ (aa1 (aaQ F.init.plain F.initEntry (wpAny_check_init_subU F (T.keeps c) (c _ _ a) i rfl ?_)))
 wp_walk
 refine r _ (h.objs.size+1) _ (fun b o m=>?_) (Z6 _) (ZC _ (b_ _ i) rfl) rfl;exact (YJ _ _ (Yz (Zn (p_ m)))).trans (b_ _ (c b o m))
def Ew (k:ExcBaseFacts Bn newId inN bmN) (c:bmB.contains (.type Bn)=true) (F:ExcBaseFacts B nid initId bmB) (T:OwnTail h bmB bm) (a:h.get? C=some (excClassObj nm q C N bs bm hdct sn sub ab col dd k0 k1 k2 k3 k5 newId)) (i:h.Ns N f) (j:f "__init__"=none) (l:∀h' e vs,(∀b o,h.get? b=some o->h'.get? b=some o)->h.objs.size<=e->h'.get? e=some ⟨.ref C,none,.fields vs,#[]⟩->vs[1]?=some .none->Q (.ref e) ⟨h',g,d,t,os⟩):
  wpAny (model prog w) A (call (.ref C) []) Q E ⟨h,g,d,t,os⟩:=by
 have m:=tc_lookup;have p:=tc_bind (.ref C);have n:(⟨h,g,d,t,os⟩:Shared).TypeIs (.ref C) "type":=⟨_,a,rfl⟩;refine aa1 (codeAny_of_tree ?_);show wpAny _ _ (callAny (.ref C) _) _ _ _;repeat (any_goals (first | assumption | (with_reducible refine Zo a ?_) | wp_step))
 refine⟨rfl,codeAny_call_builtin_at (aak _ (by decide +kernel)) entry_typeCall (wpAny_check_type_call_sub a (wF k c F T a i j l))⟩
end
section
variable {X:Cx}{C:Addr}{bmN:List Value}{np cpos pos:Pos}
structure XMk0 (K:Frag) (C:Addr) (bmB:List Value) (newId:String):Prop where
 makes:yo K C none bmB newId=true
 kp:keepIn K (.ref C)=true
def JQ (C:Addr) (E:St->XK):TS:=fun _ a H=>E a (.ref C) none H
def zX (o:X.calm=true) (p:ExcBaseFacts Bn newId inN bmN) (b:bmB.contains (.type Bn)=true) (n:ExcBaseFacts B nid initId bmB) (M:XMk0 X.K C bmB newId)
  (u:Gl X x) (z:X.mg x=some (.ref C)) (r:Meet X E) (c:(x==("__debug__":Str))=false:=by decide) :
  PS X (.Raise (some (.Call (.Name x np) [] [] cpos)) none pos) (JQ C E):=by
 intro a s m H D I h;rw[arm_exec_Raise];refine a_ (aaM (pC (C:=C) (io:=none) (newId:=newId) n.hasBase (I.ok.hd o) ?_));refine a_ ?_;refine Y6 (gA I u z ?_ c);refine PySem.W.callWith_K0 I.kIn M.kp ?_;obtain⟨Q,N,nm,q,S,P,Y,sub,L,A,U,Z,V,J,k3,O,G,v,w,F,T⟩:=lL I.kIn M.makes;obtain⟨R,g,d,t,y⟩:=s;refine Ew p b n T v w F fun h' e vs k i f j=>?_;have l:Inv X a m H ⟨h',g,d,t,y⟩:=I.kept (t':=t) k;exact a_ (aaM (n_ ⟨e,vs,#[],none,rfl,lL l.kIn M.makes,f,j,r a m H _ e C none ⟨l,I.newer i,I.hok.fresh i,.inl ⟨vs,#[],f,j⟩⟩ h⟩))
variable {R:Addr}{hpos:Pos}{th:TS}
variable {k:Nat}{f:Addr}{p:Pos}{es:List Expr}
def QX (sp:Sp) (E:St->XK) (t:TA):TE:=fun a H Q=>t a H fun vs b=>sp vs b Q (E a)
def Ex (F:FnOk X.prog X.w X.K X.mg X.base (CX1 X.prog X.w) k f fd ps sp) (j:Room k X.A) (g:Gl X x) (i:X.mg x=some (.ref f)) (u:keepIn X.K (.ref f)=true) (n:Binds X.K fd ps []) (o:Meet X E)
  (l:PA X (e::es) t) (b:(x==("__debug__":Str))=false:=by decide) (m:starEach (e::es) X.env=(false,eval e X.env)::starEach es X.env:=by rfl) (c:(backTo pos (starEach es X.env)).any (·.1)=false:=by rfl) :
  PE X (.Call (.Name x p) (e::es) [] pos) (QX sp E t):=by
 intro a s v H Q I h;refine Y6 (gA I g i ?_ b);refine callWith_K (h₀:=X.base) I.ok.mod.kin u (thn (l pos a s v H _ I h) fun us z ⟨vs,y,d,r,q⟩=>⟨d.kIn,?_⟩) m c;exact JP F j n o d r q
end
end L2
namespace L3
open L2
abbrev YK3:=Addr->List (Str × T)->Hp3->Prop
def Yk (E:YK3):YK3:=fun C fs H=>∃H',Sub3 H' H/\E C fs H'
def DX (K:Frag) (H:Hp) (H3:Hp3):Option Addr->List (Str × T)->Prop
 |none,fs=>fs=[]
 |some dx,fs=>fs≠[]/\H3 dx=none/\∃vs,H dx=some (dxO dx vs)/\RepF K H fs vs
def DX.sub {K:Frag} (h:DX K H H3 a fs) (c:Sub3 b H3):DX K H b a fs:=by
 cases a with
 |none=>exact h
 |some d=>exact⟨h.1,(by cases z:b d with | none=>rfl | some o=>have:=c d o z;rw[h.2.1] at this;cases this),h.2.2⟩
def V6 (K:Frag) (d:St3->YK3):L2.St->XK:=fun e b c H=>∃C fs a H3,b=.ref C/\SimS K H a e/\SimH K H3 H/\DX K H H3 c fs/\d a C fs H3
def KX3 (K:Frag) (H:Hp) (c:YK3) (E:XK):Prop:=∀C b fs H' a,TupLe K H H'->SimH K a H'->DX K H' a b fs->c C fs a->E (.ref C) b H'
abbrev qI:=List T->Hp3->VK3->YK3->Prop
def QZ (K:Frag) (sp:qI):Sp:=fun vs H Q E=>∃ts H3 b a,Reps K H ts vs/\SimH K H3 H/\sp ts H3 b a/\KV3 K H b Q/\KX3 K H a E
def Ey (P:Program) (w:World) (K:Frag) (a:Str->Option Value) (base:Heap) (k:Nat) (f:Addr) (b:FuncData) (c:List Str) (sp:qI):Prop:=FnOk P w K a base (CX1 P w) k f b c (QZ K sp)
def jE (X:Cx) (a:St3->YK3):Prop:=Meet X (V6 X.K a)
section
variable {p pos:Pos}
def qJ (sp:qI) (E:St3->YK3) (t:TA3):TE3:=fun a H Q=>t a H fun vs b=>sp vs b Q (E a)
def Ez (F:Ey X.prog X.w X.K X.mg X.base k f fd ps sp) (L:Room k X.A) (B:Gl X x) (J:X.mg x=some (.ref f)) (s:keepIn X.K (.ref f)=true) (y:Binds X.K fd ps []) (u:jE X E)
  (D:PA3 X (e::es) t) (g:(x==("__debug__":Str))=false:=by decide) (G:starEach (e::es) X.env=(false,eval e X.env)::starEach es X.env:=by rfl) (c:(backTo pos (starEach es X.env)).any (·.1)=false:=by rfl) :
  PE3 X (.Call (.Name x p) (e::es) [] pos) (qJ sp E t):=by
 refine PE.imp (Ex F L B J s y u D g G c) ?_;rintro O H Q ⟨a,H3,z,n,o,h,k⟩;refine⟨a,H3,_,n,o,h,fun vs H' ts j m b r q=>?_⟩;exact⟨ts,j,z,E a,r,b,q,k.at m,fun C M fs N l d i v I=>⟨C,fs,a,l,rfl,n.mono (m.trans d),i,v,I⟩⟩
end
def Inv.tupLe {c:L2.St} (I:Inv X b c H s):TupLe X.K X.H₀ H:=by
 intro a xs h;rcases h with (h | ⟨o,h⟩) | h
 ·exact .inl (.inl (I.base.tups a xs h))
 ·exact .inl (.inr ⟨o,I.base.frzs a o _ h⟩)
 exact .inr h
def fnX {K:Frag}{st:Stmt} (F:Fun K x a st f fd) (S:FnScope N ps (aC st)) (o:∀ts H Q E,sp ts H Q E->ts.length=ps.length) (d:∀(c:Value) (A:Around) (outer:List Env) (s:Shared) (H:Hp) (E:XK) (ts:List T) (H3:Hp3) (Q:VK3) (g:YK3),Room k (A.deeper (envOfC a (aC st) s.heap.objs.size f c))->sp ts H3 Q g ->
   jE (mq (CX1 P w) P w K l base N a (aC st) f c A outer s H E) (fun _=>Yk g) ->
   ∃t,jr (mq (CX1 P w) P w K l base N a (aC st) f c A outer s H E) (cA st) t/\t { nx:=fun _ H'=>Fin3 Q .non H',rt:=Fin3 Q} (aQ N ts) H3):Ey P w K l base (k+1) f fd ps sp:=by
 obtain⟨oc,od,kV,L,pm,an,c,ct,J,rfl,Y,j⟩:=F.ex;refine K6 Y j S (fun vs H Q E ⟨ts,H3,B,g,r,p,q,k,G⟩=>by rw[<- r.length];exact o _ _ _ _ q) fun A outer s H vs Q E X ⟨ts,H3,B,g,r,p,q,k,G⟩=>?_;obtain⟨t,O,V⟩:=d c A outer s H E ts H3 B g X q (by
  rintro i U H' s' I C u y ⟨C',fs,W,h,Z,ss,b,M,m,e,q⟩
  cases Z
  exact Ep i U H' s' I C u y (G C u fs H' m (Inv.tupLe y.inv) (b.sub e) (M.sub e) q))
 exact⟨_,O,aQ N ts,H3,_,oY r,p,V,fun σ' H' D h n R b ⟨m,e,q⟩=>k _ _ _ _ n (b.sub e) .ofNon q,fun v H' t h n b rv ⟨m,e,q⟩=>k _ _ _ _ n (b.sub e) rv q,fun _ _ _ _ _ _ _ z=>z,fun _ _ _ _ _ _ _ z=>z⟩
end L3
namespace L2
def sX1 (K:Frag) (i j:TE) (f:Str):TS:=fun D b H=>j b H fun y h=>i b h fun x c=>∃e C g d,x=.ref e/\c e=some (exO e C none d)/\XSet K C g/\findIn K (.ref C) f=some none /\
 ∀a,c a=none->a≠e->D.nx b (upd (upd c a (dxO a [(f,y)])) e (exO e C (some a) d))
def sX2 (K:Frag) (i j:TE) (f:Str):TS:=fun D b H=>j b H fun y g=>i b g fun x c=>∃e C d h a fs,x=.ref e/\c e=some (exO e C (some a) h)/\c a=some (dxO a fs)/\fs.length<1000/\XSet K C d/\findIn K (.ref C) f=some none /\
 D.nx b (upd c a (dxO a (d7 f y fs)))
def V7 (p:PE X o ta) (c:PE X value tv) (r:swapsWith value (some (.Attribute o f pos')) pos.line X.env=pure false):PS X (.Assign [.Attribute o f pos'] value pos) (sX1 X.K ta tv f):=by
 intro a s b H D I h;refine aav (thn (c a s b H _ I h) fun u l ⟨y,v,j,z,q⟩=>thn (p a l b v _ j q) fun A L ⟨x,G,w,k,e,C,N,M,E,i,F,n,B⟩=>?_) r;subst E;obtain rfl:A=Value.ref e:=k;exact V2 F w i n z fun d J t g m=>⟨b,_,m,B d t g⟩
def V8 (l:PE X o ta) (c:PE X value tv) (m:swapsWith value (some (.Attribute o f pos')) pos.line X.env=pure false):PS X (.Assign [.Attribute o f pos'] value pos) (sX2 X.K ta tv f):=by
 intro a s b H D I h;refine aav (thn (c a s b H _ I h) fun u j ⟨y,p,g,v,q⟩=>thn (l a j b p _ g q) fun w L ⟨x,G,t,i,e,C,N,M,E,fs,A,d,B,r,F,n,z⟩=>?_) m;subst A;obtain rfl:w=Value.ref e:=i;exact V3 F t d B r n v fun J k=>⟨b,_,k,z⟩
def wG (K:Frag) (ns:List Str):Sp:=fun vs H Q _=>∃e b C c,vs=.ref e::b/\b.length=ns.length/\H e=some (exO e C none true)/\XSet K C c/\(∀n∈ns,findIn K (.ref C) n=some none) /\
 ∀a,H a=none->a≠e->Q .non (upd (upd H a (dxO a (ns.zip b))) e (exO e C (some a) true))
def EY (h:a≠b):upd (upd H a o) b u=upd (upd H b u) a o:=by
 funext c;unfold upd;by_cases d:c=a
 ·by_cases e:c=b
  ·exact absurd (d.symm.trans e) h
  simp [d,h]
 simp [d]
end L2
namespace L3
open L2
def tX {K:Frag}:∀{ns:List Str}{ts:List T}{vs:List V},Reps K H ts vs->RepF K H (ns.zip ts) (ns.zip vs)
 |[],_,_,_=>.nil
 |_::_,[],_,r=>by rw[r.inv0];exact .nil
 |n::ns,t::ts,_,r=>by
  obtain⟨v,c,rfl,b,a⟩:=r.inv
  exact .cons ⟨rfl,b⟩ (tX a)
section
variable {X:Cx}{k:Nat}{np cpos pos:Pos}
def qK (C:Addr) (ns:List Str) (E:St3->YK3) (t:TA3):TS3:=fun _ a H=>t a H fun vs b=>vs.length=ns.length/\E a C (ns.zip vs) b
def Fb (hc:X.calm=true) (V:ExcBaseFacts Bn newId inN bmN) (v:bmB.contains (.type Bn)=true) (FB:ExcBaseFacts B nid initId bmB) (M:XMk X.K C f bmB newId) (S:XSet X.K C cd) (L:∀n∈ns,findIn X.K (.ref C) n=some none) (hn8:ns.length<=100) (y:ns≠[])
  (F:FnOk X.prog X.w X.K X.mg X.base CX0 k f fd ps (wG X.K ns)) (hr:Room (k+1) X.A) (Z:Binds X.K fd ps []) (hg:Gl X x) (hm:X.mg x=some (.ref C)) (W:jE X E) (ha:PA3 X (e::es) t)
  (J:(x==("__debug__":Str))=false:=by decide) (he:starEach (e::es) X.env=(false,eval e X.env)::starEach es X.env:=by rfl) (I:(backTo cpos (starEach es X.env)).any (·.1)=false:=by rfl) :
  PS3 X (.Raise (some (.Call (.Name x np) (e::es) [] cpos)) none pos) (qK C ns E t):=by
 refine PS.imp (Eu hc V v FB M F hr Z hg hm W ha J he I) ?_;rintro D σ H ⟨s,H3,D3,P,T,h,_⟩;refine⟨s,H3,_,P,T,h,fun vs H' ts N Y m r ⟨hl,q⟩=>?_⟩;have R:=r.length;refine⟨by have:sizeLine=16777216:=rfl;omega,fun a G Q hQ=>⟨a,vs,C,cd,rfl,by omega,aY,S,L,fun c p j=>hQ _ c aY ?_⟩⟩;have d:H' c=none:=by rw[aL j] at p;exact p
 have g:∀b,b≠a->b≠c->rem (upd (upd (upd H' a (exO a C none true)) c (dxO c (ns.zip vs))) a (exO a C (some c) true)) a b=H' b:=fun b O U=>by rw[ig O,aL O,aL U,aL O]
 have l:∀b u,H' b=some u->b≠a/\b≠c:=fun b u z=>⟨fun w=>(by subst w;rw[G] at z;cases z),fun w=>(by subst w;rw[d] at z;cases z)⟩;have i:TupLe X.K H' (rem (upd (upd (upd H' a (exO a C none true)) c (dxO c (ns.zip vs))) a (exO a C (some c) true)) a):=fun b xs z=>by
  rcases z with (z | ⟨o,z⟩) | z
  ·exact .inl (.inl ((g b (l b _ z).1 (l b _ z).2).trans z))
  ·exact .inl (.inr ⟨o,(g b (l b _ z).1 (l b _ z).2).trans z⟩)
  exact .inr z
 refine⟨C,ns.zip ts,s,N,rfl,P.mono (Y.trans i),fun b o z=>(m b o z).stay i fun u w=>(g b (l b _ w).1 (l b _ w).2).trans w,⟨fun z=>y (Zz ?_),m.fresh d,ns.zip vs,?_,(tX r).mono i⟩,q⟩
 ·have:=W_ List.length z;rw[List.length_zip,Y0] at this;omega
 rw[ig j,aL j,aY]
def mR (C:Addr) (E:St3->YK3):TS3:=fun _ a H=>E a C [] H
def zY (k:X.calm=true) (j:ExcBaseFacts Bn newId inN bmN) (c:bmB.contains (.type Bn)=true) (i:ExcBaseFacts B nid initId bmB) (M:XMk0 X.K C bmB newId) (d:Gl X x) (f:X.mg x=some (.ref C)) (l:jE X E) (a:(x==("__debug__":Str))=false:=by decide) :
  PS3 X (.Raise (some (.Call (.Name x np) [] [] cpos)) none pos) (mR C E):=by
 refine PS.imp (zX k j c i M d f l a) ?_;rintro D n H ⟨b,H3,m,g,e,h,_⟩;exact⟨C,[],b,H3,rfl,g,e,rfl,h⟩
end
end L3
namespace L2
def Fd:List Value->Bool
 |.ref _::r=>Fd r
 |l=>l==bmV
def pF (a:Value):∀(l:List Value),Fd l=true->refuseLoop a "__setattr__" l=pure ()
 |[],h=>by cases (Zt.mp (show (([]:List Value)==bmV)=true from h))
 |v::r,h=>by
  by_cases q:∃c,v=.ref c
  ·
   obtain⟨c,rfl⟩:=q
   rw[refuseLoop_ref]
   exact pF a r h
  ·
   have e:v::r=bmV:=by
    cases v with
    |ref c=>exact absurd ⟨c,rfl⟩ q
    |_=>exact Zt.mp h
   rw[e]
   exact PySem.F.store_ValueError.passes a
def Yl (K:Frag) (C:Addr):Bool:=(clsIn K C).any fun a=>a.hasDict&&Fd a.mro
def JR {K:Frag} (h:Yl K C=true) (d:findIn K (.ref C) "__setattr__"=some (some (.builtin "object.__setattr__"))) (c:mroIn K C (.type "object")=some true):∃b,XSet K C b:=by
 obtain⟨b,e,q⟩:=any_some h;rw[YD] at q;exact⟨b,e,d,fun a=>pF a _ q.2,c,q.1⟩
end L2
namespace L3
open L2
structure CalX (P:Program) (w:World) (K:Frag) (mg:Str->Option Value) (base:Heap) (k:Nat) (x:Str) (st:Stmt) (ps:List Str) (sp:qI):Prop where
 ex:∃(f:Addr) (fd:FuncData),G3 K mg x st ps f fd/\Ey P w K mg base k f fd ps sp
def Fe {st:Stmt}{p c:Pos} (D:CalX X.prog X.w X.K X.mg X.base k x st l sp) (q:jE X E) (j:Room k X.A) (i:Gl X x) (n:PA3 X (e::a) t) (d:(x==("__debug__":Str))=false:=by decide) (o:starEach (e::a) X.env=(false,eval e X.env)::starEach a X.env:=by rfl) (h:(backTo c (starEach a X.env)).any (·.1)=false:=by rfl):
  PE3 X (.Call (.Name x p) (e::a) [] c) (qJ sp E t):=by
 obtain⟨f,r,g,F⟩:=D.ex;exact Ez F j i g.m g.fn.kp g.b q n d o h
structure ExcC (P:Program) (w:World) (K:Frag) (mg:Str->Option Value) (base:Heap) (x:Str) (C:Addr) (ns:List Str):Prop where
 m:mg x=some (.ref C)
 ex:∃f fd ps cd,XMk K C f bmV "ValueError.__new__"/\XSet K C cd/\FnOk P w K mg base CX0 1 f fd ps (wG K ns)/\Binds K fd ps []
 nf:∀n∈ns,findIn K (.ref C) n=some none
 nl:ns.length<=100
 n0:ns≠[]
structure ExcN (K:Frag) (mg:Str->Option Value) (x:Str) (C:Addr):Prop where
 m:mg x=some (.ref C)
 k:XMk0 K C bmV "ValueError.__new__"
def zZ (D:ExcN X.K X.mg x C) (g:jE X E) (f:X.calm=true) (d:Gl X x) (b:(x==("__debug__":Str))=false:=by decide):
  PS3 X (.Raise (some (.Call (.Name x e) [] [] a)) none c) (mR C E):=zY f aal (by decide) aal D.k d D.m g b
def z6 {n a d:Pos} (D:ExcC X.prog X.w X.K X.mg X.base x C ns) (p:jE X E) (i:Room 2 X.A) (o:X.calm=true) (h:Gl X x) (j:PA3 X (e::b) t) (c:(x==("__debug__":Str))=false:=by decide) (k:starEach (e::b) X.env=(false,eval e X.env)::starEach b X.env:=by rfl) (g:(backTo a (starEach b X.env)).any (·.1)=false:=by rfl):
  PS3 X (.Raise (some (.Call (.Name x n) (e::b) [] a)) none d) (qK C ns E t):=by
 obtain⟨f,s,q,r,M,S,F,l⟩:=D.ex;exact Fb o aal (by decide) aal M S D.nf D.nl D.n0 F i l h D.m p j c k g
structure AskC (K:Frag) (mg:Str->Option Value) (x:Str) (R:Addr):Prop where
 m:mg x=some (.ref R)
 a:XAsk K R
end L3
namespace L2
structure XGet (K:Frag) (C:Addr):Prop where
 ga:findIn K (.ref C) "__getattribute__"=some (some (.builtin "BaseException.__getattribute__"))
 gt:findIn K (.ref C) "__getattr__"=some none
 be:mroIn K C (.type "BaseException")=some true
 hd:hasDictIn K C=true
section
variable {K:Frag}
def Ym (F:XGet K C) (X:K.In s.heap) (I:InstAt s.heap x ox C (some od)) (q:findIn K (.ref C) name=some none) (j:lookIn name od=some (some v)) (u:handedIn v=true) (h:Q v { s with toks:=s.toks+1}):wpAny (model prog w) A (getAttr (.ref x) name expr) Q E s:=by
 replace h:∀t',t'=s.toks+1->Q v { s with toks:=t'}:=fun t' e=>e▸h;have k:=findObj_own (attr:=none) F.hd q rfl j;obtain⟨f,g,d,t,i⟩:=s;have c:=I.type (M:=model prog w);have r:=aaR (M:=model prog w) X F.ga;have y:=aaR (M:=model prog w) X F.gt;have m:=looks_find (M:=model prog w) X I k;have p:PySem.W.Looks (model prog w) f (isInstance (.ref x) (.type "BaseException")) true:=I.type.andThen (abb X F.be);have z:=aaA.ga.bind (.ref x);have l:(expr&&onTheHeap (Value.builtin "BaseException.__getattribute__"))=false:=by cases expr <;> rfl
 have b:(Value.builtin "BaseException.__getattribute__"==Value.builtin "object.__getattribute__")=false:=by decide +kernel
 have n:(onTheHeap (Value.ref C)&&Value.builtin "BaseException.__getattribute__"==Value.builtin "object.__getattribute__")=false:=by rw[b];rfl
 unfold getAttr getAttrBy;refine a_ (wpAny_mkText (Zw (a_ (c.at (a_ (r.at ?_))))));show wpAny (model prog w) A (getAttrByItsOwn (.ref x) (.str name t) (.ref C) (.builtin "BaseException.__getattribute__") true expr) Q E ⟨f,g,d,t+1,i⟩;unfold getAttrByItsOwn;repeat (any_goals (first | assumption | (with_reducible refine PySem.W.Looks.at c ?_) | (with_reducible refine PySem.W.Looks.at y ?_) | wp_step))
 show codeAny (model prog w) A (.call (.builtin "BaseException.__getattribute__") ⟨[.ref x,.str name t],[]⟩) _ _;have o:builtinKind "BaseException.__getattribute__"=some .slot:=by decide +kernel
 have a:splitId "BaseException.__getattribute__"=some ("BaseException","__getattribute__"):=by decide +kernel
 refine aaQ aaA.ga.plain PySem.F.entry_bexc_ga (@check_slot (model prog w) _ _ ⟨f,g,d,t+1,i⟩ "BaseException.__getattribute__" "BaseException" "__getattribute__" (.ref x) [.str name t] [] _ o a p (PySem.F.args_bexc_ga (.ref x) (.str name t)) ?_);refine a_ (n_ (a_ (n_ (a_ (c.at (a_ (m.at ?_)))))));refine n_ ?_;show wpAny _ _ (handedOut v) _ _ _;rw[PySem.W.handedOut_of u];exact n_ (h _ rfl)
def tXF (K:Frag) (e:TE) (f:Str):TE:=fun g H Q=>e g H fun x c=>∃a C b d fs v,x=.ref a/\c a=some (exO a C (some b) d)/\c b=some (dxO b fs)/\XGet K C/\findIn K (.ref C) f=some none/\fs.lookup f=some v/\Q v c
def V9 (y:PE X e ta) (w:attributeBase e f X.env (eval e X.env)=eval e X.env):PE X (.Attribute e f pos) (tXF X.K ta f):=by
 intro b s B H Q I h;refine xg w (thn (y b s B H _ I h) fun u J ⟨x,z,c,m,a,C,i,L,fs,v,D,k,E,G,A,l,q⟩=>?_);subst D;obtain rfl:u=Value.ref a:=m;obtain⟨vs,n,j,_⟩:=exO.of c.hok k;obtain⟨mA,d,r,_⟩:=dxO.of c.hok E;obtain⟨od,t,F⟩:=iB d;obtain⟨u,p,g⟩:=RelO.some_of (v:=v) (o:=mA f) (by rw[<- l];exact r f);refine Ym G c.kIn (ox:=⟨.ref C,some i,.fields vs,n⟩) ⟨j,rfl,rfl,t⟩ A (by rw[F,p]) (oG g) ⟨v,z,c.tok _,g,q⟩
end
structure XIs (K:Frag) (C:Addr):Prop extends XGet K C where
 kl:findIn K (.ref C) "__class__"=some (some (.builtin "object.__class__"))
 kg:specialIn K (.builtin "object.__class__") "__get__"=some (some (.builtin "getset_descriptor.__get__"))
 kt:takesIn K (.builtin "object.__class__")=some true
 ko:mroIn K C (.type "object")=some true
section
variable {K:Frag}
def Q0 (F:XIs K C) (X:K.In s.heap) (I:InstAt s.heap x ox C od) (h:Q (some (.ref C)) { s with toks:=s.toks+1}):
  wpAny (model prog w) A (getAttr? (.ref x) "__class__") Q E s:=by
 replace h:∀t',t'=s.toks+1->Q (some (.ref C)) { s with toks:=t'}:=fun t' e=>e▸h;have i:findObj K C od "__class__"=some (.bind (.builtin "getset_descriptor.__get__") (.builtin "object.__class__")):=by obtain⟨p,k,_⟩:=any_some F.hd;unfold findObj;rw[k,Option.bind_some,F.kl,Option.bind_some];simp [F.kg,F.kt]
 obtain⟨a,g,d,t,f⟩:=s;have c:=I.type (M:=model prog w);have n:=aaR (M:=model prog w) X F.ga;have o:=aaR (M:=model prog w) X F.gt;have j:=looks_find (M:=model prog w) X I i;have m:PySem.W.Looks (model prog w) a (isInstance (.ref x) (.type "BaseException")) true:=I.type.andThen (abb X F.be);have q:=aaA.ga.bind (.ref x);unfold getAttr? getAttrBy? getAttrBy;refine a_ (wpAny_mkText (a_ (wpAny_attempt (Zw (a_ (c.at (a_ (n.at ?_))))))));show wpAny (model prog w) A (getAttrByItsOwn (.ref x) (.str "__class__" t) (.ref C) (.builtin "BaseException.__getattribute__") false false) _ _ ⟨a,g,d,t+1,f⟩;unfold getAttrByItsOwn;repeat (any_goals (first | assumption | (with_reducible refine PySem.W.Looks.at c ?_) | (with_reducible refine PySem.W.Looks.at o ?_) | wp_step))
 show codeAny (model prog w) A (.call (.builtin "BaseException.__getattribute__") ⟨[.ref x,.str "__class__" t],[]⟩) _ _;have l:builtinKind "BaseException.__getattribute__"=some .slot:=by decide +kernel
 have b:splitId "BaseException.__getattribute__"=some ("BaseException","__getattribute__"):=by decide +kernel
 refine aaQ aaA.ga.plain PySem.F.entry_bexc_ga (@check_slot (model prog w) _ _ ⟨a,g,d,t+1,f⟩ "BaseException.__getattribute__" "BaseException" "__getattribute__" (.ref x) [.str "__class__" t] [] _ l b m (PySem.F.args_bexc_ga (.ref x) (.str "__class__" t)) ?_);refine a_ (n_ (a_ (n_ (a_ (c.at (a_ (j.at ?_)))))));show wpAny _ _ (holding [Value.builtin "object.__class__"] (call (.builtin "getset_descriptor.__get__") [.builtin "object.__class__",.ref x,.ref C]) >>= ret) _ _ _;refine a_ (Zw (aa1 (PySem.W.class_get (s:=⟨a,g,d,t+1,f⟩) (ox:=ox) (od:=od) X I F.ko (n_ ?_))));exact n_ (n_ (h _ rfl))
def tY (F:XIs K C):KitX K (.ref x) (.ref C) (fun h=>InstAt h x ox C od) where
 ty:=fun _ _ _ I=>I.type
 it:=fun _ _ X _=>by
  obtain⟨g,a,_⟩:=any_some F.hd
  unfold clsIn at a
  split at a
  ·
   rename_i b
   intro j l m s' k q
   unfold isType loadHead
   exact a_ (wpAny_loadPart (k _ _ (X _ _ b)) (n_ q))
  ·
   cases a
 ne:=fun h f i d n o X c=>by
  obtain⟨g,a,_⟩:=any_some F.hd
  refine Bool.eq_false_iff.mpr fun q=>?_
  have e:C=f:=Value.ref.inj (Zt.mp q)
  subst e
  unfold clsIn at a
  split at a
  ·
   rename_i b
   have z:=(X _ _ b).symm.trans c
   cases z
  ·
   cases a
 ca:=fun X I k=>Q0 F X I k
end
end L2
namespace L3
open L2
def Ends3.gone (D:Ends3) (i:Nat):Ends3:=⟨fun a H=>D.nx (a.set i none) H,D.rt,fun a H=>D.bk (a.set i none) H,fun a H=>D.ct (a.set i none) H⟩
def hpX (H:Hp3) (b C:Addr) (fs:List (Str × T)) (d:Option Addr):Hp3:=match d with
 |none=>up3 H b (.exc C none)
 |some a=>up3 (up3 H a (.xdt fs)) b (.exc C (some a))
def newX (H:Hp3) (b:Addr) (fs:List (Str × T)) (d:Option Addr):Prop:=H b=none/\match d with
 |none=>fs=[]
 |some a=>fs≠[]/\H a=none/\b≠a
def Ff (K:Frag) (R:Addr) (i:Nat) (th:TS3) (D:Ends3):St3->YK3:=fun b C fs H=>mroIn K C (.ref R)=some true/\∀a d,newX H a fs d->th (D.gone i) (b.set i (some (.ref a))) (hpX H a C fs d)
def Fg (K:Frag) (R:Addr) (i:Nat) (tb:(St3->YK3)->TS3) (th:TS3):TS3:=fun D a H=>tb (Ff K R i th D) D a H
def SimS.gone {K:Frag} (s:SimS K H a c) (i:Nat):SimS K H (a.set i none) (c.set i none):=by
 refine⟨by simp [s.len],fun j t e=>?_⟩;by_cases b:i=j
 ·subst b;by_cases d:i<a.length
  ·rw[Zd d] at e;cases e
  rw[P_ (by simpa using d)] at e;cases e
 rw[Zr b] at e ⊢;exact s.at' j t e
def Q4 (hs:X.stack=X.env::X.outer) (hf:X.env.frame=some X.env.locals) (a:XAsk X.K R) (hg:Gl X x) (hm:X.mg x=some (.ref R)) (hN:X.N.Nodup) (hi:X.N[i]?=some n) (hl:X.env.scope.names.lookup n=some .local)
  (F:∀(Q:Value->Shared->Prop) (S:List (Addr × Obj)) (V:Hp) (B:St3->YK3),jE (X.atTry Q S V) B->jr (X.atTry Q S V) body (tb B)) (m:∀f,jr (X.inH f) (b₀::suite) th) (hdb:(x==("__debug__":Str))=false:=by decide) :
  PS3 X (.Try body [.ExceptHandler (some (.Name x np)) (some n) (b₀::suite) hpos] [] [] pos) (Fg X.K R i tb th):=by
 refine PS.imp (QW (R:=R) (i:=i) (th:=Br X.K th) (tb:=fun Es D p H=>∃B:St3->YK3,(∀p A M H,V6 X.K B p A M H->Es p A M H)/\Br X.K (tb B) D p H) hs hf a hg hm hN hi hl (fun Q S V Es hM=>?_) m hdb) ?_
 ·rintro k s p H D I ⟨B,imp,h⟩;exact F Q S V B (fun k p H s f C y Fl he=>hM k p H s f C y Fl (imp _ _ _ _ he)) k s p H D I h
 rintro D p H ⟨σ3,H3,U,ss,sh,h,k1,k2,k3,k4⟩;refine⟨Ff X.K R i th U,?_,σ3,H3,U,ss,sh,h,k1,k2,k3,k4⟩;rintro σ' A d H' ⟨C,fs,t,j,rfl,ss',v,hd,J,hh⟩;refine⟨C,rfl,J,fun Z f g=>?_⟩;have T:TupLe X.K H' (upd H' f (exO f C d false)):=aO g;have q:TupLe X.K H (upd H' f (exO f C d false)):=TupLe.trans (fun a xs z=>Z a xs z) T;have L:∀Y,SimH X.K Y (upd H' f (exO f C d false))->th (U.gone i) (t.set i (some (.ref f))) Y->Br X.K th (D.gone i) (σ'.set i (some (.ref f))) (upd H' f (exO f C d false)):=fun Y s4 h4 =>
  ⟨t.set i (some (.ref f)),_,U.gone i,(ss'.mono T).set .ofRef,s4,h4,fun G H1 r O l a b c=>k1 _ _ _ _ (q.trans l) (a.gone i) b c,k2.at q,fun G H1 r O l a b c=>k3 _ _ _ _ (q.trans l) (a.gone i) b c,fun G H1 r O l a b c=>k4 _ _ _ _ (q.trans l) (a.gone i) b c⟩
 have P:∀b o,b≠f->j b=some o->RepO X.K (upd H' f (exO f C d false)) b o:=fun b o w e=>(v b o e).stay T fun u z=>(aL w).trans z;cases d with
 |none =>
  refine L _ (fun b o e=>?_) (hh f none ⟨v.fresh g,hd⟩);by_cases w:b=f
  ·subst w;rw[show hpX j b C fs none b=some (.exc C none) from au] at e;cases e;exact aY
  rw[show hpX j f C fs none b=j b from aF w] at e;exact P b o w e
 |some y =>
 obtain⟨h0,h1,vs,W,rf⟩:=hd;have ne:f≠y:=fun z=>by subst z;rw[g] at W;cases W
 refine L _ (fun b o e=>?_) (hh f (some y) ⟨v.fresh g,h0,h1,ne⟩);have E:up3 (up3 j y (.xdt fs)) f (.exc C (some y)) b=some o:=e;by_cases w:b=f
 ·subst w;rw[au] at E;cases E;exact aY
 rw[aF w] at E;by_cases w2:b=y
 ·subst w2;rw[au] at E;cases E;exact⟨vs,(aL w).trans W,rf.mono T⟩
 rw[aF w2] at E;exact P b o w E
def MK (C:Addr):TE3:=fun _ H Q=>Q (.ref C) H
def gH (c:Gl X x) (e:X.mg x=some (.ref C)) (a:(x==("__debug__":Str))=false:=by decide):PE3 X (.Name x p) (MK C):=by
 rintro b s j H Q I ⟨f,H3,g,i,d,h,k⟩;exact gA I c e ⟨.ref C,H,I,rfl,k _ _ _ _ .refl d .ofRef h⟩ a
def Q5 (K:Frag) (te:TE3) (f:Str):TE3:=fun d H Q=>te d H fun x b=>∃a C c fs t,x=.ref a/\b a=some (.exc C (some c))/\b c=some (.xdt fs)/\XGet K C/\findIn K (.ref C) f=some none/\fs.lookup f=some t/\Q t b
def pG {K:Frag}:∀{fs:List (Str × T)}{vs:List (Str × V)},RepF K H fs vs->fs.lookup f=some t->∃v,vs.lookup f=some v/\Rep K H t v
 |[],_,.nil,h=>nomatch h
 | (g,u)::fs,(g',u')::vs,.cons ⟨e,r⟩ rr,h=>by
  cases e
  rw[Zh] at h ⊢
  cases q:(f==g) with
  |true =>
   rw[q] at h
   cases h
   exact⟨u',rfl,r⟩
  |false =>
   rw[q] at h
   exact pG rr h
def Wa (s:PE3 X e te) (o:attributeBase e f X.env (eval e X.env)=eval e X.env:=by rfl):PE3 X (.Attribute e f pos) (Q5 X.K te f):=by
 refine PE.imp (V9 s o) ?_;rintro E H Q ⟨d,H3,D,p,i,h,k⟩;refine⟨d,H3,_,p,i,h,fun v H' t x n b r q=>?_⟩;obtain⟨a,C,c,fs,t',rfl,u,m,G,w,l,q⟩:=q;have z:H' a=some (exO a C (some c) false):=b a _ u;obtain⟨vs,B,j⟩:=b c _ m;obtain⟨y,g,A⟩:=pG j l;exact⟨a,C,c,false,vs,y,r.ref,z,B,G,w,g,k _ _ _ _ n b A q⟩
def Q6:T->Option Value
 |.ref a=>some (.ref a)
 |.ty n=>some (.type n)
 |_=>none
def yp:List T->Option (List Value)
 |[]=>some []
 |t::r=>match Q6 t,yp r with
  |some v,some vs=>some (v::vs)
  |_,_=>none
def TyX (K:Frag) (H:Hp3) (x:T) (t:Value):Prop:=(x=.non/\t=.type "NoneType")\/∃a C d,x=.ref a/\H a=some (.exc C d)/\(∀b,d=some b->∃fs,H b=some (.xdt fs))/\XIs K C/\t=.ref C
def MN (K:Frag):List T->Hp3->VK3->Prop:=fun ts H Q=>∃x c t b,ts=[x,c]/\TyX K H x t/\((∃v,Q6 c=some v/\kitOne K t v=some b)\/∃a vs,c=.tup a/\yp a=some vs/\kitAny K t vs=some b)/\Q (.bl b) H
def tZ {K:Frag} (r:Rep K H c v) (b:RelV v u) (h:Q6 c=some w):u=w:=by
 cases c with
 |ref a=>rw[r.ref] at b;cases h;exact b
 |ty n=>rw[r.ty] at b;cases h;exact b
 |_=>cases h
def pH {K:Frag}:∀{a:List T}{vs:List V}{us ws:List Value},Reps K H a vs->Vals vs us->yp a=some ws->us=ws
 |[],_,_,_,r,q,h=>by
  rw[r.inv0] at q
  cases q
  cases h
  rfl
 |c::a,_,_,_,r,q,h=>by
  obtain⟨v,j,rfl,g,d⟩:=r.inv
  cases q with
  |cons e b =>
   unfold yp at h
   split at h
   ·
    rename_i w ws f i
    cases h
    rw[tZ g e f,pH d b i]
   ·
    cases h
def Q7:cX X (.builtin "isinstance") (MN X.K):=by
 intro i s σ H xs us Q I rv h;obtain⟨ts,H3,Q3,r,A,⟨x,c,t,b,rfl,V,hc,q⟩,k⟩:=h;obtain⟨v,w,rfl,L,O⟩:=r.two';obtain⟨M,u2,rfl,y,N⟩:=vals2 rv;have e:∀tk,EP X i σ Q (.bool b) { s with toks:=tk}:=fun tk=>⟨.bl b,H,I.tok _,rfl,k _ _ _ _ .refl A .ofBl q⟩;have key:∃P:Heap->Prop,KitX X.K M t P/\P s.heap/\M≠.builtin "__main__.__loader__#opaque":=by
  rcases V with ⟨rfl,rfl⟩ | ⟨a,C,d,rfl,h1,D,G,rfl⟩
  ·rw[L.non] at y;cases y;exact⟨_,kitx_none,True.intro,fun z=>nomatch z⟩
  rw[L.ref] at y;cases y;have j:H a=some (exO a C d false):=A a _ h1;obtain⟨ws,J,m,_⟩:=exO.of I.hok j;cases d with
  |none=>exact⟨_,tY (ox:=⟨.ref C,none,.fields ws,J⟩) (od:=none) G,⟨m,rfl,rfl,trivial⟩,fun z=>nomatch z⟩
  |some B =>
  obtain⟨fs,D⟩:=D B rfl;obtain⟨vs,l,rf⟩:=A B _ D;obtain⟨mA,F,_⟩:=dxO.of I.hok l;obtain⟨od,u,_⟩:=iB F;exact⟨_,tY (ox:=⟨.ref C,some B,.fields ws,J⟩) (od:=some od) G,⟨m,rfl,rfl,u⟩,fun z=>nomatch z⟩
 obtain⟨P,Z,R,g⟩:=key;rcases hc with ⟨cv,j,l⟩ | ⟨cs,vs,rfl,j,l⟩
 ·have:=tZ O N j;subst this;exact kia_one Z I.kIn R l g e
 obtain⟨p,ys,rfl,sq,rs⟩:=O.tup;cases N;obtain⟨Y,E,⟨o,m,f,n,u⟩,_⟩:=I.tuple sq;have:=pH rs E j;subst this;obtain⟨oc,U,S,T⟩:=o;simp only at f u;subst f u;exact PySem.W.kia_tup Z I.kIn R m l g e
def JS (i:Nat) (D:AskC X.K X.mg x R) (o:X.N.Nodup) (p:X.stack=X.env::X.outer) (k:X.env.frame=some X.env.locals) (l:Gl X x) (s:X.N[i]?=some n) (q:X.env.scope.names.lookup n=some .local) (f:∀(xe:Value->Shared->Prop) (pn:List (Addr × Obj)) (H0:Hp) (E3:St3->YK3),jE (X.atTry xe pn H0) E3->jr (X.atTry xe pn H0) e (tb E3)) (c:∀ea,jr (X.inH ea) (d::b) th) (h:(x==("__debug__":Str))=false:=by decide):
  PS3 X (.Try e [.ExceptHandler (some (.Name x r)) (some n) (d::b) g] [] [] j) (Fg X.K R i tb th):=Q4 p k D.a l D.m o s q f c h
def nY:bootBuiltins "ValueError"=some (.type "ValueError"):=by decide +kernel
def Fi {K:Frag} (b:X.K=K) (c:PE3 X e te) (d:attributeBase e f X.env (eval e X.env)=eval e X.env:=by rfl):PE3 X (.Attribute e f a) (Q5 K te f):=by
 subst b;exact Wa c d
def jF {K:Frag} (a:X.K=K):cX X (.builtin "isinstance") (MN K):=by
 subst a;exact Q7
end L3
namespace M
open L2 L3
def nm0 : String := "ne_eq not_false_eq_true aF xG xK tC3 fB Lk Bw Lb Lf O5 rQ Lg K8 Uj K9 O9 Uq By Bx Li qd Ld Le XX Um sI xN X6 Cm gQ Ph Iz Pj Ur Pk fG q_I X7 Pn Pq Pu Cp jX Ut Uu Uv Uw Lx sO Ly Ux Lz LC Cq xW Uy Uz Px UG X8 Py UJ LK Pz UL UT q_D UV PB UW U0 PJ U3 PK PL IK U4 IV PN U5 PP PQ PX P0 U6 U7 U8 U9 Va Cr Vb Vc IW Vd Ve Vf Vg Qa Vh Ja LQ xY Qc Jb Qd au O8 BV oX Qg vH vI vJ zH vK Qh vL vM vN zJ vO Jj sW sX sY vP sZ CZ ql qm qp tu qt tD tE tG vQ tH lJ decide_true decide_false Bool.not_true Bool.not_false at0 at1 at2 List.eraseIdx_cons_zero Int.toNat_natCast pY List.length_map List.length_cons List.length_nil Nat.zero_add Bool.false_eq_true if_false if_true List.getElem?_cons_zero List.getElem?_cons_succ List.set_cons_zero List.set_cons_succ Vl Vm List.map_cons List.map_nil De Ql Vn Vo Qn Qo Mi Mj Dr Mp Fx MT Mm Q8 Q9 Rg Rh Yg Jp Jq Jr Js Qx Vu Vj Vk CK RC Mv DR QG Mw Mx VF DW Mz MF DY yf qw Vx Yh Mq Dy Ju DG QB Vz DN wg QD Mr Ms DP Mt Mu VG QL VH QK qJ MK Q5 Fg Ff qK mR Jc Jd Cz Je CG Vi Jf RP Gm RQ RV Ei VM Wv Ww JK VR JM V0 Qv Vq Jo Vr"
structure isNm (x:Str):Prop where
 lo:1<=x.length
 hi:x.length<=8
 az:∀c∈x.cps.toList,97<=c/\c<=122
structure Nms (ws:List Str):Prop where
 nm:∀x∈ws,isNm x
 nd:ws.Nodup
def Nms.nil:Nms []:=⟨fun _ h=>(nomatch h),aam⟩
def Nms.snoc (n:Nms ws) (h:isNm x) (b:x∉ws):Nms (ws++[x]) :=
 ⟨fun y a=>(v_.mp a).elim (n.nm y) fun z=>by rw[i_.mp z];exact h,fJ n.nd b⟩
structure Wk where
 tasks:List (Str × Int × List Str)
 orders:List (Str × Str)
 pairs:List (Str × Str × Str)
 row:List Str
def sT (xs:List Str):T:=.tup (xs.map T.str)
def tkT (t:Str × Int × List Str):T:=.tup [.str t.1,.int t.2.1,sT t.2.2]
def orT (o:Str × Str):T:=.tup [.str o.1,.str o.2]
def prT (p:Str × Str × Str):T:=.tup [.str p.1,.str p.2.1,.str p.2.2]
def Wk.enc (W:Wk):T:=.tup [.tup (W.tasks.map tkT),.tup (W.orders.map orT),.tup (W.pairs.map prT),sT W.row]
structure tkOk (t:Str × Int × List Str):Prop where
 nm:isNm t.1
 lo:1<=t.2.1
 hi:t.2.1<10^60
 ks:Nms t.2.2
 kl:t.2.2.length<=4
structure WkOk (W:Wk):Prop where
 t1:1<=W.tasks.length
 t8:W.tasks.length<=8
 tk:∀t∈W.tasks,tkOk t
 nd:(W.tasks.map (·.1)).Nodup
 os:W.orders.length<=28
 od:W.orders.Nodup
 oo:∀o∈W.orders,o.1≠o.2/\o.1∈W.tasks.map (·.1)/\o.2∈W.tasks.map (·.1)
 ps:W.pairs.length<=12
 pd:W.pairs.Nodup
 pp:∀p∈W.pairs,(p.1="with"\/p.1="apart")/\p.2.1≠p.2.2/\p.2.1∈W.tasks.map (·.1)/\p.2.2∈W.tasks.map (·.1)
 r1:1<=W.row.length
 r8:W.row.length<=8
 rn:∀x∈W.row,isNm x
def fL {c:Type}{f:c->T}(d:∀{a b},f a=f b->a=b) {x:c}{xs:List c}:f x∈xs.map f↔x∈xs:=by
 rw[z_];exact⟨fun ⟨y,g,e⟩=>d e▸g,fun h=>⟨x,h,rfl⟩⟩
def jG (h:T.str a=T.str b):a=b:=by injection h
def Wb {c:Type}{f:c->T}(d:∀{a b},f a=f b->a=b) {x:c}{xs:List c}:dj true (f x) (xs.map f)=true↔x∉xs:=by
 unfold dj;simp [fL d]
def Yn {c:Type}{f:c->T}(d:∀{a b},f a=f b->a=b) {x:c}{xs:List c}:dj false (f x) (xs.map f)=true↔x∈xs:=by
 unfold dj;simp [fL d]
def cW (xs:List Str):(xs.map T.str).all (pl 20)=true:=by rw[Zx];intro t a;obtain⟨x,_,rfl⟩:=z_.mp a;rfl
def Q8 (W:Wk) (H:Hp3) (Q:VK3):sH W.enc (.int 0) H Q=Q (.tup (W.tasks.map tkT)) H:=rfl
def Q9 (W:Wk) (H:Hp3) (Q:VK3):sH W.enc (.int 1) H Q=Q (.tup (W.orders.map orT)) H:=rfl
def Rg (W:Wk) (H:Hp3) (Q:VK3):sH W.enc (.int 2) H Q=Q (.tup (W.pairs.map prT)) H:=rfl
def Rh (W:Wk) (H:Hp3) (Q:VK3):sH W.enc (.int 3) H Q=Q (.tup (W.row.map T.str)) H:=rfl
def pick:List Str->Int->List Str
 |[],_=>[]
 |x::r,b=>if b%2=1 then x::pick r (b / 2) else pick r (b / 2)
def tot:List Str->Int->Int
 |[],_=>0
 |_::r,b=>(if b%2=1 then 1 else 0)+2*tot r (b / 2)
def numOf:List Str->List Str->Int
 |[],_=>0
 |x::r,ss=>(if x∈ss then 1 else 0)+2*numOf r ss
def jH:∀(ws:List Str) (b:Int),∀x∈pick ws b,x∈ws
 |[],_,x,h=>by cases h
 |y::r,b,x,h=>by
  unfold pick at h
  split at h
  ·
   rcases u_.mp h with rfl | h
   ·
    exact k_
   ·
    exact q_ _ (jH r _ x h)
  ·
   exact q_ _ (jH r _ x h)
def kZ:∀(ws b a:List Str),(∀x∈ws,x∈b↔x∈a)->numOf ws b=numOf ws a
 |[],_,_,_=>rfl
 |y::r,b,a,h=>by
  have d:=h y k_
  have e:=kZ r b a fun x c=>h x (q_ _ c)
  simp only[numOf,e,d]
def mU:∀(ws:List Str) (b:Int),ws.Nodup->numOf ws (pick ws b)=tot ws b
 |[],_,_=>rfl
 |y::r,b,nd=>by
  rw[Y9] at nd
  have a:=mU r (b / 2) nd.2
  have d:y∉pick r (b / 2):=fun h=>nd.1 (jH r _ y h)
  by_cases c:b%2=1
  ·
   have e:numOf r (y::pick r (b / 2))=numOf r (pick r (b / 2)):=kZ r _ _ fun x f=>by
    have:x≠y:=fun e=>nd.1 (e▸f)
    simp [this]
   simp only[numOf,tot,pick,c,if_true,e,a,u_,true_or]
  ·
   simp only[numOf,tot,pick,c,YG,d,a]
def Fj:∀(ws:List Str) (b:Int),0<=b->b<2^ws.length->tot ws b=b
 |[],b,h0,h1=>by simp at h1;simp only[tot];omega
 |y::r,b,h0,h1=>by
  have a:b / 2<2^r.length:=by
   rw[j_,aa8] at h1
   omega
  have c:=Fj r (b / 2) (by omega) a
  simp only[tot,c]
  split <;> omega
def mV:∀(A:List Str) (y:Str) (a:List Str),numOf (A++[y]) a=numOf A a+2^A.length*(if y∈a then 1 else 0)
 |[],y,a=>by simp [numOf]
 |x::A,y,a=>by
  have b:=mV A y a
  simp only[aay,numOf,j_,b,aa8]
  generalize (2:Int)^A.length=w
  generalize (if y∈a then (1:Int) else 0)=z
  rw[Int.mul_add,<- Int.mul_assoc,Int.mul_comm 2 w]
  omega
def t7:∀(A B:List Str) (b:Int),pick (A++B) b=pick A b++pick B (b / 2^A.length)
 |[],B,b=>by simp [pick]
 |y::A,B,b=>by
  have a:=t7 A B (b / 2)
  have e:b / 2 / 2^A.length=b / 2^(A.length+1):=by
   rw[aa8,Int.mul_comm,Int.ediv_ediv_of_nonneg (by decide)]
  simp only[aay,pick,j_,a,e]
  split <;> simp
def qL (m n:Nat):Builtin.bitAnd (m:Int) (n:Int)=((m &&& n:Nat):Int):=by
 unfold Builtin.bitAnd;rfl
def Ri (m n:Nat):Builtin.bitOr (m:Int) (n:Int)=((m ||| n:Nat):Int):=by
 have h:∀z:Nat,decide ((0:Int)<=Builtin.bitNot (z:Int))=false:=fun z=>H_ (by unfold Builtin.bitNot;omega);have g:∀z:Int,Builtin.bitNot (Builtin.bitNot z)=z:=fun z=>by unfold Builtin.bitNot;omega
 unfold Builtin.bitOr Builtin.bitAnd;rw[h,h];simp only[g,Zk]
def bY:List Str->List Str->Nat
 |[],_=>0
 |x::r,ss=>(if x∈ss then 1 else 0)+2*bY r ss
def cH:∀(ns a:List Str),numOf ns a=((bY ns a:Nat):Int)
 |[],_=>rfl
 |x::r,a=>by
  have:=cH r a
  simp only[numOf,bY,this]
  by_cases h:x∈a <;> simp [h]
def JT (b c a d:Nat) (j:b<2) (k:c<2):(b+2*a) &&& (c+2*d)=(if b=1/\c=1 then 1 else 0)+2*(a &&& d):=by
 have f:((b+2*a) &&& (c+2*d)) / 2=(b+2*a) / 2 &&& (c+2*d) / 2:=Nat.and_div_two;have g:(b+2*a) / 2=a:=by omega
 have i:(c+2*d) / 2=d:=by omega
 rw[g,i] at f;have e:((b+2*a) &&& (c+2*d))%2=1↔(b+2*a)%2=1/\(c+2*d)%2=1:=Nat.and_mod_two_eq_one;by_cases h:b=1/\c=1
 ·rw[if_pos h];have:=e.mpr ⟨by omega,by omega⟩;omega
 rw[if_neg h];have:¬((b+2*a) &&& (c+2*d))%2=1:=fun z=>h (by have:=e.mp z;omega);omega
def Rj (b c a d:Nat) (j:b<2) (k:c<2):(b+2*a) ||| (c+2*d)=(if b=1\/c=1 then 1 else 0)+2*(a ||| d):=by
 have f:((b+2*a) ||| (c+2*d)) / 2=(b+2*a) / 2 ||| (c+2*d) / 2:=Nat.or_div_two;have g:(b+2*a) / 2=a:=by omega
 have i:(c+2*d) / 2=d:=by omega
 rw[g,i] at f;have e:((b+2*a) ||| (c+2*d))%2=1↔(b+2*a)%2=1\/(c+2*d)%2=1:=Nat.or_mod_two_eq_one;by_cases h:b=1\/c=1
 ·rw[if_pos h];have:=e.mpr (by omega);omega
 rw[if_neg h];have:¬((b+2*a) ||| (c+2*d))%2=1:=fun z=>h (by have:=e.mp z;omega);omega
def lM (p:Prop) [Decidable p]:(if p then 1 else 0)<2:=by split <;> decide
def mW:∀(ns A B:List Str),bY ns A &&& bY ns B=bY ns (A.filter fun x=>decide (x∈B))
 |[],_,_=>by simp [bY]
 |x::r,A,B=>by
  simp only[bY]
  rw[JT _ _ _ _ (lM _) (lM _),mW r A B]
  by_cases b:x∈A <;> by_cases a:x∈B <;> simp [b,a]
def yq:∀(ns A B:List Str),bY ns A ||| bY ns B=bY ns (A++B)
 |[],_,_=>by simp [bY]
 |x::r,A,B=>by
  simp only[bY]
  rw[Rj _ _ _ _ (lM _) (lM _),yq r A B]
  by_cases b:x∈A <;> by_cases a:x∈B <;> simp [b,a]
def jJ:∀(ns A B:List Str),bY ns A=bY ns B↔∀x∈ns,x∈A↔x∈B
 |[],_,_=>by simp [bY]
 |y::r,A,B=>by
  have b:=jJ r A B
  simp only[bY,u_,forall_eq_or_imp]
  rw[<- b]
  by_cases c:y∈A <;> by_cases a:y∈B <;> simp only[c,a,if_true,YG,iff_true,iff_false,true_iff,false_iff,true_and,not_true,not_false_eq_true,false_and] <;> omega
def ik:∀ns:List Str,bY ns []=0
 |[]=>rfl
 |x::r=>by simp only[bY,YB,YG,ik r]
def z7 (ns A:List Str):bY ns A=0↔∀x∈ns,x∉A:=by
 have:=jJ ns A [];rw[ik] at this;rw[this];simp
def fM (ns A B:List Str):(Builtin.bitAnd (numOf ns A) (numOf ns B)=numOf ns B)↔∀x∈ns,x∈B->x∈A:=by
 rw[cH,cH,qL,mW];constructor
 ·intro h x a b;have:=(jJ ns _ _).mp (Int.ofNat.inj h) x a;exact (B_.mp (this.mpr b)).1
 intro h;refine W_ Int.ofNat ((jJ ns _ _).mpr fun x a=>?_);rw[B_,m_];exact⟨fun z=>z.2,fun z=>⟨h x a z,z⟩⟩
def qM (ns A B:List Str):(Builtin.bitAnd (numOf ns A) (numOf ns B)=0)↔∀x∈ns,¬(x∈A/\x∈B):=by
 rw[cH,cH,qL,mW];have e:((bY ns (A.filter fun x=>decide (x∈B)):Nat):Int)=0↔bY ns (A.filter fun x=>decide (x∈B))=0:=by omega
 rw[e,z7];constructor
 ·intro h x a z;exact h x a (B_.mpr ⟨z.1,L_ z.2⟩)
 intro h x a z;have:=B_.mp z;exact h x a ⟨this.1,Za this.2⟩
def Rk (ns A B:List Str):Builtin.bitOr (numOf ns A) (numOf ns B)=numOf ns (A++B):=by
 rw[cH,cH,cH,Ri,yq]
def Fo (ns A:List Str):0<=numOf ns A:=by rw[cH];exact aaH _
def ue:∀(ns A:List Str),numOf ns A<2^ns.length
 |[],_=>by simp [numOf]
 |x::r,A=>by
  have:=ue r A
  simp only[numOf,j_,aa8]
  split <;> omega
def uf:∀(ns:List Str) (A:List Str),ns.Nodup->pick ns (numOf ns A)=ns.filter fun x=>decide (x∈A)
 |[],_,_=>rfl
 |x::r,A,nd=>by
  rw[Y9] at nd
  have c:=uf r A nd.2
  have n0:=Fo r A
  by_cases h:x∈A
  ·
   have b:(1+2*numOf r A)%2=1:=by omega
   have a:(1+2*numOf r A) / 2=numOf r A:=by omega
   simp only[numOf,h,if_true,pick,b,a,c,ZM,ZG]
  ·
   have b:¬(0+2*numOf r A)%2=1:=by omega
   have a:(0+2*numOf r A) / 2=numOf r A:=by omega
   simp only[numOf,h,YG,pick,b,a,c,ZM,Ze,C_]
def Fp (b:ns.Nodup) (a:0<=n) (c:n<2^ns.length):numOf ns (pick ns n)=n:=by rw[mU ns n b,Fj ns n a c]
universe u
variable {α:Type u}
inductive RT (R:α->α->Prop):α->α->Prop
 |refl {a:α}:RT R a a
 |step {a b c:α}:RT R a b->R b c->RT R a c
def RT.trans {a b c:α} (h:RT R a b) (g:RT R b c):RT R a c:=by
 induction g with
 |refl=>exact h
 |step _ r d=>exact .step d r
def RT.flip {a b:α} (h:RT R a b):RT (fun x y=>R y x) b a:=by
 induction h with
 |refl=>exact .refl
 |step _ r c=>exact (RT.step (R:=fun x y=>R y x) .refl r).trans c
def JV {a b:α}:RT (fun x y=>R y x) a b↔RT R b a:=⟨fun h=>h.flip,fun h=>h.flip⟩
def Wc {L:List (α × α)}{F:List α} (d:s∈F) (e:∀a b,(a,b)∈L->a∈F->b∈F) (h:RT (fun a b=>(a,b)∈L) s x):x∈F:=by
 induction h with
 |refl=>exact d
 |step _ r c=>exact e _ _ r c
def qN [DecidableEq α]:∀{l m:List α},l.Nodup->(∀x∈l,x∈m)->l.length<=m.length:=by
 intro l;induction l with
 |nil=>intro m _ _;exact Y7 _
 |cons a l j =>
 intro m c g;rw[Y9] at c;have f:=g a k_;have h:=j (m:=m.erase a) c.2 fun x i=>by have d:=g x (q_ _ i);have b:x≠a:=fun e=>c.1 (e▸i);exact (List.mem_erase_of_ne b).mpr d
 have e:=List.length_erase_of_mem f;have p:0<m.length:=List.length_pos_of_mem f;simp only[j_];omega
def mkS (l:List Nat):Str:=⟨l.toArray⟩
def iK (l:List Nat):(mkS l).cps.toList=l:=rfl
def dz (l:List Nat):(mkS l).length=l.length:=by show (l.toArray).size=_;simp
def Rm (x:Str):∃l,x=mkS l:=⟨x.cps.toList,by cases x;rfl⟩
def JW (h:mkS a=mkS b):a=b:=by have:=W_ (fun x=>x.cps.toList) h;exact this
def yr (a b:List Nat):mkS a++mkS b=mkS (a++b):=by
 show (⟨a.toArray++b.toArray⟩:Str)=⟨(a++b).toArray⟩;simp
def Wd (l:List Nat) (k:Nat) (h:k<=l.length):Txt.slice (mkS l) none (some (k:Int))=mkS (l.take k):=by
 have e:=StrLaws.sliceText_to (x:=mkS l) (j:=(k:Int)) ⟨aaH k,by rw[iK];omega⟩;rw[iK,List.drop_zero,Int.sub_zero,Zk] at e;exact e
def mX:List Nat:=[97,98,99,100,101,102,103,104,105,106,107,108,109,110,111,112,113,114,115,116,117,118,119,120,121,122]
def Fq:("abcdefghijklmnopqrstuvwxyz":Str)=mkS mX:=by decide +kernel
def JX:∀i:_root_.Fin 26,mX[i.val]?=some (97+i.val):=by decide
def Ft (i:Int) (a:0<=i) (c:i<26):atI mX i=some (97+i.toNat):=by
 obtain⟨j,rfl⟩:=Int.eq_ofNat_of_zero_le a;have b:j<26:=by omega
 have:=JX ⟨j,b⟩;exact cz (by simpa using this)
def JZ:∀i:_root_.Fin 26,Builtin.Str.occurrences (mkS mX) (mkS [97+i.val]) 0 26 1=[i.val]:=by decide +kernel
def Rn (c:Nat) (a:97<=c) (b:c<=122):Builtin.Str.occurrences (mkS mX) (mkS [c]) 0 (mkS mX).length 1=[c - 97]:=by
 have:=JZ ⟨c - 97,by omega⟩;rw[show 97+(c - 97)=c by omega] at this;exact this
def MP (b:1<=l.length) (a:l.length<=8) (h:∀c∈l,97<=c/\c<=122):isNm (mkS l):=⟨by rw[dz];exact b,by rw[dz];exact a,by rw[iK];exact h⟩
def tkW (t:Str × Int × List Str):List Str:=([("task":Str),t.1,(toString t.2.1:String)]:List Str)++t.2.2
end M
namespace L3
open L2
structure Shut (p:Prop):Prop where
 out:p
def aB (h:∀R,Shut (R=u)->(xG t R) D a H):(xG t u) D a H:=h u ⟨rfl⟩
def z8 (W:Nat->St3->Hp3->Prop) (d:∃m,W m a H) (e:∀m a H,W m a H->∀(WI:Nat->St3->Hp3->Prop) (TB:TS3) (NX:St3->Hp3->Prop),Shut (WI=W)->Shut (TB=tb)->Shut (NX=D.nx) ->
  c a H fun b H1=>if b=true then TB { D with nx:=fun σ' H'=>∃m',m'<m/\WI m' σ' H',ct:=fun σ' H'=>∃m',m'<m/\WI m' σ' H',bk:=D.nx} a H1 else NX a H1):xM c tb D a H :=
 ⟨W,d,fun m a H w=>e m a H w W tb D.nx ⟨rfl⟩ ⟨rfl⟩ ⟨rfl⟩⟩
def fC {m:Type} (c f:m->T) (p:m->Bool) (h:List m) (rest:St3) (j:still H) (u:h.length<=sizeLine) (y:∀a∈h,∀Q:Bool->Hp3->Prop,Q (p a) H->tt (some (c a)::rest) H Q) (w:∀a∈h,p a=true->∀Q:VK3,Q (f a) H->te (some (c a)::rest) H Q) (k:i ((h.filter p).map f) H):cIter3 (fB 0) tt te still i (h.map c) [] (v::rest) H:=by
 refine jB (fun r n q H'=>∃(e g:List m) (v:Option T),q=v::rest/\r=e.map c/\n=(g.filter p).map f/\g++e=h/\H'=H) ⟨h,[],v,rfl,rfl,rfl,rfl,rfl⟩ ?_ ?_
 ·rintro n q H' ⟨e,g,v,rfl,d,rfl,b,rfl⟩;have l:e=[]:=aag.mp d.symm;subst l;rw[S_] at b;subst b;exact⟨j,by rw[e_];exact Q_ (Yy _ _) u,k⟩
 rintro x r n q H' N ⟨e,g,v,rfl,d,rfl,b,rfl⟩ s;cases e with
 |nil=>cases d
 |cons t e =>
 injection d with e1 e2;subst e1 e2;refine⟨j,?_⟩;show tt (some (c t)::rest) H' _;refine y t (by rw[<- b];simp) _ ?_;cases o:p t with
 |true=>rw[if_pos rfl];refine w t (by rw[<- b];simp) o _ ⟨?_,s _ _ _ ⟨e,g++[t],_,rfl,rfl,by simp [o],by rw[<- b];simp,rfl⟩⟩;have:=W_ List.length b;simp only[d_,j_] at this;rw[e_];have:=Yy p g;omega
 |false =>
 rw[if_neg J_];exact s _ _ _ ⟨e,g++[t],_,rfl,rfl,by simp [o],by rw[<- b];simp,rfl⟩
end L3
namespace M
open L2 L3
inductive Rw where
 |tk (t:Str × Int × List Str) | od (o:Str × Str) | pr (p:Str × Str × Str)
def Rw.words:Rw->List Str
 |.tk t=>tkW t
 |.od o=>["order",o.1,o.2]
 |.pr p=>[p.1,p.2.1,p.2.2]
def prs:List Rw->List (Str × Str × Str)
 |[]=>[]
 |.pr p::r=>p::prs r
 |_::r=>prs r
inductive RowW:List Str->Prop
 |tk {t:Str × Int × List Str} (h:tkOk t):RowW (tkW t)
 |od {a b:Str} (h1:isNm a) (h2:isNm b):RowW ["order",a,b]
 |pr {z a b:Str} (h0:z="with"\/z="apart") (h1:isNm a) (h2:isNm b):RowW [z,a,b]
 |row {xs:List Str} (h1:1<=xs.length) (h8:xs.length<=8) (h:∀x∈xs,isNm x):RowW (([("row":Str)]:List Str)++xs)
def lkP (ws:List Str) (p:Str × Str × Str):List (Str × Str):=if p.1∈ws then [(p.2.1,p.2.2),(p.2.2,p.2.1)] else []
def lkW (ws:List Str) (W:Wk):List (Str × Str):=W.orders++W.pairs.flatMap (lkP ws)
def lkR (ws:List Str) (W:Wk) (a b:Str):Prop:=(a,b)∈lkW ws W
def J0 (ws:List Str) (p:Str × Str × Str):(lkP ws p).length<=2:=by unfold lkP;split <;> simp
def qO (ws:List Str):∀a:List (Str × Str × Str),(a.flatMap (lkP ws)).length<=2*a.length
 |[]=>l_ _
 |p::r=>by
  have c:=J0 ws p
  have b:=qO ws r
  simp only[List.flatMap_cons,d_,j_]
  omega
def yt (h:WkOk W):(lkW ws W).length<=52:=by
 have c:=qO ws W.pairs;have a:=h.os;have b:=h.ps;unfold lkW;rw[d_];omega
def dF (F:List Str):List (Str × T):=F.map fun z=>(z,T.bl true)
def lN (z:Str):∀F:List Str,(aP z (dF F)).isSome=decide (z∈F)
 |[]=>rfl
 |y::r=>by
  have a:=lN z r
  unfold dF at a ⊢
  simp only[G_,aP]
  by_cases h:y=z
  ·
   simp [h]
  ·
   rw[if_neg h,a]
   have h':¬z=y:=fun e=>h e.symm
   simp [h']
def Ro (z:Str) (F:List Str):((dF F).any fun a=>decide (a.1=z))=decide (z∈F):=by
 unfold dF;rw[List.any_map];induction F with
 |nil=>rfl
 |cons y r b =>
 simp only[aaW,Function.comp_apply,b];by_cases h:y=z
 ·simp [h]
 have h':¬z=y:=fun e=>h e.symm;simp [h,h']
def Rp (h:z∉F):put3 z (T.bl true) (dF F)=dF (F++[z]):=by
 unfold put3;rw[Ro,H_ h,if_neg J_];unfold dF;rw[x_];rfl
def Rq (F:List Str):(dF F).length=F.length:=e_ _
def Rr (z:Str):[(z,T.bl true)]=dF [z]:=rfl
def Fv (b:(∃a,x=.ref a/\H a=some (.lst ts))\/x=.tup ts) (h:∀still:Hp3->Prop,(still=cJ\/∃a,still=bF a ts/\H a=some (.lst ts))->R ts still H):zG x H R:=by
 rcases b with ⟨a,rfl,e⟩ | rfl
 ·rw[Qf,e,xY];exact h _ (.inr ⟨a,rfl,e⟩)
 rw[Qe];exact h _ (.inl rfl)
def bu (W:Wk) (t:Str):List Str:=(W.tasks.map (·.1)).filter fun x=>@decide (RT (lkR ["with"] W) t x/\RT (lkR ["with"] W) x t) (Classical.propDecidable _)
def cP (W:Wk):List (List Str):=((W.tasks.map (·.1)).filter fun t=>decide ((bu W t).head?=some t)).map (bu W)
def jm (W:Wk) (t:Str):List Str:=(W.tasks.map (·.1)).filter fun x=>@decide (RT (lkR ["with"] W) x t/\¬RT (lkR ["with"] W) t x) (Classical.propDecidable _)
def jZ (h:t∈W.tasks.map (·.1)):t∈bu W t:=by
 unfold bu;rw[B_];exact⟨h,@L_ _ (Classical.propDecidable _) ⟨.refl,.refl⟩⟩
def swp (o:Str × Str):Str × Str:=(o.2,o.1)
def Rt {L:List (Str × Str)}:RT (fun x y=>(x,y)∈L.map swp) a b↔RT (fun x y=>(x,y)∈L) b a:=by
 have e:(fun x y=>(x,y)∈L.map swp)=fun x y:Str=>(y,x)∈L:=by funext x y;refine propext ⟨fun h=>?_,fun h=>z_.mpr ⟨(y,x),h,rfl⟩⟩;obtain⟨o,c,d⟩:=z_.mp h;obtain⟨g,f⟩:=o;cases d;exact c
 rw[e];exact JV
structure Hs (H:Hp3) (fs:List (Addr × O3)):Prop where
 at':∀q∈fs,H q.1=some q.2
 nd:(fs.map (·.1)).Nodup
def We (H:Hp3) (x:T) (b:List Str):Prop:=x=sT b\/∃a,x=.ref a/\H a=some (.lst (b.map T.str))
def J1 (h:We H x b) (q:Q (.bl (if c then !decide (y∈b) else decide (y∈b))) H):sG c (.str y) x H Q:=by
 have e:dj c (T.str y) (b.map T.str)=(if c then !decide (y∈b) else decide (y∈b)):=by unfold dj;have:(T.str y∈b.map T.str)↔y∈b:=fL jG;simp only[this]
 rcases h with rfl | ⟨a,rfl,d⟩
 ·show sG c (.str y) (.tup (b.map T.str)) H Q;rw[Ly,e];exact⟨rfl,cW b,q⟩
 rw[Lz,d,LC,e];exact⟨rfl,cW b,q⟩
def lB (a:List Str) (k:Str):Bool:=decide (a=[])||decide (k∈a)
def jK (W:Wk) (t:Str):List Str:=(W.pairs.filter fun p=>decide (p.1=("apart":Str))&&decide (p.2.1=t)).map (·.2.2)
def okT (W:Wk) (a:Str) (D S:List Str) (t:Str × Int × List Str):Bool :=
 !decide (t.1∈D)&&lB t.2.2 a&&@decide (∀x∈bu W t.1,x∈S) (Classical.propDecidable _)&&@decide (∀x∈jm W t.1,x∈S++D) (Classical.propDecidable _)&&@decide (∀x∈jK W t.1,x∉S) (Classical.propDecidable _)
def aX (ts:List (Str × Int × List Str)) (S:List Str):Int:=((ts.filter fun t=>decide (t.1∈S)).map (·.2.1)).sum
def wH (W:Wk) (beat:Int) (a:Str) (D S:List Str):Bool:=(W.tasks.all fun t=>!decide (t.1∈S)||okT W a D S t)&&decide (aX W.tasks S<=beat)
def ruT (W:Wk) (ns:List Str) (t:Str × Int × List Str):T:=.tup [.int (numOf ns [t.1]),.int t.2.1,sT t.2.2,.int (numOf ns (bu W t.1)),.int (numOf ns (jm W t.1)),.int (numOf ns (jK W t.1))]
def wI (A:List (Str × Int × List Str)) (t:Str × Int × List Str) (S:List Str):aX (A++[t]) S=aX A S+if t.1∈S then t.2.1 else 0:=by
 unfold aX;rw[Zf,x_,List.sum_append];by_cases h:t.1∈S <;> simp [h]
def yu (b:x∈ns):(Builtin.bitAnd (numOf ns A) (numOf ns [x])=numOf ns [x])↔x∈A:=by
 rw[fM];constructor
 ·intro h;exact h x b (by simp)
 intro h y _ a;rw[i_.mp a];exact h
end M
namespace L3
open L2
def ppH (o:Option O3) (a:Addr) (H:Hp3) (Q:VK3):Prop:=match o with
 |some (.lst xs)=>oq (xs[xs.length - 1]?) fun t=>Q t (up3 H a (.lst xs.dropLast))
 |_=>False
def Fw:T->List T->Hp3->VK3->Prop:=fun x ts H Q=>match x,ts with
 |.ref a,[]=>ppH (H a) a H Q
 |_,_=>False
def Fx (a:Addr) (H:Hp3) (Q:VK3):Fw (.ref a) [] H Q=ppH (H a) a H Q:=rfl
def MT (xs:List T) (a:Addr) (H:Hp3) (Q:VK3):ppH (some (.lst xs)) a H Q=oq (xs[xs.length - 1]?) fun t=>Q t (up3 H a (.lst xs.dropLast)):=rfl
def Reps.dropLast {K:Frag} (r:Reps K H ts vs):Reps K H ts.dropLast vs.dropLast:=by
 rw[List.dropLast_eq_take,List.dropLast_eq_take,r.length];exact r.take _
def Ru:vA X "list.pop" Fw:=by
 refine MtR.imp OD ?_;rintro x xs H Q ⟨j,ts,H3,p,l,n,d,h,k⟩;cases j with
 |ref a =>
  cases ts with
  |cons _ _=>exact h.elim
  |nil =>
  rw[Fx] at h;cases e:H3 a with
  |none=>rw[e] at h;exact h.elim
  |some o =>
  rw[e] at h;cases o with
  |lst f =>
   rw[MT] at h;obtain⟨i,b,r⟩:=d a _ e;cases c:f[f.length - 1]? with
   |none=>rw[c] at h;exact h.elim
   |some t =>
   rw[c,fG] at h;obtain⟨v,g,m⟩:=r.get c;refine⟨a,i,v,l.ref,n.inv0,b,by rw[<- r.length];exact g,k _ _ _ _ (bR (by rw[b];exact trivial)) (d.wrL b r.dropLast) (m.mono (bR (by rw[b];exact trivial))) h⟩
  |_=>exact h.elim
 |_=>exact h.elim
end L3
namespace M
open L2 L3
local macro_rules | `(tactic| walk_at "c") => `(tactic| try dsimp only [qb,List.replicate,G_,ZF,aay,aaJ,ZL,ZJ,Option.getD_some])
local macro_rules | `(tactic| walk_at "n") => `(tactic| (obtain ⟨e⟩:=‹Shut (_ = _)›; subst e; try dsimp only))
local macro_rules | `(tactic| walk_at "") => do
 let ls <- ((nm0.splitOn " ").toArray.map String.toName).filterM fun n => do return !(<- Lean.Macro.resolveGlobalName n).isEmpty
 let ls <- ls.mapM fun n => let i:=Lean.mkIdent n; `(Lean.Parser.Tactic.simpLemma| $i:ident)
 `(tactic| ((try dsimp only [$[$ls:simpLemma],*]); try simp only [*,$[$ls:simpLemma],*]))
local macro_rules | `(tactic| walk_at "h") => `(tactic| have hsz:sizeLine=16777216:=rfl)
local macro_rules | `(tactic| walk_at "t") => `(tactic| refine ⟨trivial,?_⟩)
local macro_rules | `(tactic| walk_at "s") => `(tactic| (refine aB fun R h=>?_; walk_at ""))
structure Box (p:Prop):Prop where
 out:p
structure Cl (H:Hp3) (a:Addr):Prop where
 ex:∃ns:List Int,H a=some (.lst (ns.map T.int))/\ns.length<=504
def Kep (a:Addr) (H H':Hp3):Prop:=∀b o,H b=some o->b≠a->H' b=some o
structure Wt (c:Addr) (H0 H:Hp3) (fs:List (Addr × O3)):Prop where
 cl:Cl H c
 kp:Kep c H0 H
 at':∀p∈fs,H p.1=some p.2/\p.1≠c
def ug (n:Nat):d8 0 n=(List.range n).map fun (i:Nat)=>T.int (i:Int):=by
 unfold d8;exact Zj fun i _=>by rw[Int.zero_add]
def cu (s:Sub3 H H') (a:H' p=none):H p=none:=by
 cases e:H p with
 |none=>rfl
 |some o=>rw[s _ _ e] at a;cases a
def pig:∀(ws:List Str) (f:Nat->Str),(∀i j,i<=ws.length->j<=ws.length->f i=f j->i=j)->(∀i,i<=ws.length->f i∈ws)->False
 |[],f,_,h=>by have:=h 0 (l_ _);simp at this
 |w::ws,f,inj,h=>by
  rw[j_] at inj h
  by_cases q:∃j,j<=ws.length+1/\f j=w
  ·
   obtain⟨j,g,e⟩:=q
   refine pig ws (fun i=>if i<j then f i else f (i+1)) (fun a b k l c=>?_) (fun i m=>?_)
   ·
    try dsimp only at c
    split at c <;> split at c
    ·
     exact inj a b (by omega) (by omega) c
    ·
     have:=inj a (b+1) (by omega) (by omega) c;omega
    ·
     have:=inj (a+1) b (by omega) (by omega) c;omega
    ·
     have:=inj (a+1) (b+1) (by omega) (by omega) c;omega
   ·
    show (if i<j then f i else f (i+1))∈ws
    split
    ·
     exact (u_.mp (h i (by omega))).resolve_left fun d=>by have:=inj i j (by omega) g (d.trans e.symm);omega
    ·
     exact (u_.mp (h (i+1) (by omega))).resolve_left fun d=>by have:=inj (i+1) j (by omega) g (d.trans e.symm);omega
  ·
   exact pig ws f (fun a b k l=>inj a b (by omega) (by omega)) fun i m=>(u_.mp (h i (by omega))).resolve_left fun e=>q ⟨i,by omega,e⟩
def dg:Nat->Int->List Nat
 |0,_=>[]
 |n+1,l=>(97+(l%26).toNat)::dg n (l / 26)
def bw (b:Bool):Str:=if b then "with" else "apart"
def pT3 (x:Bool × Nat × Nat):T:=.tup [.str (bw x.1),.int (x.2.1:Int),.int (x.2.2:Int)]
structure PI (d:Addr) (H0 H:Hp3) (pp pe a:Addr) (ws:List Str) (ps:List (Bool × Nat × Nat)) (es:List T):Prop where
 w:Wt d H0 H [(pp,.lst (ps.map pT3)),(pe,.lst es),(a,.lst (ws.map T.str))]
 ne:pe≠pp
 na:a≠pp
 l12:ps.length<=12
 ea:es.all (pl 20)=true
 el:es.length<=28+2*ps.length
 ok:∀x∈ps,x.2.1≠x.2.2/\x.2.1<ws.length/\x.2.2<ws.length
def oD (ws:List Str) (a:List Nat) (x:Nat × Nat):Str × Str:=(ws.getD (a.getD x.1 0) "",ws.getD (a.getD x.2 0) "")
def getD_mem {a:Type}{l:List a}{d:a} (h:i<l.length):l.getD i d∈l:=by
 rw[h_,g_ h];exact Y4 h
def oT (a:List Nat) (x:Nat × Nat):T:=.tup [.int ((a.getD x.1 0:Nat):Int),.int ((a.getD x.2 0:Nat):Int)]
def dN (ns:List Str) (f:Str->Nat):List (Str × T):=ns.map fun n=>(n,T.int (f n:Int))
def fu (f:Str->Nat) (n:Str) (v:Nat):Str->Nat:=fun x=>if x=n then v else f x
def iM:∀{ns:List Str},n∈ns->aP n (dN ns f)=some (T.int (f n:Int))
 |x::r,h=>by
  unfold dN
  rw[G_]
  unfold aP
  by_cases e:x=n
  ·
   rw[if_pos e,e]
  ·
   rw[if_neg e]
   exact iM (ns:=r) ((u_.mp h).resolve_left (Ne.symm e))
def Rv {v:Nat} (h:n∈ns):put3 n (T.int (v:Int)) (dN ns f)=dN ns (fu f n v):=by
 unfold put3 dN;rw[if_pos (by rw[Zy];exact⟨(n,T.int (f n:Int)),z_.mpr ⟨n,h,rfl⟩,by simp⟩),YC];refine Zj fun x a=>?_;show (if x=n then (x,T.int (v:Int)) else (x,T.int (f x:Int)))=(x,T.int ((fu f n v x:Nat):Int));unfold fu;by_cases e:x=n
 ·rw[if_pos e,if_pos e]
 rw[if_neg e,if_neg e]
def Rx {v:Nat} (h:n∉ns):put3 n (T.int (v:Int)) (dN ns f)=dN (ns++[n]) (fu f n v):=by
 unfold put3 dN;rw[if_neg (by
  intro e
  rw[Zy] at e
  obtain⟨x,a,e⟩:=e
  obtain⟨y,b,rfl⟩:=z_.mp a
  exact h (Za e▸b)),x_]
 congr 1
 ·refine Zj fun x a=>?_;unfold fu;rw[if_neg (fun (e:x=n)=>h (e▸a))]
 unfold fu;rw[List.map_singleton,if_pos rfl]
def Fy (ns:List Str) (f:Str->Nat):(dN ns f).length=ns.length:=e_ _
def mu (m:Nat) (ns:List Str) (f:Str->Nat):Nat:=(ns.map fun n=>m - f n).sum
def Ry (h:H a=some o):up3 H a o=H:=by
 funext b;by_cases e:b=a
 ·subst e;rw[au,h]
 rw[aF e]
def ld (tk:List (Str × Int × List Str)) (ns:List Str):Int:=((tk.filter (fun t=>dj false (.str t.1) (ns.map T.str))).map (·.2.1)).sum
def Wf:Sp3:=fun ts H Q=>∃(W:Wk) (ns:List Str),ts=[W.enc,.tup (ns.map T.str)]/\W.tasks.length<=8/\Q (.int (ld W.tasks ns)) H
def j0 (ns:List Str) (f:Str->Nat) (m:Nat):(dealt ns f m).length=m:=by unfold dealt;rw[e_,D_]
def lC (a:List Str) (n:Str):List Str:=if n∈a then a else a++[n]
def kst (a xs:List Str):List Str:=xs.foldl lC a
def j4 (k:Nat) (f:Str->Nat) (xs:List Str):Str->Nat:=xs.foldl (fun f n=>fu f n k) f
def kD (D:List (List Str)):List Str:=kst [] D.flatten
def fD (D:List (List Str)):Str->Nat:=D.zipIdx.foldl (fun f p=>j4 p.2 f p.1) (fun _=>0)
def Fz (a xs:List Str) (n:Str):kst a (xs++[n])=lC (kst a xs) n:=by unfold kst;rw[aab];rfl
def FJ (k:Nat) (f:Str->Nat) (xs:List Str) (n:Str):j4 k f (xs++[n])=fu (j4 k f xs) n k:=by unfold j4;rw[aab];rfl
def J2 (A:List (List Str)) (s:List Str):kD (A++[s])=kst (kD A) s:=by unfold kD kst;rw[ZZ,aab,List.flatten_singleton]
def yw (A:List (List Str)) (s:List Str):fD (A++[s])=j4 A.length (fD A) s:=by
 unfold fD;rw[List.zipIdx_append,aab];simp
def J3 (a:List Str) (f:Str->Nat) (n:Str) (k:Nat):put3 n (T.int (k:Int)) (dN a f)=dN (lC a n) (fu f n k):=by
 unfold lC;split
 ·rename_i h;exact Rv h
 rename_i h;exact Rx h
def qP (x:Str):∀(xs b:List Str),x∈kst b xs↔x∈b\/x∈xs
 |[],b=>by simp [kst]
 |n::r,b=>by
  show x∈kst (lC b n) r↔_
  rw[qP x r]
  unfold lC
  by_cases h:n∈b
  ·
   rw[if_pos h,u_]
   constructor
   ·
    rintro (a | a)
    ·
     exact .inl a
    ·
     exact .inr (.inr a)
   ·
    rintro (a | rfl | a)
    ·
     exact .inl a
    ·
     exact .inl h
    ·
     exact .inr a
  ·
   rw[if_neg h,v_,i_,u_,or_assoc]
def kst_len:∀(xs a:List Str),(kst a xs).length<=a.length+xs.length
 |[],a=>l_ _
 |n::r,a=>by
  have h:=kst_len r (lC a n)
  have b:(lC a n).length<=a.length+1:=by unfold lC;split <;> simp
  show (kst (lC a n) r).length<=_
  rw[j_]
  omega
def Rz:x∈kD D↔x∈D.flatten:=by
 unfold kD;rw[qP];simp
def RB (D:List (List Str)):(kD D).length<=D.flatten.length:=by
 have:=kst_len D.flatten [];simpa [kD] using this
def M3:∀{ns:List Str},n∉ns->aP n (dN ns f)=none
 |[],_=>rfl
 |x::r,h=>by
  unfold dN
  rw[G_]
  unfold aP
  rw[if_neg (fun e=>h (by rw[<- e];exact k_))]
  exact M3 fun z=>h (q_ _ z)
def kdOf (ts:List (Str × Int × List Str)) (n:Str):List Str:=match ts.find? (fun t=>decide (t.1=n)) with
 |some t=>t.2.2
 |none=>[]
def Yo (a:List Str) (D:List (List Str)):Option T:=if D.length>a.length then some (.tup [.str "stands",.int (D.length:Int)]) else none
def Yp (ns xs:List Str):Option T:=(xs.find? fun x=>!decide (x∈ns)).map fun x=>.tup [.str "strange",.str x]
def twG:List Str->List Str->Option Str
 |_,[]=>none
 |sn,x::r=>if x∈sn then some x else twG (sn++[x]) r
def twF (xs:List Str):Option T:=(twG [] xs).map fun x=>.tup [.str "twice",.str x]
def Yq (ns xs:List Str):Option T:=(ns.find? fun n=>!decide (n∈xs)).map fun n=>.tup [.str "lost",.str n]
def Yr (f:Str->Nat) (a:List (Str × Str)):Option T:=(a.find? fun o=>decide (f o.2<f o.1)).map fun o=>.tup [.str "order",.str o.1,.str o.2]
def Ys (f:Str->Nat) (a:List (Str × Str × Str)):Option T:=(a.find? fun p=>decide (f p.2.1=f p.2.2) != decide (p.1=("with":Str))).map fun p=>.tup [.str p.1,.str p.2.1,.str p.2.2]
def okK (a:List Str) (k:Str):Bool:=decide (a=[])||decide (k∈a)
def Wg (b:Str->List Str) (a:List Str):Nat->List (List Str)->Option T
 |_,[]=>none
 |k,s::r=>match s.find? fun n=>!okK (b n) (a.getD k "") with
  |some n=>some (.tup [.str "kind",.str n,.int (k:Int)])
  |none=>Wg b a (k+1) r
def Wh (g:List Str->Int) (beat:Int):Nat->List (List Str)->Option T
 |_,[]=>none
 |k,s::r=>if g s>beat then some (.tup [.str "beat",.int (k:Int)]) else Wh g beat (k+1) r
def Yt (W:Wk) (D:List (List Str)):Option T:=(Yo W.row D).or ((Yp (W.tasks.map (·.1)) D.flatten).or ((twF D.flatten).or (Yq (W.tasks.map (·.1)) D.flatten)))
def Yu (W:Wk) (beat:Int) (D:List (List Str)):Option T:=(Yr (fD D) W.orders).or ((Ys (fD D) W.pairs).or ((Wg (kdOf W.tasks) W.row 0 D).or (Wh (ld W.tasks) beat 0 D)))
def flt (W:Wk) (beat:Int) (D:List (List Str)):Option T:=(Yt W D).or (Yu W beat D)
structure Dok (W:Wk) (D:List (List Str)):Prop where
 rw:D.length<=W.row.length
 st:∀x∈D.flatten,x∈W.tasks.map (·.1)
 nd:D.flatten.Nodup
 al:∀n∈W.tasks.map (·.1),n∈D.flatten
def Dok.in (h:Dok W D) (a:s∈D):s.Nodup/\∀n∈s,n∈W.tasks.map (·.1) :=
 ⟨(List.sublist_flatten_of_mem a).nodup h.nd,fun n b=>h.st n (Zi.mpr ⟨s,a,b⟩)⟩
def uh {B:List (List Str)}:(A++s::B).flatten=A.flatten++(s++B.flatten):=by rw[ZZ,Zm]
def Wi {xs:List Str}:dj true (T.str x) (xs.map T.str)=!decide (x∈xs):=by
 rw[YH,Wb jG];simp
def M4 {xs:List Str}:dj false (T.str x) (xs.map T.str)=decide (x∈xs):=by
 rw[YH,Yn jG];simp
def z9 {d:Type} (c:d->T) (xs:List d) (I:List d->St3->Hp3->Prop) (k:I [] a H) (j:∀a H,I xs a H->still H/\D.nx a H) (i:∀A x B a H (N:St3->Hp3->Prop),xs=A++x::B->I A a H->(∀b H',I (A++[x]) b H'->N b H')->still H/\g (.tup [.int (A.length:Int),c x]) a H fun σ2 H2=>tb { D with nx:=N,ct:=N,bk:=D.nx} σ2 H2):iter3 g tb D still (gO 0 (xs.map c)) a H:=by
 have:∀(B A:List d) (a:St3) (H:Hp3),xs=A++B->I A a H->iter3 g tb D still (gO (A.length:Int) (B.map c)) a H:=by
  intro B;induction B with
  |nil=>intro A a H e h;rw[S_] at e;subst e;exact j a H h
  |cons x B f =>
  intro A a H e h;refine i A x B a H _ e h fun b H' h'=>?_;have q:=f (A++[x]) b H' (by rw[e,YW];rfl) h';rw[d_,A_,Int.natCast_add] at q;exact q
 exact this xs [] a H rfl k
def RC (ts:List T) (i:Int) (H:Hp3) (Q:VK3):ixH (some (.rol ts)) i H Q=oq (atI ts i) fun t=>Q t H:=rfl
def Wj:Sp3:=fun ts H Q=>∃tk:List (Str × Int × List Str),ts=[.tup (tk.map tkT)]/\tk.length<=8/\∀p,H p=none->Q (.ref p) (up3 H p (.lst ((tk.map (·.1)).map T.str)))
structure Fil (W:Wk) (beat:Int) (kind:Str) (D S:List Str):Prop where
 one:∀t∈W.tasks,t.1∈S->t.1∉D/\lB t.2.2 kind=true/\(∀x∈bu W t.1,x∈S)/\(∀x∈jm W t.1,x∈S\/x∈D)/\∀x∈jK W t.1,x∉S
 ld:aX W.tasks S<=beat
def fil_iff:wH W beat c D S=true↔Fil W beat c D S:=by
 unfold wH;rw[YD,m_,Zx];have key:∀t:Str × Int × List Str,(!decide (t.1∈S)||okT W c D S t)=true↔(t.1∈S->t.1∉D/\lB t.2.2 c=true/\(∀x∈bu W t.1,x∈S)/\(∀x∈jm W t.1,x∈S\/x∈D)/\∀x∈jK W t.1,x∉S):=fun t=>by
  unfold okT;rw[Bool.or_eq_true,aaP,ZK,YD,YD,YD,YD,aaP,ZK,@m_ _ (Classical.propDecidable _),@m_ _ (Classical.propDecidable _),@m_ _ (Classical.propDecidable _)];constructor
  ·intro h d;obtain⟨⟨⟨⟨j,k⟩,f⟩,e⟩,g⟩:=h.resolve_left (fun z=>z d);exact⟨j,k,f,fun x i=>v_.mp (e x i),g⟩
  intro h;by_cases d:t.1∈S
  ·obtain⟨j,k,f,e,g⟩:=h d;exact .inr ⟨⟨⟨⟨j,k⟩,f⟩,fun x i=>v_.mpr (e x i)⟩,g⟩
  exact .inl d
 exact⟨fun ⟨a,b⟩=>⟨fun t l=>(key t).mp (a t l),b⟩,fun h=>⟨fun t l=>(key t).mpr (h.one t l),h.ld⟩⟩
def lq (h:∀x,x∈S↔x∈a):aX ts S=aX ts a:=by
 have e:(ts.filter fun t=>decide (t.1∈S))=ts.filter fun t=>decide (t.1∈a):=Zb fun t _=>by rw[Z4];exact h t.1
 unfold aX;rw[e]
def Fil.congr (f:Fil W beat a D S) (d:∀x,x∈D↔x∈g) (c:∀x,x∈S↔x∈e):Fil W beat a g e :=
 ⟨fun t n k=>by
  obtain⟨l,m,i,h,j⟩:=f.one t n ((c _).mpr k)
  exact⟨fun z=>l ((d _).mpr z),m,fun x b=>(c x).mp (i x b),fun x b=>(h x b).imp (c x).mp (d x).mp,fun x b z=>j x b ((c x).mpr z)⟩,by rw[<- lq c];exact f.ld⟩
def Fils (W:Wk) (beat:Int) (D:List (List Str)):Prop:=∀k s,D[k]?=some s->Fil W beat (W.row.getD k "") (D.take k).flatten s
def Fils.snoc (h:Fils W beat D) (f:Fil W beat (W.row.getD D.length "") D.flatten s):Fils W beat (D++[s]):=fun k s' e=>by
 by_cases b:k<D.length
 ·rw[YQ b] at e;rw[aaE (by omega)];exact h k s' e
 rw[Yx (by omega)] at e;have d:k - D.length=0:=by
  cases c:k - D.length with
  |zero=>rfl
  |succ n=>rw[c] at e;simp at e
 have a:k=D.length:=by omega
 subst a;rw[d] at e;simp only[ZL,Option.some.injEq] at e;subst e;rw[List.take_left']
 ·exact f
 rfl
def Fils.nil:Fils W beat []:=fun k s e=>by simp at e
def wJ:∀{xs:List Str}{f:Str->Nat},n∉xs->j4 k f xs n=f n
 |[],_,_=>rfl
 |x::r,f,h=>by
  rw[u_,not_or] at h
  show j4 k (fu f x k) r n=f n
  rw[wJ h.2]
  unfold fu
  rw[if_neg h.1]
def FN:∀{xs:List Str}{f:Str->Nat},n∈xs->j4 k f xs n=k
 |x::r,f,h=>by
  show j4 k (fu f x k) r n=k
  by_cases a:n∈r
  ·
   exact FN a
  ·
   rw[wJ a]
   unfold fu
   rw[if_pos ((u_.mp h).resolve_right a)]
def fP (a:D.flatten.Nodup):∀{k:Nat}{s:List Str}{n:Str},D[k]?=some s->n∈s->fD D n=k:=by
 induction hl:D.length generalizing D with
 |zero=>intro k s n e;rw[aaB.mp hl] at e;simp at e
 |succ m f =>
 intro k s n e b;obtain⟨A,l,rfl⟩:∃A l,D=A++[l]:=by refine⟨D.dropLast,D.getLast (by intro z;rw[z] at hl;cases hl),(aae _).symm⟩
 have i:A.length=m:=by simp at hl;exact hl
 rw[yw];rw[ZZ,List.flatten_singleton,Zq] at a;by_cases g:k<A.length
 ·rw[YQ g] at e;have c:n∈A.flatten:=Zi.mpr ⟨s,X_ e,b⟩;rw[wJ fun z=>a.2.2 n c n z rfl];exact f a.1 i e b
 rw[Yx (by omega)] at e;have h:k - A.length=0:=by
  cases d:k - A.length with
  |zero=>rfl
  |succ n=>rw[d] at e;simp at e
 rw[h] at e;simp only[ZL,Option.some.injEq] at e;subst e;rw[FN b];omega
def iQ {D:List (List Str)} (h:n∈D.flatten):∃(k:Nat) (s:List Str),D[k]?=some s/\n∈s:=by
 obtain⟨s,b,c⟩:=Zi.mp h;obtain⟨k,a⟩:=Z8 b;exact⟨k,s,a,c⟩
def take_at {D:List (List Str)}:n∈(D.take k).flatten↔∃(j:Nat) (s:List Str),j<k/\D[j]?=some s/\n∈s:=by
 constructor
 ·intro h;obtain⟨j,s,e,a⟩:=iQ h;rw[List.getElem?_take] at e;split at e
  ·exact⟨j,s,by assumption,e,a⟩
  cases e
 rintro⟨j,s,b,e,a⟩;refine Zi.mpr ⟨s,?_,a⟩;refine X_ (i:=j) ?_;rw[List.getElem?_take,if_pos b];exact e
def J4 (tk:List (Str × Int × List Str)) (s:List Str):ld tk s=aX tk s:=by
 have e:(tk.filter fun t=>dj false (.str t.1) (s.map T.str))=tk.filter fun t=>decide (t.1∈s):=Zb fun t _=>M4;unfold ld aX;rw[e]
def um (h:lkR ["with"] W a b):(a,b)∈W.orders\/∃p∈W.pairs,p.1="with"/\(p.2=(a,b)\/p.2=(b,a)):=by
 unfold lkR lkW at h;rcases v_.mp h with h | h
 ·exact .inl h
 obtain⟨p,d,c⟩:=List.mem_flatMap.mp h;unfold lkP at c;split at c
 ·rename_i e;refine .inr ⟨p,d,by simpa using e,?_⟩;simp only[u_,ZQ,YB,ZV] at c;rcases c with ⟨rfl,rfl⟩ | ⟨rfl,rfl⟩
  ·exact .inl rfl
  exact .inr rfl
 cases c
def RD (h:(a,b)∈W.orders):lkR ["with"] W a b:=T_ _ h
def J5 (h:(("with":Str),a,b)∈W.pairs):lkR ["with"] W a b/\lkR ["with"] W b a:=by
 have:∀q,q∈lkP ["with"] ("with",a,b)->q∈lkW ["with"] W:=fun q c=>U_ _ (List.mem_flatMap.mpr ⟨_,h,c⟩);constructor
 ·exact this _ (by unfold lkP;simp)
 exact this _ (by unfold lkP;simp)
structure Rgt (W:Wk) (beat:Int) (D:List (List Str)) (f:Str->Nat):Prop where
 ord:∀o∈W.orders,f o.1<=f o.2
 pai:∀p∈W.pairs,f p.2.1=f p.2.2↔p.1="with"
 kin:∀k s,D[k]?=some s->∀t∈W.tasks,t.1∈s->lB t.2.2 (W.row.getD k "")=true
 bea:∀s∈D,aX W.tasks s<=beat
def mY (O:WkOk W) (h:Dok W D):Rgt W beat D (fD D)↔Fils W beat D:=by
 have u:∀{n:Str},n∈W.tasks.map (·.1)->∃s,D[fD D n]?=some s/\n∈s:=fun g=>by obtain⟨k,s,e,c⟩:=iQ (h.al _ g);rw[fP h.nd e c];exact⟨s,e,c⟩
 constructor
 ·intro r k s e;have A:∀{a b:Str},RT (lkR ["with"] W) a b->fD D a<=fD D b:=fun z=>by
   induction z with
   |refl=>exact l_ _
   |step _ l T =>
   refine Q_ T ?_;rcases um l with o | ⟨p,m,v,e | e⟩
   ·exact r.ord _ o
   ·have:=(r.pai p m).mpr v;rw[e] at this;exact aa6 this
   have:=(r.pai p m).mpr v;rw[e] at this;exact aa6 this.symm
  refine⟨fun t i c=>?_,r.bea s (X_ e)⟩;have U:=fP h.nd e c;refine⟨fun z=>?_,r.kin k s e t i c,fun x E=>?_,fun x E=>?_,fun x E L=>?_⟩
  ·obtain⟨j,s',Y,d,g⟩:=take_at.mp z;have:=fP h.nd d g;omega
  ·obtain⟨w,B⟩:=B_.mp E;rw[@m_ _ (Classical.propDecidable _)] at B;have C:=A B.1;have e2:=A B.2;obtain⟨s',d,g⟩:=u w;rw[show fD D x=k by omega,e] at d;cases d;exact g
  ·obtain⟨w,B⟩:=B_.mp E;rw[@m_ _ (Classical.propDecidable _)] at B;have C:=A B.1;obtain⟨s',d,g⟩:=u w;by_cases z:fD D x=k
   ·rw[z,e] at d;cases d;exact .inl g
   exact .inr (take_at.mpr ⟨_,s',by omega,d,g⟩)
  obtain⟨p,m,rfl⟩:=z_.mp E;obtain⟨m,v⟩:=B_.mp m;rw[YD,m_,m_] at v;have C:=(r.pai p m).mp (by rw[v.2,U,fP h.nd e L]);rw[v.1] at C;exact absurd C (by decide)
 intro F;have fil:∀{t:Str × Int × List Str},t∈W.tasks->∃s,D[fD D t.1]?=some s/\t.1∈s/\Fil W beat (W.row.getD (fD D t.1) "") (D.take (fD D t.1)).flatten s:=fun i=>by obtain⟨s,e,c⟩:=u (z_.mpr ⟨_,i,rfl⟩);exact⟨s,e,c,F _ _ e⟩
 have A:∀{a b:Str},a∈W.tasks.map (·.1)->b∈W.tasks.map (·.1)->RT (lkR ["with"] W) a b->fD D a<=fD D b:=fun {a b} I X z=>by
  obtain⟨t,i,rfl⟩:=z_.mp X;obtain⟨s,e,c,f⟩:=fil i;obtain⟨_,_,Z,P,_⟩:=f.one t i c;by_cases y:RT (lkR ["with"] W) t.1 a
  ·have:=Z a (B_.mpr ⟨I,@L_ _ (Classical.propDecidable _) ⟨y,z⟩⟩);exact aa6 (fP h.nd e this)
  rcases P a (B_.mpr ⟨I,@L_ _ (Classical.propDecidable _) ⟨z,y⟩⟩) with q | q
  ·exact aa6 (fP h.nd e q)
  obtain⟨j,s',Y,d,g⟩:=take_at.mp q;rw[fP h.nd d g];omega
 refine⟨fun o M=>?_,fun p m=>?_,fun k s e t i c=>((F k s e).one t i c).2.1,fun s c=>?_⟩
 ·obtain⟨_,H,G⟩:=O.oo o M;exact A H G (.step .refl (RD M))
 ·obtain⟨v,_,H,G⟩:=O.pp p m;constructor
  ·intro e;refine v.resolve_right fun I=>?_;obtain⟨t,i,N⟩:=z_.mp H;obtain⟨s,C,c,f⟩:=fil i;obtain⟨_,_,_,_,V⟩:=f.one t i c;refine V p.2.2 (z_.mpr ⟨p,B_.mpr ⟨m,by rw[YD,m_,m_];exact⟨I,N.symm⟩⟩,rfl⟩) ?_;obtain⟨s',d,g⟩:=u G;have R:fD D p.2.2=fD D t.1:=by rw[N];exact e.symm
   rw[R,C] at d;cases d;exact g
  intro J;have K:(("with":Str),p.2.1,p.2.2)∈W.pairs:=by rw[<- J];exact m
  obtain⟨l1,S⟩:=J5 K;exact Nat.le_antisymm (A H G (.step .refl l1)) (A G H (.step .refl S))
 obtain⟨k,Q⟩:=Z8 c;exact (F k s Q).ld
def J6:∀{D:List (List Str)},Fils W beat D->(∀s∈D,s.Nodup/\∀n∈s,n∈W.tasks.map (·.1))->D.flatten.Nodup:=by
 intro D;induction hl:D.length generalizing D with
 |zero=>intro _ _;rw[aaB.mp hl];exact aam
 |succ m j =>
 intro F d;obtain⟨A,l,rfl⟩:∃A l,D=A++[l]:=by refine⟨D.dropLast,D.getLast (by intro z;rw[z] at hl;cases hl),(aae _).symm⟩
 have r:A.length=m:=by simp at hl;exact hl
 have q:Fils W beat A:=fun k s e=>by
  have o:k<A.length:=by
   rcases aaU k A.length with z | z
   ·exact z
   rw[P_ z] at e;cases e
  have:=F k s (by rw[YQ o];exact e)
  rwa [aaE (by omega)] at this
 rw[ZZ,List.flatten_singleton,Zq];have c:=d l (by simp);refine⟨j r q fun s h=>d s (T_ _ h),c.1,fun a i b g e=>?_⟩;subst e;obtain⟨t,p,rfl⟩:=z_.mp (c.2 a g);have f:=F A.length l (by rw[Yx (l_ _)];simp);rw[List.take_left' rfl] at f;exact (f.one t p g).1 i
def FP {a:List Str} (h:k<a.length):atI (a.map T.str) (k:Int)=some (.str (a.getD k "")):=cz (by rw[y_,g_ h,h_,g_ h];rfl)
def pI:∀ns:List Str,pick ns 0=[]
 |[]=>rfl
 |n::r=>by
  have:=pI r
  unfold pick
  simpa using this
def yx:∀(ns:List Str) (b:Int),(pick ns b).Sublist ns
 |[],_=>List.Sublist.refl _
 |n::r,b=>by
  have:=yx r (b / 2)
  unfold pick
  split
  ·
   exact this.cons₂ n
  ·
   exact this.cons n
def iR (A:WkOk W) (i:ns.Perm (W.tasks.map (·.1))) (q:m<=W.row.length) (p:∀n,f n<m):Dok W (dealt ns f m):=by
 have d:∀x,x∈(dealt ns f m).flatten↔x∈ns:=fun x=>by
  rw[Zi];constructor
  ·rintro⟨s,g,c⟩;obtain⟨k,_,rfl⟩:=z_.mp g;exact (B_.mp c).1
  intro c;exact⟨_,z_.mpr ⟨f x,YF.mpr (p x),rfl⟩,B_.mpr ⟨c,L_ rfl⟩⟩
 refine⟨by rw[j0];exact q,fun x c=>i.mem_iff.mp ((d x).mp c),?_,fun x c=>(d x).mpr (i.mem_iff.mpr c)⟩;have w:=i.nodup_iff.mpr A.nd;unfold dealt;have:∀l:List Nat,l.Nodup->((l.map fun k=>ns.filter fun n=>decide (f n=k)).flatten).Nodup:=by
  intro l;induction l with
  |nil=>intro _;exact aam
  |cons k r u =>
  intro h;rw[Y9] at h;rw[G_,Zm,Zq];refine⟨List.filter_sublist.nodup w,u h.2,fun a t b o e=>?_⟩;subst e;obtain⟨s,g,o⟩:=Zi.mp o;obtain⟨j,v,rfl⟩:=z_.mp g;have y:=Za (B_.mp t).2;have z:=Za (B_.mp o).2;exact h.1 (by rw[<- y,z];exact v)
 exact this _ List.nodup_range
def gre {b:Type}(a:b->b->Bool):List b->List b
 |[]=>[]
 |n::B=>if (gre a B).any (fun g=>a g n) then gre a B else gre a B++[n]
def qQ:∀(xs:List b),∀g∈gre a xs,g∈xs
 |[],g,h=>h
 |n::B,g,h=>by
  unfold gre at h
  split at h
  ·
   exact q_ _ (qQ B g h)
  ·
   rcases v_.mp h with h | h
   ·
    exact q_ _ (qQ B g h)
   ·
    rw[i_.mp h];exact k_
def yz {c:f->f->Bool} (i:∀a,c a a=true):∀(xs:List f),∀b∈xs,∃g∈gre c xs,c g b=true
 |n::B,b,h=>by
  unfold gre
  rcases u_.mp h with rfl | h
  ·
   split
   ·
    rename_i j
    obtain⟨g,d,e⟩:=Zy.mp j
    exact⟨g,d,e⟩
   ·
    exact⟨b,by simp,i b⟩
  ·
   obtain⟨g,d,e⟩:=yz i B b h
   split
   ·
    exact⟨g,d,e⟩
   ·
    exact⟨g,T_ _ d,e⟩
def Aa (m:Nat):List.range (m+m)=List.range m++(List.range m).map (·+m):=by
 rw[List.range_add];congr 1;exact Zj fun a _=>Nat.add_comm _ _
def yC:∀(ws:List Str) (b:Int),(pick ws b).length<=ws.length
 |[],_=>l_ _
 |x::r,b=>by
  unfold pick
  have:=yC r (b / 2)
  split
  ·
   rw[j_,j_];omega
  ·
   rw[j_];omega
def bT (b a:Nat):Bool:=decide (Builtin.bitAnd (b:Int) (a:Int)=(a:Int))
def fZ (b a:Nat):bT b a=true↔b &&& a=a:=by
 unfold bT;rw[m_,qL];exact Int.ofNat_inj
def Ab (a:Nat):bT a a=true:=(fZ a a).mpr (Nat.and_self a)
def nm (W:Wk):List Str:=W.tasks.map (·.1)
def pk (W:Wk) (i:Nat):List Str:=pick (nm W) (i:Int)
def top2 (W:Wk):Nat:=2^W.tasks.length
def dX (W:Wk):(nm W).length=W.tasks.length:=e_ _
def eN (a:WkOk W) (h:i<top2 W):bY (nm W) (pk W i)=i:=by
 have b:((i:Int))<2^(nm W).length:=by
  have e:((2^W.tasks.length:Nat):Int)=(2:Int)^W.tasks.length:=by push_cast;rfl
  rw[dX,<- e];exact Int.ofNat_lt.mpr h
 have:=Fp (ns:=nm W) a.nd (aaH i) b;rw[cH] at this;exact Int.ofNat.inj this
def lQ (A:List Str):bY (nm W) A<top2 W:=by
 have:=ue (nm W) A;rw[cH,dX] at this;have e:((2^W.tasks.length:Nat):Int)=(2:Int)^W.tasks.length:=by push_cast;rfl
 rw[<- e] at this;exact Int.ofNat_lt.mp this
def M5 (a:WkOk W) (A:List Str):pk W (bY (nm W) A)=(nm W).filter fun x=>decide (x∈A):=by
 unfold pk;rw[<- cH];exact uf _ _ a.nd
def j5 (a:WkOk W):x∈pk W (bY (nm W) A)↔x∈nm W/\x∈A:=by
 rw[M5 a,B_,m_]
def il (h:x∈pk W i):x∈nm W:=jH _ _ x h
def Wl (a:WkOk W) (i:Nat):(pk W i).Nodup:=(yx _ _).nodup a.nd
def gJ:∀(ns A B:List Str),(∀x∈ns,x∈B↔x∉A)->bY ns A+bY ns B+1=2^ns.length
 |[],_,_,_=>rfl
 |x::r,A,B,h=>by
  have d:=gJ r A B fun y c=>h y (q_ _ c)
  have b:=h x k_
  simp only[bY,j_,Nat.pow_succ]
  by_cases a:x∈A
  ·
   rw[if_pos a,if_neg (fun z=>b.mp z a)];omega
  ·
   rw[if_neg a,if_pos (b.mpr a)];omega
def ir:∀(ns A B:List Str),(∀x∈ns,¬(x∈A/\x∈B))->bY ns A+bY ns B=bY ns (A++B)
 |[],_,_,_=>rfl
 |x::r,A,B,h=>by
  have e:=ir r A B fun y d=>h y (q_ _ d)
  have c:=h x k_
  simp only[bY,v_]
  by_cases b:x∈A
  ·
   have a:x∉B:=fun z=>c ⟨b,z⟩
   simp only[b,a,if_true,YG,ZV];omega
  ·
   by_cases a:x∈B
   ·
    simp only[b,a,if_true,YG,or_true];omega
   ·
    simp only[b,a,YG,or_self];omega
def uo:bT (bY (nm W) A) (bY (nm W) B)=true↔∀x∈nm W,x∈B->x∈A:=by
 unfold bT;rw[m_,<- cH,<- cH];exact fM _ _ _
def ut (N:Nat):List Nat:=(List.range (N+1)).filter (bT N)
def J7 (h:bT N i=true):i<=N:=by
 have:=(fZ N i).mp h;have:=Nat.and_le_left (n:=N) (m:=i);omega
def yD (h:N<M):(List.range M).filter (bT N)=ut N:=by
 obtain⟨k,rfl⟩:∃k,M=(N+1)+k:=⟨M - (N+1),by omega⟩;unfold ut;rw[List.range_add,Zf];have:((List.range k).map fun x=>N+1+x).filter (bT N)=[]:=by rw[List.filter_eq_nil_iff];intro a b;obtain⟨x,_,rfl⟩:=z_.mp b;intro z;have:=J7 z;omega
 rw[this,S_]
def uv (e:i<2^k):bT N (i+2^k)=(bT N (2^k)&&bT N i):=by
 have b:i+2^k=2^k ||| i:=by have:=Nat.two_pow_add_eq_or_of_lt e 1;rw[Nat.mul_one] at this;omega
 rw[YH,YD,fZ,fZ,fZ,b];constructor
 ·intro h;have c:∀j,(N &&& (2^k ||| i)).testBit j=(2^k ||| i).testBit j:=fun j=>by rw[h]
  refine⟨Nat.eq_of_testBit_eq fun j=>?_,Nat.eq_of_testBit_eq fun j=>?_⟩
  ·have:=c j;rw[Nat.testBit_and,Nat.testBit_or] at this;rw[Nat.testBit_and];cases a:(2^k).testBit j <;> simp_all
  have:=c j;rw[Nat.testBit_and,Nat.testBit_or] at this;rw[Nat.testBit_and];cases a:i.testBit j <;> simp_all
 rintro⟨a,d⟩;rw[Nat.and_or_distrib_left,a,d]
def FQ:(List.range (2^(k+1))).filter (bT N)=(List.range (2^k)).filter (bT N)++if bT N (2^k)=true then ((List.range (2^k)).filter (bT N)).map (·+2^k) else []:=by
 rw[show 2^(k+1)=2^k+2^k by rw[Nat.pow_succ];omega,Aa,Zf];congr 1;rw[List.filter_map];by_cases h:bT N (2^k)=true
 ·rw[if_pos h];congr 1;refine Zb fun i a=>?_;show bT N (i+2^k)=bT N i;rw[uv (YF.mp a),h,aaX]
 rw[if_neg h,List.filter_eq_nil_iff.mpr,ZF];intro i a;show ¬bT N (i+2^k)=true;rw[uv (YF.mp a),YD];exact fun z=>h z.1
def fil (W:Wk) (beat:Int) (k d i:Nat):Bool:=wH W beat (W.row.getD k "") (pk W d) (pk W i)
def fls (W:Wk) (beat:Int) (k d:Nat):List Nat:=(List.range (top2 W)).filter (fil W beat k d)
def fls_mem:i∈fls W beat k d↔i<top2 W/\Fil W beat (W.row.getD k "") (pk W d) (pk W i):=by
 unfold fls;rw[B_,YF];unfold fil;rw[fil_iff]
def Fil.apart (f:Fil W beat a D S) (d:x∈nm W) (c:x∈S):x∉D:=by
 obtain⟨t,b,rfl⟩:=z_.mp d;exact (f.one t b c).1
def Ac (c:WkOk W) (j:d<top2 W):(ut (top2 W - 1 - d)).filter (fil W beat k d)=fls W beat k d:=by
 have e:top2 W - 1 - d<top2 W:=by omega
 rw[<- yD e];unfold fls;rw[List.filter_filter];refine Zb fun i m=>?_;have b:=YF.mp m;cases h:fil W beat k d i with
 |false=>rfl
 |true =>
 rw[aaX];have f:Fil W beat (W.row.getD k "") (pk W d) (pk W i):=fil_iff.mp h;have l:top2 W - 1 - d=bY (nm W) ((nm W).filter fun x=>decide (x∉pk W d)):=by
  have:=gJ (nm W) (pk W d) ((nm W).filter fun x=>decide (x∉pk W d)) fun x a=>by rw[B_,m_];exact⟨fun z=>z.2,fun z=>⟨a,z⟩⟩
  rw[eN c j,dX] at this;unfold top2;omega
 rw[l,show i=bY (nm W) (pk W i) from (eN c b).symm];rw[uo];intro x a g;rw[B_,m_];exact⟨a,f.apart a g⟩
inductive Frw (W:Wk) (beat:Int):List Nat->Nat->Prop
 |nil:Frw W beat [] 0
 |snoc {fs:List Nat} {d f:Nat}:Frw W beat fs d->fs.length<W.row.length->f∈fls W beat fs.length d->Frw W beat (fs++[f]) (d+f)
def J8 (W:Wk):pk W 0=[]:=pI _
def Frw.ok (c:WkOk W) (r:Frw W beat fs d):d<top2 W/\fs.length<=W.row.length/\(∀x,x∈pk W d↔x∈(fs.map (pk W)).flatten)/\Fils W beat (fs.map (pk W))/\∀f∈fs,f<top2 W:=by
 induction r with
 |nil=>exact⟨Nat.pow_pos (by decide),Y7 _,fun x=>by rw[J8];rfl,Fils.nil,fun _ h=>(nomatch h)⟩
 |@snoc fs d f r n j l =>
 obtain⟨o,_,i,k,p⟩:=l;obtain⟨b,F⟩:=fls_mem.mp j;have e:d+f=bY (nm W) (pk W d++pk W f):=by rw[<- ir _ _ _ fun x m z=>F.apart m z.2 z.1,eN c o,eN c b]
 refine⟨by rw[e];exact lQ _,by rw[d_];exact n,fun x=>?_,?_,fun g a=>?_⟩
 ·rw[e,j5 c,x_,ZZ,v_,v_,<- i x];simp only[G_,ZF,Zm,List.flatten_nil,S_];exact⟨fun z=>z.2,fun z=>⟨z.elim il il,z⟩⟩
 ·rw[x_];refine k.snoc ?_;rw[e_];exact F.congr i fun x=>Iff.rfl
 rcases v_.mp a with a | a
 ·exact p g a
 rw[i_.mp a];exact b
def Frw.of (g:WkOk W):∀{D:List (List Str)},D.length<=W.row.length->(∀s∈D,∀n∈s,n∈nm W)->Fils W beat D->Frw W beat (D.map (bY (nm W))) (bY (nm W) D.flatten):=by
 intro D;induction hl:D.length generalizing D with
 |zero=>intro _ _ _;rw[aaB.mp hl,ZF,List.flatten_nil,ik];exact .nil
 |succ m i =>
 intro t c F;obtain⟨A,l,rfl⟩:∃A l,D=A++[l]:=⟨D.dropLast,D.getLast (by intro z;rw[z] at hl;cases hl),(aae _).symm⟩;have q:A.length=m:=by simp at hl;exact hl
 have p:Fils W beat A:=fun k s e=>by
  have o:k<A.length:=by
   rcases aaU k A.length with z | z
   ·exact z
   rw[P_ z] at e;cases e
  have:=F k s (by rw[YQ o];exact e)
  rwa [aaE (by omega)] at this
 have r:=i q (by omega) (fun s h=>c s (T_ _ h)) p;have f:=F A.length l (by rw[Yx (l_ _)];simp);rw[List.take_left' rfl] at f;have b:=c l (by simp);have a:∀n∈A.flatten,n∈nm W:=fun n d=>by obtain⟨s,h,d⟩:=Zi.mp d;exact c s (T_ _ h) n d
 have:=Frw.snoc r (by rw[e_];omega) (f:=bY (nm W) l) (fls_mem.mpr ⟨lQ _,by
  rw[e_]
  exact f.congr (fun x=>by rw[j5 g];exact⟨fun z=>⟨a x z,z⟩,fun z=>z.2⟩) fun x=>by rw[j5 g];exact⟨fun z=>⟨b x z,z⟩,fun z=>z.2⟩⟩)
 rw[ir _ _ _ fun x j z=>f.apart j z.2 z.1] at this;rw[x_,ZZ];simpa using this
def pJ (d:WkOk W):∀x∈nm W,x∈pk W (top2 W - 1):=fun x a=>by
 have b:bY (nm W) (nm W)=top2 W - 1:=by
  have:=gJ (nm W) (nm W) [] fun y c=>by simp [c]
  rw[ik,dX] at this;unfold top2;omega
 rw[<- b,j5 d];exact⟨a,a⟩
def j6 (h:∀x∈nm W,x∈A):bY (nm W) A=top2 W - 1:=by
 have:=gJ (nm W) A [] fun y a=>by simp [h y a]
 rw[ik,dX] at this;unfold top2;omega
def Frw.dok (b:WkOk W) (r:Frw W beat fs (top2 W - 1)):Dok W (fs.map (pk W))/\Fils W beat (fs.map (pk W)):=by
 obtain⟨_,g,e,c,_⟩:=r.ok b;have d:∀s∈fs.map (pk W),s.Nodup/\∀n∈s,n∈W.tasks.map (·.1):=fun s h=>by obtain⟨i,_,rfl⟩:=z_.mp h;exact⟨Wl b i,fun n a=>il a⟩
 refine⟨⟨by rw[e_];exact g,fun x f=>?_,J6 c d,fun n a=>(e n).mp (pJ b n a)⟩,c⟩;obtain⟨s,h,a⟩:=Zi.mp f;exact (d s h).2 x a
def Frw.ofD (b:WkOk W) (h:Dok W D) (F:Fils W beat D):Frw W beat (D.map (bY (nm W))) (top2 W - 1):=by
 have:=Frw.of b h.rw (fun s a=>(h.in a).2) F
 rwa [j6 h.al] at this
def bL (i:Nat):T:=.int (i:Int)
def wkF (W:Wk) (beat:Int) (p:Addr):List (Str × T):=[("works",W.enc),("beat",.int beat),("rules",.ref p),("whole",.int ((top2 W:Int) - 1))]
structure Wlk (C:Addr) (W:Wk) (beat:Int) (H:Hp3) (a:Addr):Prop where
 ex:∃p,H a=some (.ins C (wkF W beat p))/\H p=some (.lst (W.tasks.map (ruT W (W.tasks.map (·.1)))))
def Wlk.sub (h:Wlk C W beat H a) (s:Sub3 H H'):Wlk C W beat H' a:=by
 obtain⟨p,c,b⟩:=h.ex;exact⟨p,s _ _ c,s _ _ b⟩
def uw:aP "works" (wkF W beat p)=some W.enc:=rfl
def J9:aP "beat" (wkF W beat p)=some (.int beat):=by unfold wkF aP;rw[if_neg (by decide +kernel)];unfold aP;rw[if_pos rfl]
def FT:aP "rules" (wkF W beat p)=some (.ref p):=by unfold wkF aP;rw[if_neg (by decide +kernel)];unfold aP;rw[if_neg (by decide +kernel)];unfold aP;rw[if_pos rfl]
def ux:aP "whole" (wkF W beat p)=some (.int ((top2 W:Int) - 1)):=by unfold wkF aP;rw[if_neg (by decide +kernel)];unfold aP;rw[if_neg (by decide +kernel)];unfold aP;rw[if_neg (by decide +kernel)];unfold aP;rw[if_pos rfl]
def FW (h:m∉(["works","beat","rules","whole"]:List Str)):aP m (wkF W beat p)=none:=by
 simp only[u_,YB,ZV,not_or] at h;unfold wkF;simp only[aP];rw[if_neg (Ne.symm h.1),if_neg (Ne.symm h.2.1),if_neg (Ne.symm h.2.2.1),if_neg (Ne.symm h.2.2.2)]
def Wm (a:WkOk W) (h:i<top2 W):numOf (W.tasks.map (·.1)) (pk W i)=(i:Int):=by
 rw[cH];exact W_ Int.ofNat (eN a h)
def qR (a:WkOk W):top2 W<=256:=Nat.pow_le_pow_right (n:=2) (by decide) a.t8
def mZ (W:Wk):0<top2 W:=Nat.pow_pos (by decide)
def M6:Sp3:=fun ts H Q=>∃N:Nat,ts=[.int (N:Int)]/\N<256/\∀p,H p=none->Q (.ref p) (up3 H p (.lst ((ut N).map bL)))
def Wn (C:Addr):Sp3:=fun ts H Q=>∃(a:Addr) (W:Wk) (beat:Int),ts=[.ref a,W.enc,.int beat]/\WkOk W/\H a=some (.ins C [])/\∀H',(∀b o,b≠a->H b=some o->H' b=some o)->Wlk C W beat H' a->Q .non H'
def Wo (C:Addr):Sp3:=fun ts H Q=>∃(a:Addr) (W:Wk) (beat:Int) (k d:Nat),ts=[.ref a,.int (k:Int),.int (d:Int)]/\WkOk W/\Wlk C W beat H a/\k<W.row.length/\d<top2 W/\∀p,H p=none->Q (.ref p) (up3 H p (.lst ((fls W beat k d).map bL)))
def Wq (C:Addr):Sp3:=fun ts H Q=>∃(a:Addr) (W:Wk) (beat:Int) (fs:List Nat),ts=[.ref a,.tup (fs.map bL)]/\WkOk W/\Wlk C W beat H a/\fs.length<=8/\(∀f∈fs,f<top2 W)/\Q (.tup ((fs.map (pk W)).map sT)) H
section
variable {α:Type}
def du (k:Nat):List (Nat × α)->Option α
 |[]=>none
 | (k',v)::r=>if k'=k then some v else du k r
def putN (k:Nat) (v:α) (E:List (Nat × α)):List (Nat × α) :=
 if (E.any fun e=>decide (e.1=k))=true then E.map (fun e=>if e.1=k then (e.1,v) else e) else E++[(k,v)]
def dI (a:α->T) (E:List (Nat × α)):List (Int × T):=E.map fun e=>((e.1:Int),a e.2)
def RG (a:α->T) (E:List (Nat × α)):(dI a E).length=E.length:=e_ _
def qT (a:α->T) (k:Nat):∀E:List (Nat × α),dq (k:Int) (dI a E)=(du k E).map a
 |[]=>rfl
 | (k',v)::r=>by
  have b:=qT a k r
  unfold dI at b ⊢
  rw[G_]
  unfold dq du
  by_cases h:k'=k
  ·
   rw[if_pos h,if_pos (show ((k':Nat):Int)=(k:Int) by rw[h])];rfl
  ·
   rw[if_neg h,if_neg (show ¬((k':Nat):Int)=(k:Int) by omega),b]
def RJ (a:α->T) (k:Nat) (v:α) (E:List (Nat × α)):vY (k:Int) (a v) (dI a E)=dI a (putN k v E):=by
 have c:((dI a E).any fun b=>decide (b.1=(k:Int)))=E.any fun e=>decide (e.1=k):=by unfold dI;rw[List.any_map];congr 1;funext e;show decide ((e.1:Int)=(k:Int))=decide (e.1=k);rw[Z4];omega
 unfold vY putN;rw[c];split
 ·unfold dI;rw[YC,YC];refine Zj fun e _=>?_;show (if (e.1:Int)=(k:Int) then ((e.1:Int),a v) else ((e.1:Int),a e.2))=_;show _=((((if e.1=k then (e.1,v) else e).1:Nat):Int),a (if e.1=k then (e.1,v) else e).2);by_cases h:e.1=k
  ·rw[if_pos h,if_pos (by rw[h])]
  rw[if_neg h,if_neg (by omega)]
 unfold dI;rw[x_];rfl
def f9:∀{E:List (Nat × α)},du k E=some v->(k,v)∈E
 | (k',v')::r,h=>by
  unfold du at h
  by_cases e:k'=k
  ·
   rw[if_pos e] at h;cases h;subst e;exact k_
  ·
   rw[if_neg e] at h;exact q_ _ (f9 h)
def m5:∀{E:List (Nat × α)},du k E=none->∀e∈E,e.1≠k
 | (k',v')::r,h,e,a=>by
  unfold du at h
  by_cases z:k'=k
  ·
   rw[if_pos z] at h;cases h
  ·
   rw[if_neg z] at h
   rcases u_.mp a with rfl | a
   ·
    exact z
   ·
    exact m5 h e a
def Ad (k:Nat) (v:α) (E:List (Nat × α)):(putN k v E).map (·.1)=if k∈E.map (·.1) then E.map (·.1) else E.map (·.1)++[k]:=by
 have a:(E.any fun e=>decide (e.1=k))=decide (k∈E.map (·.1)):=by rw[YH,Zy,m_,z_];exact⟨fun ⟨e,h,z⟩=>⟨e,h,Za z⟩,fun ⟨e,h,z⟩=>⟨e,h,L_ z⟩⟩
 unfold putN;rw[a];by_cases h:k∈E.map (·.1)
 ·rw[if_pos h,if_pos (L_ h),YC];refine Zj fun e _=>?_;show (if e.1=k then (e.1,v) else e).1=e.1;split <;> rfl
 rw[if_neg h,if_neg (tL h),x_];rfl
def uA {e:Nat × α} (h:e∈putN k v E):e=(k,v)\/(e∈E/\e.1≠k)\/(e∈E/\k∉E.map (·.1)):=by
 unfold putN at h;split at h
 ·obtain⟨x,a,rfl⟩:=z_.mp h;by_cases z:x.1=k
  ·rw[if_pos z,z];exact .inl rfl
  rw[if_neg z];exact .inr (.inl ⟨a,z⟩)
 rename_i b;rcases v_.mp h with h | h
 ·refine .inr (.inr ⟨h,fun z=>b ?_⟩);obtain⟨x,a,e⟩:=z_.mp z;exact Zy.mpr ⟨x,a,L_ e⟩
 exact .inl (i_.mp h)
def FZ (k:Nat) (v:α) (E:List (Nat × α)):(k,v)∈putN k v E:=by
 unfold putN;split
 ·rename_i h;obtain⟨x,a,e⟩:=Zy.mp h;refine z_.mpr ⟨x,a,?_⟩;have:=Za e;rw[if_pos this,this]
 exact U_ _ (i_.mpr rfl)
def Ga {e:Nat × α} (h:e∈E) (a:e.1≠k):e∈putN k v E:=by
 unfold putN;split
 ·exact z_.mpr ⟨e,h,if_neg a⟩
 exact T_ _ h
def yE {E:List (Nat × α)} (h:(E.map (·.1)).Nodup):((putN k v E).map (·.1)).Nodup:=by
 rw[Ad];split
 ·exact h
 rename_i z;exact fJ h z
def yF:∀{E:List (Nat × α)},(E.map (·.1)).Nodup->(k,v)∈E->du k E=some v
 | (k',v')::r,nd,h=>by
  rw[G_,Y9] at nd
  unfold du
  rcases u_.mp h with e | h
  ·
   cases e;rw[if_pos rfl]
  ·
   rw[if_neg (fun z=>nd.1 (by rw[z];exact z_.mpr ⟨_,h,rfl⟩))]
   exact yF nd.2 h
end
abbrev Ev:=List (Nat × Int × List Nat)
def ldN (W:Wk) (i:Nat):Int:=aX W.tasks (pk W i)
def stp (W:Wk) (d:Nat) (v:Int × List Nat) (B:Ev) (f:Nat):Ev:=match du (d+f) B with
 |none=>putN (d+f) (v.1+ldN W f^2,v.2++[f]) B
 |some u=>if v.1+ldN W f^2<u.1 then putN (d+f) (v.1+ldN W f^2,v.2++[f]) B else B
def Frw.inv (r:Frw W beat b d) (a:b.length=k+1):∃fs d' f,b=fs++[f]/\d=d'+f/\Frw W beat fs d'/\fs.length=k/\f∈fls W beat k d':=by
 cases r with
 |nil=>cases a
 |@snoc fs d' f r e c =>
  have:fs.length=k:=by rw[d_] at a;simp at a;exact a
  exact⟨fs,d',f,rfl,rfl,r,this,by rw[<- this];exact c⟩
def Frw.nil0 (r:Frw W beat a d) (h:a=[]):d=0:=by
 cases r with
 |nil=>rfl
 |@snoc fs d' f r c b=>exact absurd h (by simp)
def Ka (b:WkOk W) (h:d<top2 W) (c:f∈fls W beat k d):d+f<top2 W:=by
 obtain⟨a,F⟩:=fls_mem.mp c;have e:d+f=bY (nm W) (pk W d++pk W f):=by rw[<- ir _ _ _ fun x g z=>F.apart g z.2 z.1,eN b h,eN b a]
 rw[e];exact lQ _
def Wlk.frz {W:Wk}{beat:Int}{H:Hp3}{a q:Addr}{o:O3}{E:List (Int × T)} (h:Wlk C W beat H a) (c:H q=some (.dci E)):Wlk C W beat (up3 H q o) a:=by
 obtain⟨p,d,b⟩:=h.ex;exact⟨p,by rw[aF (ne3 d c (by simp))];exact d,by rw[aF (ne3 b c (by simp))];exact b⟩
def Kb1 (a:Addr) (H H':Hp3):Prop:=∀b u,b≠a->H b=some u->H' b=some u
def Kb1.new (k:Kb1 a H H') (d:H' p=none):Kb1 a H (up3 H' p o):=fun b u c h=>by rw[aF (bz (k b u c h) d)];exact k b u c h
def Kb1.put (k:Kb1 a H H'):Kb1 a H (up3 H' a o):=fun b u c h=>by rw[aF c];exact k b u c h
def Kb1.wlk (k:Kb1 b H H') (c:H b=none) (h:Wlk C W beat H a):Wlk C W beat H' a:=by
 obtain⟨p,e,d⟩:=h.ex;exact⟨p,k _ _ (bz e c) e,k _ _ (bz d c) d⟩
structure Hol (W:Wk) (f:Str->Nat):Prop where
 ord:∀o∈W.orders,f o.1<=f o.2
 pai:∀p∈W.pairs,f p.2.1=f p.2.2↔p.1="with"
 kin:∀t∈W.tasks,lB t.2.2 (W.row.getD (f t.1) "")=true
def Hol.congr (d:WkOk W) (h:Hol W f) (e:∀n∈nm W,f n=g n):Hol W g :=
 ⟨fun o a=>by
  have q:=d.oo o a
  rw[<- e _ q.2.1,<- e _ q.2.2];exact h.ord o a,fun p c=>by
  have q:=d.pp p c
  rw[<- e _ q.2.2.1,<- e _ q.2.2.2];exact h.pai p c,fun t b=>by
  rw[<- e _ (z_.mpr ⟨t,b,rfl⟩)];exact h.kin t b⟩
def ldF (ts:List (Str × Int × List Str)) (f:Str->Nat) (k:Nat):Int:=((ts.filter fun t=>decide (f t.1=k)).map (·.2.1)).sum
def lds (W:Wk) (f:Str->Nat) (m:Nat):List Int:=(List.range m).map (ldF W.tasks f)
def Ae (e:∀t∈ts,f t.1=g t.1) (k:Nat):ldF ts f k=ldF ts g k:=by
 have:(ts.filter fun t=>decide (f t.1=k))=ts.filter fun t=>decide (g t.1=k):=Zb fun t a=>by rw[e t a]
 unfold ldF;rw[this]
def Af (e:∀n∈nm W,f n=g n) (m:Nat):lds W f m=lds W g m :=
 Zj fun k _=>Ae (fun t a=>e _ (z_.mpr ⟨t,a,rfl⟩)) k
def uB (A:List (Str × Int × List Str)) (t:Str × Int × List Str) (f:Str->Nat) (k:Nat):ldF (A++[t]) f k=ldF A f k+if f t.1=k then t.2.1 else 0:=by
 unfold ldF;rw[Zf,x_,List.sum_append];by_cases h:f t.1=k <;> simp [h]
def yG (h:f t.1<m):((List.range m).map (ldF A f)).set (f t.1) (ldF A f (f t.1)+t.2.1)=(List.range m).map (ldF (A++[t]) f):=by
 apply aar;intro i;by_cases a:i<m
 ·rw[y_,YK a];by_cases e:i=f t.1
  ·subst e;rw[Zd (by rw[e_,D_];exact a),aaL,uB,if_pos rfl]
  rw[Zr (Ne.symm e),y_,YK a,aaL,aaL,uB,if_neg (Ne.symm e),Int.add_zero]
 rw[P_ (by rw[aaZ,e_,D_];omega),P_ (by rw[e_,D_];omega)]
def Gb (a:k<m):(dealt ns f m)[k]?=some (ns.filter fun n=>decide (f n=k)):=by
 unfold dealt;rw[y_,YK a];rfl
def Gd (d:WkOk W) (b:m<=W.row.length) (a:∀n,f n<m):∀n∈nm W,fD (dealt (nm W) f m) n=f n:=fun n c =>
 fP (iR d (List.Perm.refl _) b a).nd (Gb (a n)) (B_.mpr ⟨c,L_ rfl⟩)
def m6:aX W.tasks ((nm W).filter fun n=>decide (f n=k))=ldF W.tasks f k:=by
 have e:(W.tasks.filter fun t=>decide (t.1∈(nm W).filter fun n=>decide (f n=k)))=W.tasks.filter fun t=>decide (f t.1=k):=Zb fun t a=>by rw[Z4,B_,m_];exact⟨fun z=>z.2,fun z=>⟨z_.mpr ⟨t,a,rfl⟩,z⟩⟩
 unfold aX ldF;rw[e]
def uC (b:WkOk W) (j:m<=W.row.length) (i:∀n,f n<m) (h:Hol W f) (u:∀l∈lds W f m,l<=beat):Fils W beat (dealt (nm W) f m):=by
 have d:Dok W (dealt (nm W) f m):=iR (W:=W) b (List.Perm.refl _) j i;have e:=Gd b j i;have c:=h.congr b (g:=fD (dealt (nm W) f m)) fun n r=>(e n r).symm;refine (mY b d).mp ⟨c.ord,c.pai,fun k s o t q a=>?_,fun s a=>?_⟩
 ·have:=fP d.nd o a;have:=c.kin t q
  rwa [fP d.nd o a] at this
 obtain⟨k,p,rfl⟩:=z_.mp a;show aX W.tasks ((nm W).filter fun n=>decide (f n=k))<=beat
 rw[m6];exact u _ (z_.mpr ⟨k,p,rfl⟩)
def gfl (W:Wk) (beat:Int) (k d:Nat):List Nat:=(gre bT (fls W beat k d)).reverse
def qU (h:f∈gfl W beat k d):f∈fls W beat k d:=qQ _ _ (List.mem_reverse.mp h)
def Kc (h:f∈fls W beat k d):∃g∈gfl W beat k d,bT g f=true:=by
 obtain⟨g,a,e⟩:=yz Ab _ f h;exact⟨g,List.mem_reverse.mpr a,e⟩
def Ge (h:x∈bu W t) (a:t∈nm W):t∈bu W x:=by
 unfold bu at h ⊢;rw[B_,@m_ _ (Classical.propDecidable _)] at h ⊢;exact⟨a,h.2.2,h.2.1⟩
def Kd (h:x∈bu W t):x∈nm W:=(B_.mp h).1
def Frw.grp (m:WkOk W) (r:Frw W beat fs d) (g:t∈pk W d) (l:x∈bu W t):x∈pk W d:=by
 obtain⟨_,_,b,i,_⟩:=r.ok m;obtain⟨s,c,a⟩:=Zi.mp ((b t).mp g);obtain⟨j,k⟩:=Z8 c;obtain⟨u,h,e⟩:=z_.mp (il g);have f:=(i j s k).one u h (by rw[e];exact a);exact (b x).mpr (Zi.mpr ⟨s,c,f.2.2.1 x (by rw[e];exact l)⟩)
def m7 (d:∀t∈ts,0<=t.2.1) (h:∀x∈b,x∈S):aX ts b<=aX ts S:=by
 unfold aX;induction ts with
 |nil=>exact Int.le_refl _
 |cons t r f =>
  have i:=f fun u e=>d u (q_ _ e)
  have g:=d t k_
  rw[ZM,ZM]
  by_cases a:t.1∈b
  ·
   rw[if_pos (L_ a),if_pos (L_ (h _ a)),G_,G_,Z5,Z5]
   omega
  ·
   rw[if_neg (tL a)]
   by_cases c:t.1∈S
   ·
    rw[if_pos (L_ c),G_,Z5];omega
   ·
    rw[if_neg (tL c)];exact i
def Fil.more (m:WkOk W) (f:Fil W beat b D S) (k:∀x∈D,x∈c) (h:∀t x,t∈c->x∈bu W t->x∈c):Fil W beat b c (S.filter fun x=>decide (x∉c)) :=
 ⟨fun t e d=>by
  rw[B_,m_] at d
  obtain⟨n,l,i,g,j⟩:=f.one t e d.1
  refine⟨d.2,l,fun x a=>?_,fun x a=>?_,fun x a z=>j x a (B_.mp z).1⟩
  ·
   rw[B_,m_]
   exact⟨i x a,fun z=>d.2 (h x t.1 z (Ge a (z_.mpr ⟨t,e,rfl⟩)))⟩
  ·
   by_cases z:x∈c
   ·
    exact .inr z
   ·
    exact .inl (B_.mpr ⟨(g x a).resolve_right fun q=>z (k x q),L_ z⟩),
  Int.le_trans (m7 (fun t e=>by have:=(m.tk t e).lo;omega) fun x a=>(B_.mp a).1) f.ld⟩
abbrev Wy:=List (Nat × List Nat)
def iW (d:Nat) (v:List Nat) (B:Wy) (f:Nat):Wy:=match du (d+f) B with
 |none=>putN (d+f) (v++[f]) B
 |some _=>B
def wbh (W:Wk) (beat:Int) (k:Nat) (E:Wy):Wy:=E.foldl (fun B e=>(gfl W beat k e.1).foldl (iW e.1 e.2) B) []
def wys (W:Wk) (beat:Int):Nat->Wy
 |0=>[(0,[])]
 |k+1=>wbh W beat k (wys W beat k)
structure Wtb (W:Wk) (beat:Int) (k:Nat) (E:Wy):Prop where
 nd:(E.map (·.1)).Nodup
 ok:∀e∈E,Frw W beat e.2 e.1/\e.2.length=k
 al:∀fs d,Frw W beat fs d->fs.length=k->∃e∈E,∀x∈pk W d,x∈pk W e.1
structure WtI (W:Wk) (beat:Int) (k:Nat) (sub:Nat->Nat->Prop) (B:Wy):Prop where
 nd:(B.map (·.1)).Nodup
 ok:∀e∈B,Frw W beat e.2 e.1/\e.2.length=k+1
 al:∀d f,sub d f->∃e∈B,e.1=d+f
def WtI.step {beat:Int}{k:Nat}{sub:Nat->Nat->Prop}{B:Wy}{d:Nat}{v:List Nat}{f:Nat} (h:WtI W beat k sub B) (l:Frw W beat v d) (i:v.length=k) (n:k<W.row.length) (j:f∈fls W beat k d):
  WtI W beat k (fun d' c=>sub d' c\/(d'=d/\c=f)) (iW d v B f):=by
 have g:Frw W beat (v++[f]) (d+f)/\(v++[f]).length=k+1 :=
  ⟨.snoc l (by omega) (by rw[i];exact j),by rw[d_,i];rfl⟩
 unfold iW;cases e:du (d+f) B with
 |none =>
  refine⟨yE h.nd,fun x a=>?_,fun d' c b=>?_⟩
  ·rcases uA a with rfl | ⟨a,_⟩ | ⟨a,_⟩
   ·exact g
   ·exact h.ok x a
   exact h.ok x a
  rcases b with b | ⟨rfl,rfl⟩
  ·obtain⟨x,a,m⟩:=h.al d' c b;exact⟨x,Ga a (m5 e x a),m⟩
  exact⟨_,FZ _ _ _,rfl⟩
 |some u =>
 refine⟨h.nd,h.ok,fun d' c b=>?_⟩;rcases b with b | ⟨rfl,rfl⟩
 ·exact h.al d' c b
 exact⟨_,f9 e,rfl⟩
def WtI.inner (m:Frw W beat v d) (p:v.length=k) (o:k<W.row.length):
  ∀{xs:List Nat},(∀f∈xs,f∈fls W beat k d)->WtI W beat k sub B->WtI W beat k (fun d' a=>sub d' a\/(d'=d/\a∈xs)) (xs.foldl (iW d v) B):=by
 intro xs;induction xs generalizing sub B with
 |nil=>intro _ h;exact⟨h.nd,h.ok,fun d' a b=>h.al d' a (b.resolve_right fun z=>nomatch z.2)⟩
 |cons f r n =>
 intro i h;have e:=n (fun g l=>i g (q_ _ l)) (h.step m p o (i f k_));refine⟨e.nd,e.ok,fun d' a b=>e.al d' a ?_⟩;rcases b with b | ⟨j,c⟩
 ·exact .inl (.inl b)
 rcases u_.mp c with c | c
 ·exact .inl (.inr ⟨j,c⟩)
 exact .inr ⟨j,c⟩
def WtI.outer (c:k<W.row.length):∀{xs:Wy}{sub:Nat->Nat->Prop}{B:Wy},(∀e∈xs,Frw W beat e.2 e.1/\e.2.length=k)->WtI W beat k sub B ->
  WtI W beat k (fun d f=>sub d f\/((∃v,(d,v)∈xs)/\f∈gfl W beat k d)) (xs.foldl (fun B e=>(gfl W beat k e.1).foldl (iW e.1 e.2) B) B)
 |[],_,_,_,h=>⟨h.nd,h.ok,fun d f a=>h.al d f (a.resolve_right fun z=>z.1.elim fun _ q=>nomatch q)⟩
 |e::r,sub,B,hx,h=>by
  obtain⟨j,l⟩:=hx e k_
  have q:=WtI.outer c (xs:=r) (fun x b=>hx x (q_ _ b)) (WtI.inner (xs:=gfl W beat k e.1) j l c (fun f i=>qU i) h)
  refine⟨q.nd,q.ok,fun d f a=>q.al d f ?_⟩
  rcases a with a | ⟨⟨v,m⟩,g⟩
  ·
   exact .inl (.inl a)
  ·
   rcases u_.mp m with z | z
   ·
    rw[<- z] at *
    exact .inl (.inr ⟨rfl,g⟩)
   ·
    exact .inr ⟨⟨v,z⟩,g⟩
def Gf (b:WkOk W) (h:d<top2 W) (c:f∈fls W beat k d):x∈pk W (d+f)↔x∈pk W d\/x∈pk W f:=by
 obtain⟨a,F⟩:=fls_mem.mp c;have e:d+f=bY (nm W) (pk W d++pk W f):=by rw[<- ir _ _ _ fun x g z=>F.apart g z.2 z.1,eN b h,eN b a]
 rw[e,j5 b,v_];exact⟨fun z=>z.2,fun z=>⟨z.elim il il,z⟩⟩
def Gg (a:WkOk W) (h:Wtb W beat k E) (C:k<W.row.length):Wtb W beat (k+1) (wbh W beat k E):=by
 have q:=WtI.outer (W:=W) (beat:=beat) C (xs:=E) (sub:=fun _ _=>False) (B:=[]) h.ok ⟨aam,fun _ z=>(nomatch z),fun _ _ z=>z.elim⟩;refine⟨q.nd,q.ok,fun fs d r I=>?_⟩;obtain⟨J,d',f,rfl,rfl,u,n,o⟩:=r.inv I;obtain⟨e,w,A⟩:=h.al J d' u n;have s:=(h.ok e w).1;have i:=(s.ok a).1;obtain⟨K,F⟩:=fls_mem.mp o;have H:=F.more a A fun t x G j=>s.grp a G j;have m:bY (nm W) ((pk W f).filter fun x=>decide (x∉pk W e.1))∈fls W beat k e.1:=fls_mem.mpr ⟨lQ _,H.congr (fun x=>Iff.rfl) fun x=>by rw[j5 a];exact⟨fun z=>⟨il (B_.mp z).1,z⟩,fun z=>z.2⟩⟩;obtain⟨g,v,p⟩:=Kc m;have b:=qU v;obtain⟨x,j,L⟩:=q.al e.1 g (.inr ⟨⟨e.2,w⟩,v⟩);have l:=(fls_mem.mp b).1;refine⟨x,j,fun y D=>?_⟩;rw[L,Gf a i b];rcases (Gf a (u.ok a).1 o).mp D with z | z
 ·exact .inl (A y z)
 by_cases c:y∈pk W e.1
 ·exact .inl c
 refine .inr ?_;rw[<- eN a l,uo] at p;exact p y (il z) (B_.mpr ⟨z,L_ c⟩)
def wtb (b:WkOk W):∀{k:Nat},k<=W.row.length->Wtb W beat k (wys W beat k)
 |0,_=>⟨by simp [wys],fun e f=>by rw[i_.mp f];exact⟨.nil,rfl⟩,fun fs d r c=>by
   refine⟨(0,[]),i_.mpr rfl,fun x a=>?_⟩
   rw[r.nil0 (aaB.mp c)] at a
   exact a⟩
 |k+1,h=>Gg b (wtb b (by omega)) (by omega)
structure WOk (W:Wk) (n:Nat) (E:Wy):Prop where
 nd:(E.map (·.1)).Nodup
 lt:∀e∈E,e.1<top2 W/\e.2.length<=n/\∀f∈e.2,f<top2 W
def WOk.len (h:WOk W n E):E.length<=top2 W:=by
 have:=qN (l:=E.map (·.1)) (m:=List.range (top2 W)) h.nd fun x b=>by obtain⟨e,a,rfl⟩:=z_.mp b;exact YF.mpr (h.lt e a).1
 rwa [e_,D_] at this
def WOk.stp (l:WkOk W) (h:WOk W (n+1) B) (j:d<top2 W) (i:v.length<=n) (c:∀f∈v,f<top2 W) (e:f∈fls W beat k d):WOk W (n+1) (iW d v B f):=by
 unfold iW;split
 ·refine⟨yE h.nd,fun x b=>?_⟩;rcases uA b with rfl | ⟨b,_⟩ | ⟨b,_⟩
  ·refine⟨Ka l j e,by rw[d_];simp;exact i,fun g a=>?_⟩;rcases v_.mp a with a | a
   ·exact c g a
   rw[i_.mp a];exact (fls_mem.mp e).1
  ·exact h.lt x b
  exact h.lt x b
 exact h
def Wtb.wok (d:WkOk W) (h:Wtb W beat k E):WOk W k E:=⟨h.nd,fun e b=>by
 obtain⟨r,f⟩:=h.ok e b;obtain⟨c,_,_,_,a⟩:=r.ok d;exact⟨c,by omega,a⟩⟩
def yH (a:WkOk W) (c:m<=W.row.length):(du (top2 W - 1) (wys W beat m)).isSome=true↔∃fs,Frw W beat fs (top2 W - 1)/\fs.length=m:=by
 have T:=wtb (beat:=beat) a c;constructor
 ·intro h;obtain⟨v,e⟩:=aat.mp h;have:=T.ok _ (f9 e);exact⟨v,this.1,this.2⟩
 rintro⟨fs,r,f⟩;obtain⟨e,b,h⟩:=T.al fs _ r f;have g:e.1=top2 W - 1:=by rw[<- eN a ((T.ok e b).1.ok a).1];exact j6 fun x d=>h x (pJ a x d)
 have:=yF T.nd (show (e.1,e.2)∈wys W beat m from b);rw[g] at this;rw[this];rfl
abbrev Wk.nms (W:Wk):List Str:=W.tasks.map (·.1)
variable {f:Str->Str}{W W2:Wk}
def Ke (h:p↔q):@decide p i=@decide q j:=by
 by_cases a:p
 ·rw[L_ a,L_ (h.mp a)]
 rw[H_ a,H_ fun z=>a (h.mpr z)]
def Gh {x y:Str}(h:x.cps.toList=y.cps.toList):x=y:=by cases x;cases y;simp at h;simp [h]
def Gi (h:leS x y) (g:leS y x):x=y:=Gh (PyProof.Rows.KeyOrd.kle_antisymm h g)
def Kf {g u v:List Str}(f:u.Perm g) (h:u.Pairwise leS) (d:v.Perm g) (c:v.Pairwise leS):u=v :=
 (f.trans d.symm).eq_of_pairwise (fun a b _ _ e i=>Gi e i) h c
def grp_mem:x∈bu W t↔x∈W.nms/\RT (lkR ["with"] W) t x/\RT (lkR ["with"] W) x t:=by
 unfold bu;rw[B_,@m_ _ (Classical.propDecidable _)]
def RK (h:u∈bu W t):bu W u=bu W t:=by
 obtain⟨_,d,c⟩:=grp_mem.mp h;unfold bu;exact Zb fun x _=>Ke ⟨fun ⟨a,b⟩=>⟨d.trans a,b.trans c⟩,fun ⟨a,b⟩=>⟨c.trans a,b.trans d⟩⟩
def gps_mem:g∈cP W↔∃t∈W.nms,bu W t=g:=by
 unfold cP;rw[z_];constructor
 ·rintro⟨t,a,rfl⟩;exact⟨t,(B_.mp a).1,rfl⟩
 rintro⟨t,a,rfl⟩;have c:=jZ (W:=W) a;cases e:bu W t with
 |nil=>rw[e] at c;cases c
 |cons u r =>
  have b:u∈bu W t:=by rw[e];exact k_
  have d:=RK b
  exact⟨u,B_.mpr ⟨(grp_mem.mp b).1,by rw[d,e];simp⟩,d.trans e⟩
def Wk.turn (W:Wk):Wk:=⟨W.tasks,W.orders.map fun o=>(o.2,o.1),W.pairs,W.row.reverse⟩
def Gj:∀(xs a:List Str),(a++xs).Nodup->kst a xs=a++xs
 |[],a,_=>(S_ a).symm
 |n::r,a,h=>by
  show kst (lC a n) r=_
  have b:n∉a:=fun z=>by rw[Zq] at h;exact h.2.2 n z n k_ rfl
  unfold lC
  rw[if_neg b,Gj r (a++[n]) (by rw[YW];exact h),YW]
  rfl
def Wr (h:D.flatten.Nodup):kD D=D.flatten:=by
 unfold kD;rw[Gj _ _ (by simpa using h)];rfl
def Dok.pm (b:WkOk W) (h:Dok W D):D.flatten.Perm (nm W):=(List.perm_ext_iff_of_nodup h.nd b.nd).mpr fun a=>⟨h.st a,h.al a⟩
def Dok.fl (a:WkOk W) (h:Dok W D):D.flatten.length<=8:=by
 rw[(h.pm a).length_eq,dX];exact a.t8
def Dok.lt (h:Dok W D) (b:n∈nm W):fD D n<D.length:=by
 obtain⟨k,s,e,a⟩:=iQ (h.al n b);rw[fP h.nd e a];rcases aaU k D.length with z | z
 ·exact z
 rw[P_ z] at e;cases e
def Dok.ldF (h:Dok W D) (e:D[k]?=some s):aX W.tasks s=ldF W.tasks (fD D) k:=by
 rw[<- m6];refine lq fun x=>?_;rw[B_,m_];constructor
 ·intro a;exact⟨h.st x (Zi.mpr ⟨s,X_ e,a⟩),fP h.nd e a⟩
 rintro⟨a,d⟩;obtain⟨f,g,b,c⟩:=iQ (h.al x a);have:=fP h.nd b c;rw[d] at this;subst this;rw[e] at b;cases b;exact c
def Rgt.lds (h:Dok W D) (r:Rgt W beat D (fD D)):∀l∈lds W (fD D) D.length,l<=beat:=fun l b=>by
 obtain⟨k,a,rfl⟩:=z_.mp b;have e:=g_ (YF.mp a);rw[<- h.ldF e];exact r.bea _ (Y4 _)
def Rgt.kd (h:Dok W D) (r:Rgt W beat D (fD D)) (a:t∈W.tasks):lB t.2.2 (W.row.getD (fD D t.1) "")=true:=by
 obtain⟨k,s,e,b⟩:=iQ (h.al t.1 (z_.mpr ⟨t,a,rfl⟩));rw[fP h.nd e b];exact r.kin k s e t a b
def Kg (ns:List Str) (f:Str->Nat):(dN ns f).map (·.1)=ns:=by
 unfold dN;rw[YC];exact List.map_id'' (fun _=>rfl) ns
def Kh (f:Str->Nat) (n:Nat):(List.replicate n [T.int 0]).flatten=((List.range n).map (ldF ([]:List (Str × Int × List Str)) f)).map T.int:=by
 induction n with
 |zero=>rfl
 |succ n a =>
 rw[List.replicate_succ',ZZ,a,List.range_succ,x_,x_];rfl
def Ws:Sp3:=fun ts H Q=>∃(W:Wk) (beat:Int) (D:List (List Str)),ts=[W.enc,.int beat,.tup (D.map sT)]/\WkOk W/\Dok W D/\Rgt W beat D (fD D)/\Q (.bl true) H
def Wu:Sp3:=fun ts H Q=>∃(W:Wk) (beat:Int) (m:Nat) (D:List (List Str)),ts=[W.enc,.int beat,.int (m:Int),.tup (D.map sT)]/\WkOk W/\D.length=m/\(∀s∈D,(nm W).filter (fun n=>decide (n∈s))=s)/\Dok W D/\Rgt W beat D (fD D)/\Q (.bl true) H
def Kl:OpR X (binaryOp .Add) (fun x y H Q=>∃l b xs d,x=.ref l/\y=.ref b/\SqL X.K H l xs/\H b=some (.lst d)/\xs.length+d.length<=sizeLine/\∀p,H p=none->Q (.ref p) (upd H p (.lst (xs++d)))):=by
 intro j s N H x y v u Q I z G h;obtain⟨l,b,xs,d,rfl,rfl,B,C,P,q⟩:=h;cases z;cases G;obtain⟨c,r,⟨⟨D,O,g,A⟩,n,e,m,f,i⟩,M⟩:=I.list B;obtain⟨L,a,t,J,o,k⟩:=I.lstM C;simp only at m f i;subst m f i;have E:=r.length;refine concat_meets ⟨_,e,rfl⟩ ⟨_,k,rfl⟩ noFill_list_add seq_list_add PySem.F.slot_list_add PySem.F.entry_list_add (PySem.F.args_list_add_2 _ _) (list_addW l b c.toArray a.toArray n t none none A #[] (by rw[t_,t_];omega)) ⟨e,k,?_⟩;have w:c.toArray++a.toArray=(c++a).toArray:=by simp
 rw[w];exact⟨.ref _,_,I.lnew (t':=s.toks) (r.append J) (by rw[d_];omega),rfl,q _ I.fresh⟩
def RM (o u:Option O3) (H:Hp3) (Q:VK3):Prop:=match o,u with
 |some (.rol xs),some (.lst ys)=>xs.length+ys.length<=sizeLine/\∀p,H p=none->Q (.ref p) (up3 H p (.lst (xs++ys)))
 |_,_=>False
def Gk:R3:=fun x y H Q=>match x,y with
 |.ref a,.ref b=>RM (H a) (H b) H Q
 |_,_=>False
def RP (a b:Addr):Gk (.ref a) (.ref b) H Q=RM (H a) (H b) H Q:=rfl
def Gm (xs a:List T):RM (some (.rol xs)) (some (.lst a)) H Q=(xs.length+a.length<=sizeLine/\∀p,H p=none->Q (.ref p) (up3 H p (.lst (xs++a)))):=rfl
def yI:dM X (binaryOp .Add) Gk:=by
 refine OpR.imp Kl ?_;rintro x y H Q ⟨m,j,H3,r,n,q,c,h,k⟩;cases m with
 |ref a =>
  cases j with
  |ref b =>
   have h':(match H3 a,H3 b with
    |some (.rol xs),some (.lst d)=>xs.length+d.length<=sizeLine/\∀p,H3 p=none->r (.ref p) (up3 H3 p (.lst (xs++d)))
    |_,_=>False):=h
   split at h'
   ·
    rename_i xs d l o
    obtain⟨vs,s,g⟩:=c.sqL (.inr l)
    obtain⟨ws,i,f⟩:=c b _ o
    refine⟨a,b,vs,ws,n.ref,q.ref,s,i,by rw[<- g.length,<- f.length];exact h'.1,fun p e=>?_⟩
    exact k _ _ _ _ (aO e) (c.newLst e (g.append f)) .ofRef (h'.2 p (c.fresh e))
   ·
    exact h'.elim
  |_=>exact h.elim
 |_=>exact h.elim
def rvO (o:Option O3) (a:Addr) (H:Hp3) (Q:VK3):Prop:=match o with
 |some (.lst xs)=>Q .non (up3 H a (.lst xs.reverse))
 |_=>False
def M7:T->List T->Hp3->VK3->Prop:=fun x ts H Q=>match x,ts with
 |.ref a,[]=>rvO (H a) a H Q
 |_,_=>False
def Wv (a:Addr):M7 (.ref a) [] H Q=rvO (H a) a H Q:=rfl
def Ww (xs:List T) (a:Addr):rvO (some (.lst xs)) a H Q=Q .non (up3 H a (.lst xs.reverse)):=rfl
def Gn:vA X "list.reverse" M7:=by
 refine MtR.imp vo ?_;rintro x xs H Q ⟨i,ts,H3,j,c,d,f,h,k⟩
 match i,ts,h,c,d with
 |.ref a,[],h,c,d =>
  have h':rvO (H3 a) a H3 j:=h
  cases e:H3 a with
  |none=>rw[e] at h';exact h'.elim
  |some o =>
   rw[e] at h'
   cases o with
   |lst l =>
    obtain⟨g,b,r⟩:=f a _ e
    exact⟨a,g,c.ref,d.inv0,b,k _ _ _ _ (bR (by rw[b];exact trivial)) (f.wrL b r.reverse) .ofNon h'⟩
   |_=>exact h'.elim
def RQ (ts:List T) (i:Int):ixH (some (.rol ts)) i H Q=oq (atI ts i) fun t=>Q t H:=rfl
def RV (xs:List T):lnH (some (.rol xs)) H Q=Q (.int xs.length) H:=rfl
def Km:Sp3:=fun ts H Q=>∃(a:Addr) (ns:List Int) (k:Nat),ts=[.ref a,.int (k:Int)]/\H a=some (.rol (ns.map T.int))/\ns.length<=63/\k<64/\∀c:Int,Q (.int c) H
def RW:Sp3:=fun ts H Q=>∃c:Int,ts=[.int c]/\∀x,isNm x->Q (.str x) H
def qW {ns:List Int} (h:i<ns.length):∃c:Int,atI (ns.map T.int) (i:Int)=some (T.int c):=⟨ns[i],by rw[cz (by rw[y_,g_ h];rfl)]⟩
def jL {xs:List Str}:dj false (T.str x) (xs.map T.str)=decide (x∈xs):=by
 unfold dj;rw[if_neg J_,Z4,z_];exact⟨fun ⟨y,h,e⟩=>by cases e;exact h,fun h=>⟨x,h,rfl⟩⟩
def RX:Sp3:=fun ts H Q=>∃(a:Addr) (ws:List Str),ts=[.ref a]/\H a=some (.lst (ws.map T.str))/\ws.length<=8/\(∀x∈ws,isNm x)/\∀us:List Str,us.length=ws.length->Nms us->∀p,H p=none->Q (.ref p) (up3 H p (.lst (us.map T.str)))
def nmL (b:List Nat) (s i:Nat):Str:=mkS (b++[97+(s+i)%26])
def RZ (h:b.length<=7) (d:∀c∈b,97<=c/\c<=122):isNm (nmL b s i):=by
 refine MP (by rw[d_];simp) (by rw[d_];simp;exact h) fun c a=>?_;rcases v_.mp a with a | a
 ·exact d c a
 rw[i_.mp a];have:=Nat.mod_lt (s+i) (show 0<26 by decide);omega
def Ko (c:i<26) (a:j<26) (h:nmL b s i=nmL b s j):i=j:=by
 have e:=JW h;rw[List.append_cancel_left_eq,List.cons.injEq] at e;omega
def Kp (h:isNm x):∃(b:List Nat) (s:Nat),x=nmL b s 0/\b.length<=7/\s<26/\∀c∈b,97<=c/\c<=122:=by
 obtain⟨l,rfl⟩:=Rm x;have e:=h.lo;have f:=h.hi;have d:=h.az;rw[dz] at e f;rw[iK] at d;have a:l≠[]:=by intro z;rw[z] at e;exact absurd e (by decide)
 have i:=d _ (List.getLast_mem a);have j:l.dropLast.length+1=l.length:=by rw[List.length_dropLast];omega
 refine⟨l.dropLast,l.getLast a - 97,?_,by omega,by omega,fun c g=>d c ((List.dropLast_subset l) g)⟩;unfold nmL;rw[Nat.add_zero,Nat.mod_eq_of_lt (by omega),show 97+(l.getLast a - 97)=l.getLast a by omega,aae]
def Sd (b:List Nat) (c:Nat):Txt.slice (mkS (b++[c])) none (some (-1))=mkS b:=by
 have e:=StrLaws.sliceText_neg_hi (mkS (b++[c])) none (j:=-1) (by decide) (by rw[dz,d_];simp;omega);have l : -1+((mkS (b++[c])).length:Int)=(b.length:Int):=by rw[dz,d_];simp;omega
 rw[l] at e;have t:=Wd (b++[c]) b.length (by rw[d_];omega);rw[List.take_left' rfl] at t;exact e.trans t
def Kq (b:List Nat) (s i:Nat):(nmL b s i).length=b.length+1:=by unfold nmL;rw[dz,d_];rfl
def Kr (b:List Nat) (s i:Nat):(nmL b s i).cps.toList=b++[97+(s+i)%26]:=rfl
def Wx:Sp3:=fun ts H Q=>∃c:Int,ts=[.int c]/\∀us:List Str,us.length=8->Nms us->∀p,H p=none->Q (.ref p) (up3 H p (.lst (us.map T.str)))
def Wz:Sp3:=fun ts H Q=>∃(c:Int) (j i:Addr) (a d:List Str) (b:Int),ts=[.int c,.ref j,.ref i,.int b]/\H j=some (.lst (a.map T.str))/\1<=a.length/\a.length<=8/\(∀x∈a,isNm x)/\H i=some (.lst (d.map T.str))/\d.length=8/\(∀x∈d,isNm x)/\1<=b/\b<=10^57 /\
 ∀(s:Nat) (h e:Int) (f:List Str) (g:Str),s<a.length->0<=h->h<8->1<=e->e<10^60->Nms f->f.length<=4->(f=[]\/a.getD s ""∈f)->isNm g->Q (.tup [.int (s:Int),.int h,.int e,sT f,.str g]) H
def lR {ns:List Str} (h:i<ns.length):atI (ns.map T.str) (i:Int)=some (T.str (ns.getD i "")):=by
 rw[cz (by rw[y_,g_ h];rfl),h_,g_ h];rfl
def getD_memS {ns:List Str} (h:i<ns.length):ns.getD i ""∈ns:=by
 rw[h_,g_ h];exact Y4 h
abbrev Tk5:=Nat × Int × Int × List Str × Str
def tk5 (t:Tk5):T:=.tup [.int (t.1:Int),.int t.2.1,.int t.2.2.1,sT t.2.2.2.1,.str t.2.2.2.2]
structure Lnk (ns:List Str) (sts:List Nat) (O:List (Str × Str)) (P:List (Str × Str × Str)):Prop where
 ol:O.length<=28
 od:O.Nodup
 oo:∀o∈O,∃i j,i≠j/\ns[i]?=some o.1/\ns[j]?=some o.2/\sts.getD i 0<=sts.getD j 0
 pl:P.length<=12
 pd:P.Nodup
 pp:∀p∈P,∃i j,i≠j/\ns[i]?=some p.2.1/\ns[j]?=some p.2.2/\((p.1="with"/\sts.getD i 0=sts.getD j 0)\/(p.1="apart"/\sts.getD i 0≠sts.getD j 0))
def WD:Sp3:=fun ts H Q=>∃(a c e:Addr) (d:List Int) (ns:List Str) (b:List Tk5),ts=[.ref a,.ref c,.ref e]/\H a=some (.rol (d.map T.int))/\d.length<=63/\H c=some (.lst (ns.map T.str))/\Nms ns/\ns.length<=8/\H e=some (.lst (b.map tk5))/\b.length=ns.length/\∀O P,Lnk ns (b.map (·.1)) O P->Q (.tup [.tup (O.map orT),.tup (P.map prT)]) H
structure Rnk (ns:List Str) (ss:List Tk5) (us:List (Int × Int × Int)):Prop where
 l:us.length=ns.length
 ex:∃ix:Nat->Nat,(∀p<ns.length,ix p<ns.length/\us[p]?=some ((((ss.map (·.1)).getD (ix p) 0:Nat):Int),(us.getD p (0,0,0)).2.1,(ix p:Int)))/\(∀p q,p<q->q<ns.length->ix p≠ix q/\(ss.map (·.1)).getD (ix p) 0<=(ss.map (·.1)).getD (ix q) 0)
def Sg {f:List Tk5} (G:f.length=ns.length) (r:us.Perm ((List.range ns.length).map fun k=>((((f.map (·.1)).getD k 0:Nat):Int),((f.map (·.2.1)).getD k 0:Int),(k:Int)))) (D:us.Pairwise JD):Rnk ns f us:=by
 have m:us.length=ns.length:=by rw[r.length_eq,e_,D_]
 have a:∀x∈us,∃k,k<ns.length/\x=((((f.map (·.1)).getD k 0:Nat):Int),((f.map (·.2.1)).getD k 0:Int),(k:Int)):=fun x A=>by obtain⟨k,o,e⟩:=z_.mp (r.mem_iff.mp A);exact⟨k,YF.mp o,e.symm⟩
 have t:(us.map (·.2.2)).Nodup:=by refine (r.map (·.2.2)).nodup_iff.mpr ?_;rw[YC,List.Nodup,List.pairwise_map];refine List.Pairwise.imp (fun {x y} h e=>h ?_) (List.nodup_range (n:=ns.length));have:(x:Int)=(y:Int):=e;omega
 refine⟨m,fun p=>(us.getD p (0,0,0)).2.2.toNat,fun p h=>?_,fun p q g H=>?_⟩
 ·have u:us[p]?=some us[p]:=g_ (by omega);obtain⟨k,o,e⟩:=a _ (Y4 (show p<us.length by omega));have l:us.getD p (0,0,0)=us[p]:=by rw[h_,u];rfl
  have i:(us.getD p (0,0,0)).2.2.toNat=k:=by rw[l,e];exact Zk k
  dsimp only;refine⟨by rw[i];exact o,?_⟩;rw[i,u,l,e]
 have d:p<us.length:=by omega
 have c:q<us.length:=by omega
 obtain⟨k,o,e⟩:=a _ (Y4 d);obtain⟨v,C,s⟩:=a _ (Y4 c);have E:us.getD p (0,0,0)=us[p]:=by rw[h_,g_ d];rfl
 have B:us.getD q (0,0,0)=us[q]:=by rw[h_,g_ c];rfl
 have F:(us.getD p (0,0,0)).2.2.toNat=k:=by rw[E,e];exact Zk k
 have w:(us.getD q (0,0,0)).2.2.toNat=v:=by rw[B,s];exact Zk v
 dsimp only;rw[F,w];constructor
 ·intro z;have j:=(Z0.mp t) p q (by rw[e_];exact d) (by rw[e_];exact c) g;rw[Z3,Z3,e,s,z] at j;exact j rfl
 have b:=(Z0.mp D) p q d c g;unfold JD KeyOrd.kle at b;rw[e,s] at b;dsimp only[trOrd] at b;rw[ZK] at b;omega
def Dn (p q a b:Nat):Prop:=a<p\/(a=p/\b<q)
structure Lk1 (nmO:Nat->Str) (wd:Nat->Nat->Str) (m p q:Nat) (O:List (Str × Str)) (P:List (Str × Str × Str)):Prop where
 od:O.Nodup
 oo:∀o∈O,∃p' q',p'<q'/\q'<m/\Dn p q p' q'/\o=(nmO p',nmO q')
 pd:P.Nodup
 pp:∀x∈P,∃p' q',p'<q'/\q'<m/\Dn p q p' q'/\(x=(wd p' q',nmO p',nmO q')\/x=(wd p' q',nmO q',nmO p'))
 ol:O.length<=9*p+q
 pl:P.length<=2*(9*p+q)
def Dn.mono (h:Dn p q a b) (d:q<=c):Dn p c a b:=by unfold Dn at *;omega
def Lk1.skip (h:Lk1 d r m p q O P) (n:∀p' q',q'<m->Dn p q p' q'->Dn i e p' q') (l:9*p+q<=9*i+e):Lk1 d r m i e O P :=
 ⟨h.od,fun o j=>by obtain⟨a,b,k,c,g,f⟩:=h.oo o j;exact⟨a,b,k,c,n a b c g,f⟩,h.pd,fun o j=>by obtain⟨a,b,k,c,g,f⟩:=h.pp o j;exact⟨a,b,k,c,n a b c g,f⟩,Q_ h.ol l,Q_ h.pl (by omega)⟩
def Lk1.step (h:Lk1 c d m p q O P) (s:∀i j,i<m->j<m->c i=c j->i=j) (k:p<q) (D:q<m) (v t u:Bool):
  Lk1 c d m p (q+1) (bif v then O++[(c p,c q)] else O) (bif u then (bif t then P++[(d p q,c p,c q)] else P)++[(d p q,c q,c p)] else (bif t then P++[(d p q,c p,c q)] else P)):=by
 have y:Dn p (q+1) p q:=.inr ⟨rfl,Zg q⟩;have M:(c p,c q)∉O:=fun z=>by obtain⟨a,b,L,J,C,l⟩:=h.oo _ z;rw[ZQ] at l;have Q:=s _ _ (by omega) (by omega) l.1;have R:=s _ _ (by omega) (by omega) l.2;unfold Dn at C;omega
 have A:∀w,(w,c p,c q)∉P/\(w,c q,c p)∉P:=fun w=>by
  constructor;all_goals
   intro z
   obtain⟨a,b,L,J,C,l⟩:=h.pp _ z
   rw[ZQ,ZQ,ZQ,ZQ] at l
   unfold Dn at C
   rcases l with ⟨_,G,I⟩ | ⟨_,G,I⟩
   all_goals
    have Q:=s _ _ (by omega) (by omega) G
    have R:=s _ _ (by omega) (by omega) I
    omega
 have h':Lk1 c d m p (q+1) O P:=h.skip (fun _ _ _ z=>z.mono (Z6 q)) (by omega);have B:∀(P':List (Str × Str × Str)),(P'=P\/P'=P++[(d p q,c p,c q)])->P'.Nodup/\(∀x∈P',∃n g,n<g/\g<m/\Dn p (q+1) n g/\(x=(d n g,c n,c g)\/x=(d n g,c g,c n)))/\P'.length<=2*(9*p+q)+1/\(d p q,c q,c p)∉P':=by
  intro P' N;rcases N with rfl | rfl
  ·exact⟨h.pd,h'.pp,Nat.le_succ_of_le h.pl,(A _).2⟩
  refine⟨fJ h.pd (A _).1,fun x r=>?_,by rw[d_];simp;exact h.pl,fun z=>?_⟩
  ·rcases v_.mp r with r | r
   ·exact h'.pp x r
   exact⟨p,q,k,D,y,.inl (i_.mp r)⟩
  rcases v_.mp z with z | z
  ·exact (A _).2 z
  have:=i_.mp z;rw[ZQ,ZQ] at this;have e:=s _ _ (by omega) (by omega) this.2.1;omega
 obtain⟨E,F,S,K⟩:=B (bif t then P++[(d p q,c p,c q)] else P) (by cases t <;> simp);generalize (bif t then P++[(d p q,c p,c q)] else P)=H at *;refine⟨?_,?_,?_,?_,?_,?_⟩
 ·cases v
  ·exact h.od
  exact fJ h.od M
 ·cases v
  ·exact h'.oo
  intro o f;rcases v_.mp f with f | f
  ·exact h'.oo o f
  exact⟨p,q,k,D,y,i_.mp f⟩
 ·cases u
  ·exact E
  exact fJ E K
 ·cases u
  ·exact F
  intro o f;rcases v_.mp f with f | f
  ·exact F o f
  exact⟨p,q,k,D,y,.inr (i_.mp f)⟩
 ·cases v
  ·exact h'.ol
  show (O++[_]).length<=_;rw[d_];have:=h.ol;simp;omega
 cases u
 ·show H.length<=_;omega
 show (H++[_]).length<=_;rw[d_];simp;omega
def wK {R:TS3}{f g:Hp3} (j:p1) (k:e) (i:d) (h:∀(b:Bool) (H':Hp3),H'=(bif b then f else g)->R D a H'):if c=true then p1/\e/\d/\R D a f else R D a g:=by
 cases c
 ·rw[if_neg J_];exact h false _ rfl
 rw[if_pos rfl];exact⟨j,k,i,h true _ rfl⟩
def Gp {R:TS3} (f:p1) (h:∀(b:Bool) (H':Hp3),H'=(bif b then d else e)->R D a H'):if c=true then p1/\R D a d else R D a e:=by
 cases c
 ·rw[if_neg J_];exact h false _ rfl
 rw[if_pos rfl];exact⟨f,h true _ rfl⟩
structure LkH (H3 H:Hp3) (pk po pq:Addr) (us:List (Int × Int × Int)) (O:List (Str × Str)) (P:List (Str × Str × Str)):Prop where
 sb:Sub3 H3 H
 k:H pk=some (.lst (us.map trT))
 o:H po=some (.lst (O.map orT))
 p:H pq=some (.lst (P.map prT))
 no:H3 po=none
 np:H3 pq=none
 ko:pk≠po
 kp:pk≠pq
 op:po≠pq
def LkH.new {pk b pq x:Addr} (h:LkH H3 H pk b pq us O P) (a:H x=none):LkH H3 (up3 H x u) pk b pq us O P :=
 ⟨h.sb.trans (Sub3.new a),Sub3.new a _ _ h.k,Sub3.new a _ _ h.o,Sub3.new a _ _ h.p,h.no,h.np,h.ko,h.kp,h.op⟩
def LkH.putO {pk a pq:Addr} (h:LkH H3 H pk a pq us O P):LkH H3 (up3 H a (.lst (O'.map orT))) pk a pq us O' P :=
 ⟨fun b u c=>by rw[aF (bz c h.no)];exact h.sb b u c,by rw[aF h.ko];exact h.k,au,by rw[aF (Ne.symm h.op)];exact h.p,h.no,h.np,h.ko,h.kp,h.op⟩
def LkH.putP {pk c pq:Addr} (h:LkH H3 H pk c pq us O P):LkH H3 (up3 H pq (.lst (P'.map prT))) pk c pq us O P' :=
 ⟨fun b u a=>by rw[aF (bz a h.np)];exact h.sb b u a,by rw[aF h.kp];exact h.k,by rw[aF h.op];exact h.o,au,h.no,h.np,h.ko,h.kp,h.op⟩
def WF (m:Nat):List (Nat × Nat):=(List.range m).flatMap fun q=>(List.range q).map fun p=>(p,q)
def Gq:∀m:_root_.Fin 9,(WF m.val).length<=28:=by decide
def Sh {d:List Tk5}{c:Nat->Nat}{P P':List (Str × Str × Str)}{f:Nat->Str}{r:Nat->Nat->Str} (D:ns.length<=8) (A:∀p<ns.length,c p<ns.length) (v:∀p q,p<q->q<ns.length->c p≠c q/\(d.map (·.1)).getD (c p) 0<=(d.map (·.1)).getD (c q) 0) (j:∀p<ns.length,ns[c p]?=some (f p)) (C:∀p q,r p q=if (d.map (·.1)).getD (c p) 0=(d.map (·.1)).getD (c q) 0 then "with" else "apart") (h:Lk1 f r ns.length p q O P) (t:O'.Perm O) (u:P'.Perm P):Lnk ns (d.map (·.1)) O' (P'.take 12):=by
 refine⟨?_,t.nodup_iff.mpr h.od,fun o y=>?_,?_,(List.take_sublist 12 P').nodup (u.nodup_iff.mpr h.pd),fun x s=>?_⟩
 ·rw[t.length_eq];have:=qN (l:=O) (m:=(WF ns.length).map fun z=>(f z.1,f z.2)) h.od fun x s=>by obtain⟨a,b,k,i,_,rfl⟩:=h.oo x s;exact z_.mpr ⟨(a,b),List.mem_flatMap.mpr ⟨b,YF.mpr i,z_.mpr ⟨a,YF.mpr k,rfl⟩⟩,rfl⟩
  rw[e_] at this;have:=Gq ⟨ns.length,by omega⟩;dsimp only at this;omega
 ·obtain⟨a,b,k,i,_,rfl⟩:=h.oo o (t.mem_iff.mp y);obtain⟨n,w⟩:=v a b k i;exact⟨c a,c b,n,j a (by omega),j b i,w⟩
 ·rw[aaT];omega
 obtain⟨a,b,k,i,_,B⟩:=h.pp x (u.mem_iff.mp (List.mem_of_mem_take s));obtain⟨n,w⟩:=v a b k i;have g:=C a b;have key:(r a b="with"/\(d.map (·.1)).getD (c a) 0=(d.map (·.1)).getD (c b) 0)\/(r a b="apart"/\(d.map (·.1)).getD (c a) 0≠(d.map (·.1)).getD (c b) 0):=by
  by_cases e:(d.map (·.1)).getD (c a) 0=(d.map (·.1)).getD (c b) 0
  ·rw[if_pos e] at g;exact .inl ⟨g,e⟩
  rw[if_neg e] at g;exact .inr ⟨g,e⟩
 rcases B with rfl | rfl
 ·exact⟨c a,c b,n,j a (by omega),j b i,key⟩
 exact⟨c b,c a,Ne.symm n,j b i,j a (by omega),key.imp (fun z=>⟨z.1,z.2.symm⟩) fun z=>⟨z.1,Ne.symm z.2⟩⟩
def m9 {b c:Type}{f:b->T}{g:c->T}:∀(xs:List b) (a:List c),gF (xs.map f) (a.map g)=(xs.zip a).map fun z=>.tup [f z.1,g z.2]
 |[],_=>rfl
 |_::_,[]=>rfl
 |x::xs,y::a=>by rw[G_,G_,gF,m9 xs a];rfl
structure Fit (W:Wk) (sts:List Nat):Prop where
 l:sts.length=W.tasks.length
 lt:∀s∈sts,s<W.row.length
 kd:∀(i:Nat) (t:Str × Int × List Str),W.tasks[i]?=some t->t.2.2=[]\/W.row.getD (sts.getD i 0) ""∈t.2.2
 lk:Lnk (W.tasks.map (·.1)) sts W.orders W.pairs
def WK:Sp3:=fun ts H Q=>∃(a:Addr) (d:List Int) (b c:Int),ts=[.ref a,.int b,.int c]/\H a=some (.rol (d.map T.int))/\d.length<=63/\1<=b/\b<=8/\1<=c/\c<=8/\∀(W:Wk) (sts:List Nat),WkOk W->(W.tasks.length:Int)<=b->(W.row.length:Int)<=c->Fit W sts->∀p,H p=none->Q (.tup [W.enc,.ref p]) (up3 H p (.lst (sts.map fun (s:Nat)=>T.int (s:Int))))
structure TkO (row:List Str) (t:Tk5):Prop where
 s:t.1<row.length
 lo:1<=t.2.2.1
 hi:t.2.2.1<10^60
 ks:Nms t.2.2.2.1
 kl:t.2.2.2.1.length<=4
 kd:t.2.2.2.1=[]\/row.getD t.1 ""∈t.2.2.2.1
 nm:isNm t.2.2.2.2
def mkW (ns:List Str) (b:List Tk5) (O:List (Str × Str)) (P:List (Str × Str × Str)) (a:List Str):Wk:=⟨(ns.zip b).map fun z=>(z.1,z.2.2.2.1,z.2.2.2.2.1),O,P,a⟩
def Ss (B:Nms ns) (N:b.length=ns.length) (M:1<=ns.length) (L:ns.length<=8) (A:∀t∈b,TkO a t) (v:1<=a.length) (w:a.length<=8) (D:∀x∈a,isNm x) (f:Lnk ns (b.map (·.1)) O P):
  WkOk (mkW ns b O P a)/\Fit (mkW ns b O P a) (b.map (·.1))/\(mkW ns b O P a).tasks.length=ns.length:=by
 have k:(mkW ns b O P a).tasks.map (·.1)=ns:=by show ((ns.zip b).map fun z=>(z.1,z.2.2.2.1,z.2.2.2.2.1)).map (·.1)=ns;rw[YC];show (ns.zip b).map (fun z=>z.1)=ns;exact List.map_fst_zip (by omega)
 have m:(mkW ns b O P a).tasks.length=ns.length:=by
  have:=W_ List.length k
  rwa [e_] at this
 have F:∀(i:Nat) (t:Str × Int × List Str),(mkW ns b O P a).tasks[i]?=some t->∃u,b[i]?=some u/\ns[i]?=some t.1/\t.2=(u.2.2.1,u.2.2.2.1):=fun i t e=>by have n:((ns.zip b).map fun z=>(z.1,z.2.2.2.1,z.2.2.2.2.1))[i]?=some t:=e;rw[y_,Option.map_eq_some_iff] at n;obtain⟨z,C,rfl⟩:=n;have:=List.getElem?_zip_eq_some.mp C;exact⟨z.2,this.2,this.1,rfl⟩
 have G:∀{i j:Nat} {x y:Str},i≠j->ns[i]?=some x->ns[j]?=some y->x≠y:=fun {i j x y} h c d z=>by
  rw[z,<- d] at c;have E:i<ns.length:=by
   rcases aaU i ns.length with q | q
   ·exact q
   rw[P_ q,d] at c;cases c
  exact h ((List.getElem?_inj E B.nd).mp c)
 refine⟨⟨by rw[m];exact M,by rw[m];exact L,fun t K=>?_,by rw[k];exact B.nd,f.ol,f.od,fun o I=>?_,f.pl,f.pd,fun p Q=>?_,v,w,D⟩,⟨by rw[e_,m,N],fun s h=>?_,fun i t e=>?_,by rw[k];exact f⟩,m⟩
 ·obtain⟨i,E⟩:=Z8 K;obtain⟨u,g,c,e⟩:=F i t E;have l:=A u (X_ g);have H:t.2.1=u.2.2.1:=by rw[e]
  have r:t.2.2=u.2.2.2.1:=by rw[e]
  exact⟨B.nm _ (X_ c),by rw[H];exact l.lo,by rw[H];exact l.hi,by rw[r];exact l.ks,by rw[r];exact l.kl⟩
 ·obtain⟨i,j,h,c,d,_⟩:=f.oo o I;rw[k];exact⟨G h c d,X_ c,X_ d⟩
 ·obtain⟨i,j,h,c,d,C⟩:=f.pp p Q;rw[k];exact⟨C.imp (fun z=>z.1) fun z=>z.1,G h c d,X_ c,X_ d⟩
 ·obtain⟨u,g,rfl⟩:=z_.mp h;exact (A u g).s
 obtain⟨u,g,_,n⟩:=F i t e;have r:t.2.2=u.2.2.2.1:=by rw[n]
 have J:(b.map (·.1)).getD i 0=u.1:=by rw[h_,y_,g];rfl
 rw[r,J];exact (A u (X_ g)).kd
def ldZ (L:List Int) (z:(Str × Int × List Str) × Nat):List Int:=L.set z.2 (L.getD z.2 0+z.1.2.1)
def ldS (W:Wk) (sts:List Nat):List Int:=(W.tasks.zip sts).foldl ldZ (List.replicate W.row.length 0)
def yJ (L:List Int):∀a:List ((Str × Int × List Str) × Nat),(a.foldl ldZ L).length=L.length:=fun a=>by
 induction a generalizing L with
 |nil=>rfl
 |cons z r b=>rw[aa0,b];unfold ldZ;rw[aaZ]
def yK (W:Wk) (sts:List Nat):(ldS W sts).length=W.row.length:=by unfold ldS;rw[yJ,YX]
def Su:Sp3:=fun ts H Q=>∃(W:Wk) (q:Addr) (sts:List Nat),ts=[W.enc,.ref q]/\WkOk W/\H q=some (.lst (sts.map fun (s:Nat)=>T.int (s:Int)))/\sts.length=W.tasks.length/\(∀s∈sts,s<W.row.length)/\∀p,H p=none->Q (.ref p) (up3 H p (.lst ((ldS W sts).map T.int)))
def yL:∀(L:List Int) (i:Nat) (v:Int),i<L.length->(L.set i (L.getD i 0+v)).sum=L.sum+v
 |[],_,_,h=>absurd h (by simp)
 |x::r,0,v,_=>by simp [List.set,Z5];omega
 |x::r,i+1,v,h=>by
  have:=yL r i v (by simpa using h)
  simp only[List.set_cons_succ,Z5,List.getD_cons_succ,this]
  omega
def yM:∀(a:List ((Str × Int × List Str) × Nat)) (L:List Int),(∀z∈a,z.2<L.length)->(a.foldl ldZ L).sum=L.sum+(a.map (·.1.2.1)).sum
 |[],L,_=>by simp
 |z::r,L,h=>by
  rw[aa0,yM r (ldZ L z) fun y b=>by unfold ldZ;rw[aaZ];exact h y (q_ _ b)]
  unfold ldZ
  rw[yL L z.2 z.1.2.1 (h z k_),G_,Z5]
  omega
def Gr:∀(b:List ((Str × Int × List Str) × Nat)) (L:List Int),(∀z∈b,0<=z.1.2.1)->(∀x∈L,0<=x)->∀x∈b.foldl ldZ L,0<=x
 |[],L,_,hL=>hL
 |z::r,L,h,hL=>by
  rw[aa0]
  refine Gr r _ (fun y c=>h y (q_ _ c)) fun x a=>?_
  unfold ldZ at a
  rcases List.mem_or_eq_of_mem_set a with q | q
  ·
   exact hL x q
  ·
   rw[q]
   have d:=h z k_
   have f:0<=L.getD z.2 0:=by
    rw[h_]
    cases e:L[z.2]? with
    |none=>exact Int.le_refl 0
    |some y=>exact hL y (X_ e)
   omega
def Gs (n:Nat):(List.replicate n (0:Int)).sum=0:=by induction n with
 |zero=>rfl
 |succ n a=>rw[Y8,Z5,a];rfl
def Sv (c:WkOk W):∀x∈ldS W sts,0<=x:=Gr _ _ (fun z a=>by have:=(c.tk z.1 (aaI a).1).lo;omega) fun x b=>by rw[(List.mem_replicate.mp b).2];exact Int.le_refl 0
def Ks (c:sts.length=W.tasks.length) (h:∀s∈sts,s<W.row.length):(ldS W sts).sum=(W.tasks.map (·.2.1)).sum:=by
 unfold ldS;rw[yM _ _ fun z b=>by rw[YX];exact h _ (aaI b).2,Gs];have e:(W.tasks.zip sts).map (·.1.2.1)=W.tasks.map (·.2.1):=by have:=List.map_fst_zip (l₁:=W.tasks) (l₂:=sts) (by omega);have a:=W_ (List.map (·.2.1)) this;rw[YC] at a;exact a
 rw[e];omega
def Ku (d:WkOk W):1<=(W.tasks.map (·.2.1)).sum:=by
 have c:=d.t1;have b:=d.tk;cases e:W.tasks with
 |nil=>rw[e] at c;exact absurd c (by decide)
 |cons t r =>
 rw[e] at b;rw[G_,Z5];have i:=(b t k_).lo;have g:∀l:List (Str × Int × List Str),(∀u∈l,tkOk u)->0<=(l.map (·.2.1)).sum:=fun l=>by
  induction l with
  |nil=>intro _;exact Int.le_refl _
  |cons u l h =>
  intro a;rw[G_,Z5];have:=h fun v f=>a v (q_ _ f);have:=(a u k_).lo;omega
 have:=g r fun u a=>b u (q_ _ a);omega
def WL:Sp3:=fun ts H Q=>∃(c:Int) (W:Wk) (q:Addr) (sts:List Nat),ts=[.int c,W.enc,.ref q]/\WkOk W/\H q=some (.lst (sts.map fun (s:Nat)=>T.int (s:Int)))/\sts.length=W.tasks.length/\(∀s∈sts,s<W.row.length)/\∀n:Int,0<=n->Q (.int n) H
def WM:Sp3:=fun ts H Q=>∃(a:Addr) (e:List Int) (b d:Int),ts=[.ref a,.int b,.int d]/\H a=some (.rol (e.map T.int))/\e.length<=63/\1<=b/\b<=8/\1<=d/\d<=8/\∀(W:Wk) (sts:List Nat) (beat c:Int),WkOk W->(W.tasks.length:Int)<=b->(W.row.length:Int)<=d->Fit W sts->0<=beat->∀p,H p=none->Q (.tup [W.enc,.ref p,.int beat,.int c]) (up3 H p (.lst (sts.map fun (s:Nat)=>T.int (s:Int))))
def fS:List Str->List Nat->Str->Nat
 |x::r,s::q,n=>if x=n then s else fS r q n
 |_,_,_=>0
def Gu:∀{ns:List Str}{sts:List Nat}{i:Nat}{n:Str},ns.Nodup->sts.length=ns.length->ns[i]?=some n->fS ns sts n=sts.getD i 0
 |[],_,_,_,_,_,e=>by simp at e
 |x::r,[],_,_,_,hl,_=>by cases hl
 |x::r,s::q,0,n,_,_,e=>by
  rw[ZL,Option.some.injEq] at e
  unfold fS
  rw[if_pos e]
  rfl
 |x::r,s::q,i+1,n,h,hl,e=>by
  rw[ZJ] at e
  rw[Y9] at h
  unfold fS
  rw[if_neg fun z=>h.1 (by rw[z];exact X_ e),Gu h.2 (Nat.succ.inj hl) e]
  simp
def M8 (a:0<m):∀{ns:List Str}{sts:List Nat},(∀s∈sts,s<m)->fS ns sts n<m
 |[],_,_=>a
 |_::_,[],_=>a
 |x::r,s::q,h=>by
  unfold fS
  split
  ·
   exact h s k_
  ·
   exact M8 a fun y b=>h y (q_ _ b)
def Gv {f:Str->Nat}:∀(a:List ((Str × Int × List Str) × Nat)) (B:List (Str × Int × List Str)),(∀z∈a,f z.1.1=z.2/\z.2<n)->a.foldl ldZ ((List.range n).map (ldF B f))=(List.range n).map (ldF (B++a.map (·.1)) f)
 |[],B,_=>by rw[ZF,S_];rfl
 |z::r,B,h=>by
  obtain⟨e,c⟩:=h z k_
  have q:ldZ ((List.range n).map (ldF B f)) z=(List.range n).map (ldF (B++[z.1]) f):=by
   have g:((List.range n).map (ldF B f)).getD (f z.1.1) 0=ldF B f (f z.1.1):=by
    rw[h_,y_,YK (by omega)]
    rfl
   unfold ldZ
   rw[<- e,g]
   exact yG (by omega)
  rw[aa0,q,Gv r _ fun y b=>h y (q_ _ b),YW]
  rfl
def Kv (f:WkOk W) (F:Fit W sts):ldS W sts=lds W (fS (nm W) sts) W.row.length:=by
 have e:List.replicate W.row.length (0:Int)=(List.range W.row.length).map (ldF [] (fS (nm W) sts)):=by
  apply aar;intro i;by_cases a:i<W.row.length
  ·rw[Z_,if_pos a,y_,YK a];rfl
  rw[P_ (by rw[YX];omega),P_ (by rw[e_,D_];omega)]
 unfold ldS;rw[e,Gv _ _ fun z c=>?_]
 ·unfold lds;rw[aaJ,List.map_fst_zip (by rw[F.l];exact l_ _)]
 obtain⟨i,a⟩:=Z8 c;obtain⟨d,b⟩:=List.getElem?_zip_eq_some.mp a;refine⟨?_,F.lt _ (X_ b)⟩;rw[Gu (ns:=nm W) (i:=i) f.nd (by rw[dX];exact F.l) (by unfold nm;rw[y_,d];rfl),h_,b];rfl
def Fit.hol (r:WkOk W) (F:Fit W sts):Hol W (fS (nm W) sts):=by
 have a:∀{i:Nat} {n:Str},(nm W)[i]?=some n->fS (nm W) sts n=sts.getD i 0:=fun e=>Gu r.nd (by rw[dX];exact F.l) e;refine⟨fun o k=>?_,fun p q=>?_,fun t m=>?_⟩
 ·obtain⟨i,j,_,d,f,h⟩:=F.lk.oo o k;rw[a d,a f];exact h
 ·obtain⟨i,j,_,d,f,h⟩:=F.lk.pp p q;rw[a d,a f];rcases h with ⟨b,c⟩ | ⟨b,c⟩
  ·exact⟨fun _=>b,fun _=>c⟩
  exact⟨fun z=>absurd z c,fun z=>by rw[b] at z;exact absurd z (by decide)⟩
 obtain⟨i,g⟩:=Z8 m;rw[a (i:=i) (by unfold nm;rw[y_,g];rfl)];unfold lB;rcases F.kd i t g with h | h
 ·rw[h];rfl
 rw[L_ h,Bool.or_true]
def Fit.way (a:WkOk W) (F:Fit W sts) (c:∀l∈ldS W sts,l<=beat):∃v,du (top2 W - 1) (wys W beat W.row.length)=some v:=by
 have b:∀n,fS (nm W) sts n<W.row.length:=fun n=>M8 a.r1 F.lt;have d:Dok W (dealt (nm W) (fS (nm W) sts) W.row.length):=iR a (List.Perm.refl _) (l_ _) b;refine aat.mp ((yH a (l_ _)).mpr ⟨_,Frw.ofD a d (uC a (l_ _) b (F.hol a) (by rw[<- Kv a F];exact c)),by rw[e_,j0]⟩)
def j7 (a:WkOk W) (c:m<=W.row.length) (h:du (top2 W - 1) (wys W beat m)=some v):Dok W (v.map (pk W))/\Rgt W beat (v.map (pk W)) (fD (v.map (pk W)))/\(v.map (pk W)).length=m/\∀s∈v.map (pk W),(nm W).filter (fun n=>decide (n∈s))=s:=by
 obtain⟨r,e⟩:=(wtb a c).ok _ (f9 h);obtain⟨b,F⟩:=r.dok a;refine⟨b,(mY a b).mpr F,by rw[e_];exact e,fun s d=>?_⟩;obtain⟨i,f,rfl⟩:=z_.mp d;rw[<- M5 a,eN a ((r.ok a).2.2.2.2 i f)]
def Can (W:Wk) (m:Nat) (b:Int):Prop:=∃f:Str->Nat,(∀n,f n<m)/\Hol W f/\∀l∈lds W f m,l<=b
def Kz (d:WkOk W) (a:Dok W D) (R:Rgt W beat D (fD D)):Can W D.length beat:=by
 obtain⟨t,b⟩:∃t,t∈W.tasks:=List.exists_mem_of_length_pos (by have:=d.t1;omega);have e:0<D.length:=by have:=a.lt (n:=t.1) (z_.mpr ⟨t,b,rfl⟩);omega
 refine⟨fun n=>if n∈nm W then fD D n else 0,fun n=>?_,?_,?_⟩
 ·show (if n∈nm W then fD D n else 0)<D.length;split
  ·exact a.lt (by assumption)
  exact e
 ·exact Hol.congr (f:=fD D) d ⟨R.ord,R.pai,fun t b=>R.kd a b⟩ fun n c=>by rw[if_pos c]
 rw[Af (g:=fD D) (fun n c=>by rw[if_pos c]) D.length];exact R.lds a
def lU (a:WkOk W) (b:m<=W.row.length):(∃v,du (top2 W - 1) (wys W beat m)=some v)↔Can W m beat:=by
 constructor
 ·rintro⟨v,e⟩;obtain⟨c,R,g,_⟩:=j7 a b e;rw[<- g];exact Kz a c R
 rintro⟨f,d,h,i⟩;have c:Dok W (dealt (nm W) f m):=iR a (List.Perm.refl _) b d;exact aat.mp ((yH a b).mpr ⟨_,Frw.ofD a c (uC a b d h i),by rw[e_,j0]⟩)
def Can.grp (c:WkOk W) (d:m<=W.row.length) (h:Can W m b) (a:t∈nm W):aX W.tasks (bu W t)<=b:=by
 obtain⟨v,g⟩:=(lU c d).mpr h;obtain⟨f,R,_,_⟩:=j7 c d g;obtain⟨k,s,e,j⟩:=iQ (f.al t a);obtain⟨u,i,rfl⟩:=z_.mp a;refine Int.le_trans (m7 (fun t a=>by have:=(c.tk t a).lo;omega) (((mY c f).mp R k s e).one u i j).2.2.1) (R.bea s (X_ e))
def wyT (v:List Nat):T:=.tup (v.map bL)
def wyE (e:Nat × List Nat):T:=.tup [.int (e.1:Int),wyT e.2]
def WN (E:Wy):(dI wyT E).map itT=E.map wyE:=by unfold dI;rw[YC];rfl
def wbF (W:Wk) (beat:Int) (k:Nat) (B:Wy) (e:Nat × List Nat):Wy:=(gfl W beat k e.1).foldl (iW e.1 e.2) B
def WP:Sp3:=fun ts H Q=>∃(a:Addr) (fs:List Nat),ts=[.ref a]/\H a=some (.lst (fs.map bL))/\fs.length<=256/\∀p,H p=none->Q (.ref p) (up3 H p (.lst ((gre bT fs).reverse.map bL)))
def qX (a:b->b->Bool):∀xs:List b,(gre a xs).length<=xs.length
 |[]=>l_ _
 |n::B=>by
  have:=qX a B
  unfold gre
  split
  ·
   rw[j_];omega
  ·
   rw[d_,j_];simp only[j_,Y0];omega
def WQ (C:Addr):Sp3:=fun ts H Q=>∃(a:Addr) (W:Wk) (beat:Int) (k d:Nat),ts=[.ref a,.int (k:Int),.int (d:Int)]/\WkOk W/\Wlk C W beat H a/\k<W.row.length/\d<top2 W/\∀p,H p=none->Q (.ref p) (up3 H p (.lst ((gfl W beat k d).map bL)))
def WR (C:Addr):Sp3:=fun ts H Q=>∃(a q:Addr) (W:Wk) (beat:Int) (k n:Nat) (E:Wy),ts=[.ref a,.int (k:Int),.ref q]/\WkOk W/\Wlk C W beat H a/\k<W.row.length/\n<=8/\WOk W n E/\H q=some (.dci (dI wyT E))/\∀o p,H p=none->Q (.ref p) (up3 (up3 H q (.dif o (dI wyT E))) p (.dci (dI wyT (wbh W beat k E))))
def dtT (W:Wk) (beat:Int) (m:Nat):T:=match du (top2 W - 1) (wys W beat m) with
 |none=>.non
 |some v=>.tup ((v.map (pk W)).map sT)
def WT:Sp3:=fun ts H Q=>∃(W:Wk) (beat:Int) (m:Nat),ts=[W.enc,.int beat,.int (m:Int)]/\WkOk W/\m<=W.row.length/\Q (dtT W beat m) H
def dV (g:Str->T) (ns:List Str):List (Str × T):=ns.map fun n=>(n,g n)
def qY:∀{ns:List Str},n∈ns->aP n (dV g ns)=some (g n)
 |x::r,h=>by
  unfold dV
  rw[G_]
  unfold aP
  by_cases e:x=n
  ·
   rw[if_pos e,e]
  ·
   rw[if_neg e]
   exact qY (ns:=r) ((u_.mp h).resolve_left (Ne.symm e))
def Gw (h:n∉ns) (e:∀m∈ns,g m=g' m):put3 n (g' n) (dV g ns)=dV g' (ns++[n]):=by
 unfold put3 dV;rw[if_neg (by
  intro e
  rw[Zy] at e
  obtain⟨x,c,e⟩:=e
  obtain⟨y,b,rfl⟩:=z_.mp c
  exact h (Za e▸b)),x_]
 congr 1;exact Zj fun m a=>by rw[e m a]
def dG (g:Str->Addr) (ns:List Str):List (Str × T):=dV (fun n=>T.ref (g n)) ns
def gK (h:n∈ns):aP n (dG g ns)=some (T.ref (g n)):=qY h
def atN {b:Type}(n:Str) (a:b) (g:Str->b):Str->b:=fun m=>if m=n then a else g m
def eO {a:b}{g:Str->b} (h:m≠n):atN n a g m=g m:=if_neg h
def d9 {a:b}{g:Str->b}:atN n a g n=a:=if_pos rfl
def Sw (h:n∉ns):put3 n (T.ref p) (dG g ns)=dG (atN n p g) (ns++[n]):=by
 have:=Gw (g:=fun n=>T.ref (g n)) (g':=fun m=>T.ref (atN n p g m)) h fun m a=>by rw[show atN n p g m=g m from eO fun z=>h (z▸a)]
 rw[d9] at this;exact this
structure Ldg (H0 H:Hp3) (pd:Addr) (A:List Str) (ad:Str->Addr) (L:Str->List Str):Prop where
 sb:Sub3 H0 H
 dc:H pd=some (.dct (dG ad A))
 at_:∀n∈A,H (ad n)=some (.lst ((L n).map T.str))
 ij:∀a∈A,∀b∈A,ad a=ad b->a=b
 nw:∀n∈A,H0 (ad n)=none
 nd:H0 pd=none
def jn (s:Sub3 a H) (h:a p=none):Sub3 a (up3 H p o):=fun b u e=>by rw[aF (bz e h)];exact s b u e
section
variable {ad:Str->Addr}{K:List Str}
def Ldg.more (g:Ldg H0 H pd A ad L) (s:Sub3 H H'):Ldg H0 H' pd A ad L:=⟨g.sb.trans s,s _ _ g.dc,fun n a=>s _ _ (g.at_ n a),g.ij,g.nw,g.nd⟩
def Ldg.put (g:Ldg H0 H pd A ad L) (l:n∉A) (k:H p=some (.lst (K.map T.str))) (q:∀m∈A,ad m≠p) (r:H0 p=none):Ldg H0 (up3 H pd (.dct (put3 n (T.ref p) (dG ad A)))) pd (A++[n]) (atN n p ad) (atN n K L):=by
 have j:∀{b o},H b=some (.lst o)->b≠pd:=fun h=>ne3 h g.dc (by simp);have i:∀m∈A,m≠n:=fun m c z=>l (z▸c);refine⟨jn g.sb g.nd,by rw[au,Sw l],fun m c=>?_,fun a d b f e=>?_,fun m c=>?_,g.nd⟩
 ·rcases v_.mp c with c | c
  ·rw[eO (i m c),eO (i m c),aF (j (g.at_ m c))];exact g.at_ m c
  rw[i_.mp c,d9,d9,aF (j k)];exact k
 ·rcases v_.mp d with d | d <;> rcases v_.mp f with f | f
  ·rw[eO (i a d),eO (i b f)] at e;exact g.ij a d b f e
  ·rw[i_.mp f,eO (i a d),d9] at e;exact absurd e (q a d)
  ·rw[i_.mp d,eO (i b f),d9] at e;exact absurd e.symm (q b f)
  rw[i_.mp d,i_.mp f]
 rcases v_.mp c with c | c
 ·rw[eO (i m c)];exact g.nw m c
 rw[i_.mp c,d9];exact r
def Ldg.app (g:Ldg H0 H pd A ad L) (a:n∈A) (x:Str):Ldg H0 (up3 H (ad n) (.lst ((L n).map T.str++[T.str x]))) pd A ad (atN n (L n++[x]) L):=by
 refine⟨jn g.sb (g.nw n a),by rw[aF (Ne.symm (ne3 (g.at_ n a) g.dc (by simp)))];exact g.dc,fun m b=>?_,g.ij,g.nw,g.nd⟩;by_cases e:m=n
 ·rw[e,d9,au,x_];rfl
 rw[eO e,aF fun z=>e (g.ij m b n a z)];exact g.at_ m b
end
def Ld1 (W:Wk) (a b:Str):Prop:=∃y,lkR ["with"] W a y/\RT (lkR ["with"] W) y b
def Gx (h:a≠b):Ld1 W a b↔RT (lkR ["with"] W) a b:=by
 constructor
 ·rintro⟨y,f,d⟩;exact (RT.step .refl f).trans d
 intro z;induction z with
 |refl=>exact absurd rfl h
 |@step b c f d j =>
 by_cases e:a=b
 ·subst e;exact⟨c,d,.refl⟩
 obtain⟨y,i,g⟩:=j e;exact⟨y,i,g.step d⟩
def KD {K:Str->List Str} (a:∀n∈nm W,∀x,x∈K n↔Ld1 W n x) (b:t∈nm W):(nm W).filter (fun x=>decide (x=t)||(decide (x∈K t)&&decide (t∈K x)))=bu W t:=by
 refine Zb fun x c=>?_;rw[YH,Bool.or_eq_true,YD,m_,m_,m_,@m_ _ (Classical.propDecidable _),a t b,a x c];by_cases e:x=t
 ·subst e;exact⟨fun _=>⟨.refl,.refl⟩,fun _=>.inl rfl⟩
 rw[Gx e,Gx (Ne.symm e)];exact⟨fun h=>h.resolve_left e,.inr⟩
def yN (c:WkOk W) (h:lkR ["with"] W a b):a∈nm W/\b∈nm W:=by
 rcases um h with h | ⟨p,d,_,e | e⟩
 ·exact (c.oo _ h).2
 ·have:=(c.pp p d).2.2;rw[e] at this;exact this
 have:=(c.pp p d).2.2;rw[e] at this;exact⟨this.2,this.1⟩
structure Gth (W:Wk) (t:Str) (ws ks:List Str):Prop where
 fr:∀x,x∈ws\/x∈ks->Ld1 W t x
 st:∀x,lkR ["with"] W t x->x∈ws\/x∈ks
 cl:∀a b,a∈ks->lkR ["with"] W a b->b∈ws\/b∈ks
 nd:ks.Nodup
def Gth.fin (g:Gth W t [] a) (x:Str):x∈a↔Ld1 W t x:=by
 refine⟨fun h=>g.fr x (.inr h),fun ⟨y,d,e⟩=>?_⟩;have key:∀z,z∈([]:List Str)\/z∈a->z∈a:=fun z h=>h.resolve_left (by simp);have f:∀{u v},RT (lkR ["with"] W) u v->u∈a->v∈a:=fun r b=>by
  induction r with
  |refl=>exact b
  |step _ h c=>exact key _ (g.cl _ _ c h)
 exact f e (key y (g.st y d))
def Gth.old (g:Gth W t (ws++[x]) c) (d:x∈c):Gth W t ws c:=by
 have key:∀z,z∈ws++[x]\/z∈c->z∈ws\/z∈c:=fun z h=>by
  rcases h with h | h
  ·rcases v_.mp h with h | h
   ·exact .inl h
   rw[i_.mp h];exact .inr d
  exact .inr h
 exact⟨fun z h=>g.fr z (h.imp_left fun q=>T_ _ q),fun z h=>key z (g.st z h),fun a b h r=>key b (g.cl a b h r),g.nd⟩
def Gth.new (g:Gth W t (ws++[x]) c) (f:x∉c) (e:∀y,y∈L↔lkR ["with"] W x y):Gth W t (ws++L) (c++[x]):=by
 have d:=g.fr x (.inl (by simp));have key:∀z,z∈ws++[x]\/z∈c->z∈ws++L\/z∈c++[x]:=fun z h=>by
  rcases h with h | h
  ·rcases v_.mp h with h | h
   ·exact .inl (T_ _ h)
   exact .inr (U_ _ h)
  exact .inr (T_ _ h)
 refine⟨fun z h=>?_,fun z h=>key z (g.st z h),fun a b h r=>?_,fJ g.nd f⟩
 ·rcases h with h | h <;> rcases v_.mp h with h | h
  ·exact g.fr z (.inl (T_ _ h))
  ·obtain⟨y,i,j⟩:=d;exact⟨y,i,j.step ((e z).mp h)⟩
  ·exact g.fr z (.inr h)
  rw[i_.mp h];exact d
 rcases v_.mp h with h | h
 ·exact key b (g.cl a b h r)
 rw[i_.mp h] at r;exact .inl (U_ _ ((e b).mpr r))
def WW:q∈lkP ["with"] ("with",a,b)↔q=(a,b)\/q=(b,a):=by
 unfold lkP;rw[if_pos (by simp),u_,i_]
def WX:Sp3:=fun ts H Q=>∃(W:Wk),ts=[W.enc]/\WkOk W/\∀(H':Hp3) (a:Addr) (b:Str->Addr) (K:Str->List Str),Sub3 H H'->H' a=some (.dct (dG b (nm W)))->(∀n∈nm W,H' (b n)=some (.lst ((K n).map T.str)))->(∀n∈nm W,∀x,x∈K n↔Ld1 W n x)->Q (.ref a) H'
def WY:Sp3:=fun ts H Q=>∃(W:Wk),ts=[W.enc]/\WkOk W/\∀(H':Hp3) (p:Addr),Sub3 H H'->H' p=some (.lst ((cP W).map sT))->Q (.ref p) H'
def lng (W:Wk) (b:Int):Option (List Str):=(cP W).find? fun g=>decide (b<aX W.tasks g)
def fsT (W:Wk) (g:List Str):List (Str × T):=[("tasks",sT g),("length",.int (aX W.tasks g))]
def ni (h:∀g∈cP W,¬b<aX W.tasks g):lng W b=none:=List.find?_eq_none.mpr fun g a z=>h g a (Za z)
def Gy (e:cP W=A++g::B) (h:∀x∈A,¬b<aX W.tasks x) (a:b<aX W.tasks g):lng W b=some g:=by
 unfold lng;rw[e,List.find?_append,List.find?_eq_none.mpr fun x c z=>h x c (Za z),Option.none_or,aac,L_ a]
def W0 (C:Addr):qI:=fun ts H Q E=>∃(W:Wk) (beat:Int),ts=[W.enc,.int beat]/\WkOk W/\(lng W beat=none->Q .non H)/\∀g,lng W beat=some g->E C (fsT W g) H
def W3 (a b:Addr):qI:=fun ts H Q E=>∃(W:Wk) (beat:Int),ts=[W.enc,.int beat]/\WkOk W/\(∀g,lng W beat=some g->E a (fsT W g) H)/\(∀n:Nat,lng W beat=none->n<=W.row.length->Can W n beat->(∀j,j<n->¬Can W j beat)->Q (.tup [.int (n:Int),dtT W beat n]) H)/\(lng W beat=none->(∀j,j<=W.row.length->¬Can W j beat)->E b [] H)
def yO (a:WkOk W):(cP W).length<=8:=by
 unfold cP;rw[e_];exact Q_ (Yy _ _) (by rw[e_];exact a.t8)
def Sx:Sp3:=fun ts H Q=>∃i:Int,ts=[.int i]/\Q (.bl true) H
def W4:Sp3:=fun ts H Q=>∃(W:Wk) (beat:Int) (n:Nat),ts=[W.enc,.int beat,.int (W.row.length:Int),.tup [.int (n:Int),dtT W beat n]]/\WkOk W/\n<=W.row.length/\Can W n beat/\Q (.bl true) H
def W5:Sp3:=fun ts H Q=>∃(W:Wk) (beat:Int),ts=[W.enc,.int beat]/\WkOk W/\(∀g,lng W beat=some g->Q (.tup [.str "long",.tup [sT g,.int (aX W.tasks g)]]) H)/\(∀n:Nat,lng W beat=none->n<=W.row.length->Can W n beat->(∀j,j<n->¬Can W j beat)->Q (.tup [.str "told",.tup [.int (n:Int),dtT W beat n]]) H)/\(lng W beat=none->(∀j,j<=W.row.length->¬Can W j beat)->Q (.tup [.str "none",.non]) H)
section
variable {P:Program}{w:World}{K:Frag}
def yP:Sp3:=fun ts H Q=>∃(a:Addr) (ns:List Int),ts=[.ref a]/\H a=some (.rol (ns.map T.int))/\ns.length<=63/\∀H',Q (.bl true) H'
def lnW (W:Wk) (n:Str):Int:=match W.tasks.find? fun t=>decide (t.1=n) with
 |some t=>t.2.1
 |none=>0
def M9:∀{ts:List (Str × Int × List Str)},(ts.map (·.1)).Nodup->t∈ts->ts.find? (fun u=>decide (u.1=t.1))=some t
 |u::r,hn,h=>by
  rw[G_,Y9] at hn
  rw[aac]
  rcases u_.mp h with rfl | h
  ·
   rw[L_ rfl]
  ·
   rw[H_ fun (z:u.1=t.1)=>hn.1 (z▸z_.mpr ⟨t,h,rfl⟩)]
   exact M9 hn.2 h
def Gz (a:WkOk W) (h:t∈W.tasks):lnW W t.1=t.2.1:=by
 unfold lnW;rw[M9 a.nd h]
def GC {f:Str->Int}:∀{ts:List (Str × Int × List Str)},(∀t∈ts,f t.1=t.2.1)->(((ts.map (·.1)).filter p).map f).sum=((ts.filter fun t=>p t.1).map (·.2.1)).sum
 |[],_=>rfl
 |t::r,h=>by
  have a:=GC (p:=p) fun u b=>h u (q_ _ b)
  rw[G_,ZM,ZM]
  cases p t.1 with
  |false=>exact a
  |true =>
   simp only[if_true,G_,Z5]
   rw[a,h t k_]
def Ag (c:WkOk W):(((W.tasks.map (·.1)).filter p).map (lnW W)).sum=aX W.tasks ((W.tasks.map (·.1)).filter p):=by
 rw[GC fun t a=>Gz c a];unfold aX;congr 2;refine Zb fun u b=>?_;rw[YH,m_,B_];exact⟨fun z=>⟨z_.mpr ⟨u,b,rfl⟩,z⟩,fun z=>z.2⟩
def KH (a:WkOk W) (h:g∈cP W):(g.map (lnW W)).sum=aX W.tasks g:=by
 obtain⟨t,_,rfl⟩:=gps_mem.mp h;exact Ag a
def gpT (W:Wk) (g:List Str):T:=.tup [sT g,.int (aX W.tasks g)]
def W6 (g:List Str) (i:Int):([sT g,T.int i]:List T).all (pl 20)=true:=by
 rw[List.all_cons,List.all_cons];show (((g.map T.str).all (pl 19))&&(true&&true))=true;rw[show (g.map T.str).all (pl 19)=true from by rw[Zx];intro t a;obtain⟨x,_,rfl⟩:=z_.mp a;rfl];rfl
abbrev uD:List Str:=["_law_script","_law_works_here","_law_stands","_law_beat_here","_law_cell_here","_law_lengths","_law_name","_law_length","_law_kinds","_law_sums","_law_low","_law_due","_law_word_here","_law_told_here","_law_great","_law_many","_law_most"]
def sc_law:FnScope uD ["_law_script"] (aC (top 62)):=bf
def Sy {f:Addr} (g:G3 K mg "law" (top 62) ["_law_script"] f fd) (B:Bl mg) (U:Cal P w K mg base 4 "_law_drawn" (top 54) ["_law_script","_law_most","_law_wide"] WM) (I:Cal P w K mg base 2 "_law_groups" (top 59) ["_law_works_here"] WY) (u:Cal P w K mg base 9 "_law_told" (top 60) ["_law_works_here","_law_beat_here"] W5) (S:Cal P w K mg base 1 "_law_whole" (top 55) ["_law_found"] Sx) (d:Cal P w K mg base 3 "_law_is_pair" (top 61) ["_law_works_here","_law_beat_here","_law_most","_law_found"] W4) (R:Cal P w K mg base 1 "_law_loads" (top 52) ["_law_works_here","_law_stands"] Su):kI P w K mg base 10 f fd ["_law_script"] yP:=by
 refine fn3 g.fn sc_law (fun ts H Q h=>?_) (fun cdv A outer s H E ts H3 Q X h=>?_)
 ·obtain⟨a,ns,rfl,_⟩:=h;rfl
 have q:=Room.u30 X;have hu1:=Room.u1 X;obtain⟨a,ns,rfl,ha,h63,k⟩:=h;refine⟨_,(ak (gZ (aU U X rfl (aa (v3 0) (aa aq (aa aq ao)))) (cg (n:=4) rfl (aJ (aD (i:=1) sc_law.nd) (aJ (aD (i:=2) sc_law.nd) (aJ (aD (i:=3) sc_law.nd) (aJ (aD (i:=4) sc_law.nd) bH))))))
   (ak (aG (i:=5) sc_law.nd lH)
   (ak (bc F_ rfl (bJ (aK ix3 (v3 1) aq)) (cg (n:=3) rfl (aJ (aD (i:=6) sc_law.nd) (aJ (aD (i:=7) sc_law.nd) (aJ (aD (i:=8) sc_law.nd) bH)))) (aA (jA hu1 (v3 5) (v3 6) (v3 7))))
   (ak (iD (i:=9) rfl sc_law.nd (bN (n0:=(aC (top 62)).names) (N:=uD) (N':=["_law_group","_law_lengths"]) (nt:=1) (cap:=[5]) rfl rfl (by decide +kernel)) (bV (aU I X rfl (aa (v3 1) ao))) (fun cl V s H C0 fp=>⟨(aD (i:=0) (show List.Nodup [("_law_group":Str),("_law_lengths":Str)] by decide +kernel)),cB,(bG (aa (v3 0) (aa (aM (vD rfl) rfl B.sum_ vG (aa (bO rfl (Iv (n00:=(aC (top 62)).names) (N:=["_law_group","_law_lengths"]) (N':=["_law_name","_law_lengths"]) (nt:=1) (cap:=[1]) rfl rfl rfl (by decide +kernel)) (bJ (v3 0)) (fun cl V s H C0 fp=>⟨(aD (i:=0) (show List.Nodup [("_law_name":Str),("_law_lengths":Str)] by decide +kernel)),cB,(cN hu1 (v3 1) (v3 0))⟩)) ao)) ao)))⟩))
   (ak (aG (i:=10) sc_law.nd (aH qe (aK ix3 (aK ix3 (v3 9) (aH aZ (v3 4) (aM cD rfl B.len_ cF (aa (v3 9) ao)))) aq) aq))
   (ak (aG (i:=11) sc_law.nd (aK ix3 (bO rfl (bN (n0:=(aC (top 62)).names) (N:=uD) (N':=["_law_one","_law_low"]) (nt:=1) (cap:=[10]) rfl rfl (by decide +kernel)) (bV (v3 9)) (fun cl V s H C0 fp=>⟨(aD (i:=0) (show List.Nodup [("_law_one":Str),("_law_low":Str)] by decide +kernel)),(dZ (aV rZ (aK ix3 (v3 0) aq) (v3 1))),(v3 0)⟩)) aq))
   (ak (gZ (aU u X rfl (aa (v3 1) (aa (v3 10) ao))) (cg (n:=2) rfl (aJ (aD (i:=12) sc_law.nd) (aJ (aD (i:=13) sc_law.nd) bH))))
   (ak (bA (PW3.pt (gM (aV (fX q) (v3 12) cM) (gM (dU (cI (aM ji rfl B.isinstance_ bh (aa (aK ix3 (v3 13) aq) (aa (kJ rfl B.tuple_ cj) ao))))) (gM (dU (cI (aU S X rfl (aa (aK ix3 (v3 13) aq) ao)))) (gW (aV (fX q) (v3 13) (v3 11))))))) (aA (aN dH)) aR)
   (ak (aG (i:=14) sc_law.nd (aM (iI rfl) rfl B.max_ jk (aa (bO rfl (bN (n0:=(aC (top 62)).names) (N:=uD) (N':=["_law_one"]) (nt:=1) (cap:=[]) rfl rfl (by decide +kernel)) (bV (v3 9)) (fun cl V s H C0 fp=>⟨(aD (i:=0) (show List.Nodup [("_law_one":Str)] by decide +kernel)),cB,(aK ix3 (v3 0) aq)⟩)) ao)))
   (ak (aG (i:=15) sc_law.nd (aM cD rfl B.len_ cF (aa (aK ix3 (v3 1) aq) ao)))
   (ak (gZ (aU u X rfl (aa (v3 1) (aa (v3 14) ao))) (cg (n:=2) rfl (aJ (aD (i:=12) sc_law.nd) (aJ (aD (i:=13) sc_law.nd) bH))))
   (ak (bA (PW3.pt (gY (aV (dh q) (v3 12) cM) (fK (dU (cI (aU d X rfl (aa (v3 1) (aa (v3 14) (aa (v3 15) (aa (v3 13) ao)))))))))) (aA (aN dH)) aR)
   (ak (bA (PW3.pt (gY (aV (fX q) (v3 12) cM) (fK (aV (fX q) (v3 12) cM)))) (aA (aN dH)) aR)
   (ak (aG (i:=16) sc_law.nd (aM (iI rfl) rfl B.max_ jk (aa (aU R X rfl (aa (v3 1) (aa (v3 2) ao))) ao)))
   (ak (gZ (aU u X rfl (aa (v3 1) (aa (v3 16) ao))) (cg (n:=2) rfl (aJ (aD (i:=12) sc_law.nd) (aJ (aD (i:=13) sc_law.nd) bH))))
   (aA (aN (vB (gD (dh q) (v3 12) cM) (p7 (aU d X rfl (aa (v3 1) (aa (v3 16) (aa (aM cD rfl B.len_ cF (aa (aK ix3 (v3 1) aq) ao)) (aa (v3 13) ao)))))))))))))))))))))))),?_⟩
 rw[show aQ uD [T.ref a]=[some (T.ref a),none,none,none,none,none,none,none,none,none,none,none,none,none,none,none,none] from rfl];walk_at "h";have k':=Box.mk k;clear k;walk_at "s";refine⟨a,ns,8,8,rfl,ha,h63,by decide,by decide,by decide,by decide,fun W sts beat c hW _ _ hf _ p hp=>?_⟩;have r8:=hW.r8;have t8:=hW.t8;have t1:=hW.t1;have r1:=hW.r1;have b:=Box.mk hW;have J:=Box.mk hf;have gp:up3 H3 p (.lst (sts.map fun (s:Nat)=>T.int (s:Int))) p=some (.lst (sts.map fun (s:Nat)=>T.int (s:Int))):=au;try walk_at ""
 generalize up3 H3 p (.lst (sts.map fun (s:Nat)=>T.int (s:Int)))=H4 at gp ⊢;clear hW hf hp ha h63;walk_at "t";walk_at "n";walk_at "s";intro pl hpl;have s1:Sub3 H4 (up3 H4 pl (.dct (dV (fun n=>T.int (lnW W n)) []))):=Sub3.new hpl;have gl:up3 H4 pl (.dct (dV (fun n=>T.int (lnW W n)) [])) pl=some (.dct (dV (fun n=>T.int (lnW W n)) [])):=au;rw[show (.dct []:O3)=.dct (dV (fun n=>T.int (lnW W n)) []) from rfl];generalize up3 H4 pl (.dct (dV (fun n=>T.int (lnW W n)) []))=H5 at s1 gl ⊢;walk_at "n";refine aB fun R2 hR2=>?_;walk_at "";refine aW tkT W.tasks (fun A σ H=>∃v6 v7 v8 v9 v10 v11 v12 v13 v14 v15 G:Option T,σ=[some (.ref a),some W.enc,some (.ref p),some (.int beat),some (.int c),some (.ref pl),v6,v7,v8,v9,v10,v11,v12,v13,v14,v15,G]/\Sub3 H4 H/\H pl=some (.dct (dV (fun n=>T.int (lnW W n)) (A.map (·.1))))) ⟨_,_,_,_,_,_,_,_,_,_,_,rfl,s1,gl⟩ ?_ ?_;rotate_left
 ·rintro A ⟨x,ln,ks⟩ B σ H N e ⟨v6,v7,v8,v9,v10,v11,v12,v13,v14,v15,G,rfl,L,gl⟩ hN;walk_at "t";have hA:A.length<9:=by have:=W_ List.length e;rw[d_,j_] at this;omega
  have hx:x∉A.map (·.1):=fun z=>by have:=b.out.nd;rw[e,x_,G_,Zq] at this;exact this.2.2 x z x k_ rfl
  have hl:lnW W x=ln:=Gz (t:=(x,ln,ks)) b.out (by rw[e];simp);have hp3:=Gw (g:=fun n=>T.int (lnW W n)) (g':=fun n=>T.int (lnW W n)) hx fun _ _=>rfl;rw[hl] at hp3;have ldl:(dV (fun n=>T.int (lnW W n)) (A.map (·.1))).length=A.length:=by unfold dV;rw[e_,e_]
  have hN':Box (∀v6 v7 v8,N [some (.ref a),some W.enc,some (.ref p),some (.int beat),some (.int c),some (.ref pl),v6,v7,v8,v9,v10,v11,v12,v13,v14,v15,G] (up3 H pl (.dct (dV (fun n=>T.int (lnW W n)) (A.map (·.1)++[x]))))):=⟨fun v6 v7 v8=>hN _ _ ⟨_,_,_,_,_,_,_,_,_,_,_,rfl,jn L hpl,by rw[au,x_];rfl⟩⟩;clear hN e k' hR2 hl hx L;simp only[tkT];walk_at "";exact⟨trivial,by omega,hN'.out _ _ _⟩
 rintro σ H5 ⟨v6,v7,v8,v9,v10,v11,v12,v13,v14,v15,G,rfl,L,gl⟩;walk_at "t";have gp5:=L _ _ gp;clear s1 gp hpl;walk_at "n";refine aB fun R3 hR3=>?_;walk_at "";refine⟨W,rfl,b.out,fun H6 pg s6 gg=>?_⟩;have gp6:=s6 _ _ gp5;have gl6:=s6 _ _ gl;clear gp5 gl s6 L;try walk_at ""
 walk_at "c";have g8:=yO b.out;refine eV sT (cP W) (fun A ys σ H=>∃v0:Option T,σ=[v0,some (.ref pl)]/\Sub3 H6 H/\ys=A.map (gpT W)) ⟨_,rfl,Sub3.refl,rfl⟩ ?_ ?_;rotate_left
 ·rintro A g B ys σ H N e ⟨v0,rfl,L,rfl⟩ hN;refine⟨.inl (L _ _ gg),?_⟩;have hgm:g∈cP W:=by rw[e];simp
  have hAl:A.length<9:=by have:=W_ List.length e;rw[d_,j_] at this;omega
  have hlk:Box (∀x∈g,aP x (dV (fun n=>T.int (lnW W n)) (W.tasks.map (·.1)))=some (T.int (lnW W x))):=⟨fun x hx=>by
   obtain⟨t,_,rfl⟩:=gps_mem.mp hgm
   exact qY (Kd hx)⟩
  have gll:g.length<=8:=by obtain⟨t,_,rfl⟩:=gps_mem.mp hgm;exact Q_ (Yy _ _) (by rw[e_];exact t8)
  have hsum:=KH b.out hgm;have gl':=L _ _ gl6;have hN':Box (∀v0 H',Sub3 H6 H'->N (A.map (gpT W)++[gpT W g]) [v0,some (.ref pl)] H'):=⟨fun v0 H' s'=>hN _ _ _ ⟨v0,rfl,s',by rw[x_];rfl⟩⟩;clear hN e k' hR3 hgm;simp only[sT];walk_at "";walk_at "c";refine bI T.str (fun x=>T.int (lnW W x)) g [some (.ref pl)] trivial (by omega) ?c1 ?c2
  case c1 =>
   intro x hx Q' hq
   have lk:=hlk.out x hx
   clear hlk hN'
   walk_at ""
   try exact hq
  intro pi hpi;have e1:ints3 (g.map fun x=>T.int (lnW W x))=some (g.map (lnW W)):=by rw[<- dW,YC];rfl
  rw[e1,fG,hsum];exact⟨by decide,by omega,hN'.out _ _ (L.trans (Sub3.new hpi))⟩
 rintro ys σ H7 ⟨v0,rfl,L,rfl⟩;refine⟨.inl (L _ _ gg),by rw[e_];omega,fun ps hps=>?_⟩;have gp8:=(Sub3.new (o:=.lst ((cP W).map (gpT W))) hps) _ _ (L _ _ gp6);have gs:up3 H7 ps (.lst ((cP W).map (gpT W))) ps=some (.lst ((cP W).map (gpT W))):=au;generalize up3 H7 ps (.lst ((cP W).map (gpT W)))=H8 at gp8 gs ⊢;clear gp6 gl6 gg L hps;walk_at "n";have g1:1<=(cP W).length:=by obtain⟨t,ht⟩:∃t,t∈W.tasks:=List.exists_mem_of_length_pos t1;have:bu W t.1∈cP W:=gps_mem.mpr ⟨t.1,z_.mpr ⟨t,ht,rfl⟩,rfl⟩;exact List.length_pos_of_mem this
 have m0:=V_ c (show ((cP W).length:Int)≠0 by omega);have m1:=R_ c (show (0:Int)<((cP W).length:Int) by omega);obtain⟨j,hj⟩:∃j:Nat,c%((cP W).length:Int)=(j:Int):=⟨(c%((cP W).length:Int)).toNat,by omega⟩;have cd:BW c ((cP W).length:Int):=⟨by omega,aan (aaC _) (by omega)⟩;have hjl:j<(cP W).length:=by omega
 have aj:atI ((cP W).map (gpT W)) (j:Int)=some (T.tup [sT (cP W)[j],T.int (aX W.tasks (cP W)[j])]):=cz (by rw[y_,g_ hjl];rfl);walk_at "s";refine⟨by omega,?_⟩;have C:Box (∃g∈cP W,aX W.tasks (cP W)[j] - 1<aX W.tasks g):=⟨_,Y4 hjl,by omega⟩;generalize aX W.tasks (cP W)[j] - 1=lw at C ⊢;clear aj hj m0 m1 cd hjl;walk_at "n";refine aB fun R5 hR5=>?_;walk_at "";walk_at "c";refine fC (gpT W) (gpT W) (fun g=>decide (lw<aX W.tasks g)) (cP W) [some (.int lw)] (.inl gs) (by omega) (fun g F Q' hq=>?_) (fun g F hpx Q' hq=>?_) (fun pd hpd=>?_)
 ·have O:=Box.mk hq;clear hq k' C hR5;simp only[gpT];walk_at "";try exact O.out
 ·have O:=Box.mk hq;clear hq k' C hR5;walk_at "";try exact O.out
 obtain⟨m,rr,hfl⟩:∃m rr,(cP W).filter (fun g=>decide (lw<aX W.tasks g))=m::rr:=by
  obtain⟨g,F,hl⟩:=C.out;cases e:(cP W).filter (fun g=>decide (lw<aX W.tasks g)) with
  |nil=>exact absurd (B_.mpr ⟨F,L_ hl⟩) (by rw[e];simp)
  |cons x r=>exact⟨x,r,rfl⟩
 have hlg:Box (lng W lw=some m):=⟨by unfold lng;rw[<- List.head?_filter,hfl];rfl⟩;rw[hfl,G_];have a0:atI (gpT W m::rr.map (gpT W)) 0=some (gpT W m):=cz (j:=0) rfl;have gp9:=(Sub3.new (o:=.lst (gpT W m::rr.map (gpT W))) hpd) _ _ gp8;have gs9:=(Sub3.new (o:=.lst (gpT W m::rr.map (gpT W))) hpd) _ _ gs;walk_at "";generalize up3 H8 pd (.lst (gpT W m::rr.map (gpT W)))=H9 at gp9 gs9 ⊢;clear gp8 gs hpd hfl C a0;walk_at "n";walk_at "s";refine⟨W,lw,rfl,b.out,fun g F=>?_,fun n hn=>(by rw[hlg.out] at hn;cases hn),fun hn=>(by rw[hlg.out] at hn;cases hn)⟩;rw[hlg.out] at F;cases F;try walk_at ""
 walk_at "t";clear hlg;walk_at "n";refine aB fun R7 hR7=>?_;have plg:=W6 m (aX W.tasks m);have iT:isT "tuple" (sT m) H9=some true:=rfl;have eg0:gpT W m=T.tup [sT m,T.int (aX W.tasks m)]:=rfl;rw[eg0];clear eg0;walk_at "";refine⟨_,rfl,?_⟩;walk_at "";refine⟨trivial,trivial,?_⟩;clear plg iT;walk_at "n";refine aB fun R8 hR8=>?_;walk_at "";walk_at "c";refine bI (gpT W) (fun g=>T.int (aX W.tasks g)) (cP W) [] (.inl gs9) (by omega) ?c3 ?c4
 case c3 =>
  intro g F Q' hq
  have O:=Box.mk hq
  clear hq k' hR8
  simp only[gpT]
  walk_at ""
  try exact O.out
 intro pm hpm;have e1:ints3 ((cP W).map fun g=>T.int (aX W.tasks g))=some ((cP W).map (aX W.tasks)):=by rw[<- dW,YC];rfl
 rw[e1,fG];refine⟨fun z=>by rw[aag.mp z] at g1;simp at g1,fun M _ hM=>?_⟩;have hln:Box (lng W M=none):=⟨ni fun g F=>by have:=hM _ (z_.mpr ⟨g,F,rfl⟩);omega⟩;have gp10:=(Sub3.new (o:=.lst ((cP W).map fun g=>T.int (aX W.tasks g))) hpm) _ _ gp9;generalize up3 H9 pm (.lst ((cP W).map fun g=>T.int (aX W.tasks g)))=H10 at gp10 ⊢;clear gp9 gs9 hpm e1 hM;walk_at "n";walk_at "s";walk_at "n";refine aB fun R10 hR10=>?_;have rest:∀(wd:Str) (td:T),((wd="told"/\∃n:Nat,td=.tup [.int (n:Int),dtT W M n]/\n<=W.row.length/\Can W n M)\/wd="none")->R10 { nx:=fun x H'=>Fin3 Q T.non H',rt:=Fin3 Q} [some (.ref a),some W.enc,some (.ref p),some (.int beat),some (.int c),some (.ref pl),v6,v7,v8,some (.ref ps),some (.int lw),some (T.tup [sT m,T.int (aX W.tasks m)]),some (.str wd),some td,some (.int M),some (.int (W.row.length:Int)),G] H10:=by
  intro wd td Z;have hc':=Box.mk Z;clear Z hln;walk_at "n";refine aB fun R11 hR11=>?_
  suffices y:R11 { nx:=fun x H'=>Fin3 Q T.non H',rt:=Fin3 Q} [some (.ref a),some W.enc,some (.ref p),some (.int beat),some (.int c),some (.ref pl),v6,v7,v8,some (.ref ps),some (.int lw),some (T.tup [sT m,T.int (aX W.tasks m)]),some (.str wd),some td,some (.int M),some (.int (W.row.length:Int)),G] H10 by
   have D:=Box.mk y;clear y hR11 k' J;rcases hc'.out with ⟨rfl,n,rfl,h1,h2⟩ | rfl
   ·walk_at "";refine⟨W,M,n,rfl,b.out,h1,h2,?_⟩;try walk_at ""
    exact D.out
   walk_at "";exact D.out
  walk_at "n";refine aB fun R12 hR12=>?_
  suffices y:R12 { nx:=fun x H'=>Fin3 Q T.non H',rt:=Fin3 Q} [some (.ref a),some W.enc,some (.ref p),some (.int beat),some (.int c),some (.ref pl),v6,v7,v8,some (.ref ps),some (.int lw),some (T.tup [sT m,T.int (aX W.tasks m)]),some (.str wd),some td,some (.int M),some (.int (W.row.length:Int)),G] H10 by
   have D:=Box.mk y;clear y hR12 k' J;rcases hc'.out with ⟨rfl,_⟩ | rfl
   ·walk_at "";exact D.out
   walk_at "";exact D.out
  clear hc';walk_at "n";walk_at "s";refine⟨W,p,sts,rfl,b.out,gp10,J.out.l,J.out.lt,fun pq hpq=>?_⟩;have hll:=yK W sts;have ei:=dW (ldS W sts);have gl:up3 H10 pq (.lst ((ldS W sts).map T.int)) pq=some (.lst ((ldS W sts).map T.int)):=au;walk_at "";refine⟨fun z=>by rw[z] at hll;simp at hll;omega,fun M2 _ hM2=>?_⟩;generalize up3 H10 pq (.lst ((ldS W sts).map T.int))=H11;have Y:Box (Can W W.row.length M2):=⟨(lU b.out (l_ _)).mp (J.out.way b.out hM2)⟩;have hl2:Box (lng W M2=none):=⟨ni fun g F=>by
   obtain⟨t,ht,rfl⟩:=gps_mem.mp F
   have:=Y.out.grp b.out (l_ _) ht
   omega⟩
  clear hll ei hM2 gl gp10 J hpq;walk_at "n";walk_at "s";refine⟨W,M2,rfl,b.out,fun g F=>(by rw[hl2.out] at F;cases F),fun n _ h2 h3 h4=>?_,fun _ h2=>absurd Y.out (h2 _ (l_ _))⟩;have h3':=Box.mk h3;clear h3 h4 Y hl2;try walk_at ""
  walk_at "t";walk_at "n";walk_at "";refine⟨W,M2,n,rfl,b.out,h2,h3'.out,?_⟩;exact Fin3.of Sub3.refl (k'.out _)
 have v:=Box.mk rest;clear rest hR10;walk_at "";refine⟨W,M,rfl,b.out,fun g F=>(by rw[hln.out] at F;cases F),fun n _ h2 h3 h4=>?_,fun _ h2=>?_⟩
 ·have y:=Box.mk (v.out "told" _ (.inl ⟨rfl,n,rfl,h2,h3⟩));clear v h3 h4 hln;try walk_at ""
  exact⟨trivial,y.out⟩
 have y:=Box.mk (v.out "none" .non (.inr rfl));clear v h2 hln;try walk_at ""
 exact⟨trivial,y.out⟩
abbrev gh:List Str:=["_law_works_here","_law_beat_here","_law_most","_law_found"]
def wL:FnScope gh gh (aC (top 61)):=bf
def wM {f:Addr} (g:G3 K mg "_law_is_pair" (top 61) gh f q) (B:Bl mg) (b:Cal P w K mg base 1 "_law_whole" (top 55) ["_law_found"] Sx) (a:Cal P w K mg base 2 "_law_is_dealing" (top 57) ["_law_works_here","_law_beat_here","_law_many","_law_found"] Wu):Cal P w K mg base 3 "_law_is_pair" (top 61) gh W4:=by
 refine⟨f,q,g,?_⟩;refine fn3 g.fn wL (fun ts H Q h=>?_) (fun t A outer s H E ts H3 Q i h=>?_)
 ·obtain⟨W,beat,n,rfl,_⟩:=h;rfl
 have c:=Room.u30 i;obtain⟨W,beat,n,rfl,e,o,j,k⟩:=h;refine⟨_,(ak (bA (PW3.pt (gM (dU (cI (aM ji rfl B.isinstance_ bh (aa (v3 3) (aa (kJ rfl B.tuple_ cj) ao))))) (gM (aV (fX c) (aM cD rfl B.len_ cF (aa (v3 3) ao)) aq) (gW (dU (cI (aU b i rfl (aa (aK ix3 (v3 3) aq) ao)))))))) (aA (aN dH)) aR)
   (aA (aN (vB (Bt xR xR aq (aK ix3 (v3 3) aq) (v3 2)) (p7 (aU a i rfl (aa (v3 0) (aa (v3 1) (aa (aK ix3 (v3 3) aq) (aa (aK ix3 (v3 3) aq) ao)))))))))),?_⟩
 rw[show aQ gh [W.enc,T.int beat,T.int (W.row.length:Int),T.tup [T.int (n:Int),dtT W beat n]]=[some (W.enc),some (T.int beat),some (T.int (W.row.length:Int)),some (T.tup [T.int (n:Int),dtT W beat n])] from rfl];walk_at "h";have y:=Box.mk k;clear k;obtain⟨v,d⟩:=(lU e o).mpr j;obtain⟨m,p,l,r⟩:=j7 e o d;have G:1<=n:=by obtain⟨f,u,_⟩:=j;have:=u "";omega
 unfold dtT;rw[d];dsimp only;clear d j;generalize v.map (pk W)=D at m p l r ⊢;have z:decide ((1:Int)<=(n:Int))=true:=L_ (by omega);have C:decide ((n:Int)<=(W.row.length:Int))=true:=L_ (by omega);walk_at "s";refine⟨_,rfl,?_⟩;try dsimp only
 try walk_at ""
 walk_at "n";walk_at "";refine⟨W,beat,n,D,rfl,e,l,r,m,p,?_⟩;exact Fin3.of Sub3.refl y.out
abbrev jM:List Str:=["_law_found"]
def GD:FnScope jM jM (aC (top 55)):=bf
def GF {f:Addr} (g:G3 K mg "_law_whole" (top 55) jM f a) (B:Bl mg):Cal P w K mg base 1 "_law_whole" (top 55) jM Sx:=by
 refine⟨f,a,g,?_⟩;refine fn3 g.fn GD (fun ts H Q h=>?_) (fun c A outer s H E ts H3 Q d h=>?_)
 ·obtain⟨i,rfl,_⟩:=h;rfl
 obtain⟨i,rfl,b⟩:=h;refine⟨_,(aA (aN (vB (aM ji rfl B.isinstance_ bh (aa (v3 0) (aa (kJ rfl B.int_ Ck) ao))) (p7 (O4 (aM ji rfl B.isinstance_ bh (aa (v3 0) (aa (kJ rfl B.bool_ Iw) ao)))))))),?_⟩;rw[show aQ jM [T.int i]=[some (T.int i)] from rfl];walk_at "";exact Fin3.of Sub3.refl b
abbrev GJ:List Str:=["_law_works_here","_law_beat_here","_law_error","_law_found","e"]
def sc_told:FnScope GJ ["_law_works_here","_law_beat_here"] (aC (top 60)):=bf
def KJ {f:Addr} (g:G3 K mg "_law_told" (top 60) ["_law_works_here","_law_beat_here"] f fd) (B:Bl mg) (o:AskC K mg "RowError" C_RowError) (p:mg "TooLong"=some (.ref C_TooLong)) (l:mg "NoRoom"=some (.ref C_NoRoom)) (D:mg "NoRow"=some (.ref C_NoRow)) (q:mg "NoStand"=some (.ref C_NoStand)) (u:mg "NoTask"=some (.ref C_NoTask)) (L:mg "Ring"=some (.ref C_Ring)) (M:mg "Torn"=some (.ref C_Torn)) (F:mg "Twice"=some (.ref C_Twice)) (k:mg "ValueError"=none) (GL:XIs K C_TooLong) (RL:mroIn K C_TooLong (.ref C_RowError)=some true) (AL:kitAny K (.ref C_TooLong) [.ref C_NoRow,.ref C_NoStand,.ref C_NoTask,.ref C_Ring,.ref C_Torn,.ref C_Twice]=some false) (VL:kitOne K (.ref C_TooLong) (.type "ValueError")=some true) (TL:kitOne K (.ref C_TooLong) (.ref C_TooLong)=some true) (OL:kitOne K (.ref C_TooLong) (.ref C_NoRoom)=some false) (GN:XIs K C_NoRoom) (RN:mroIn K C_NoRoom (.ref C_RowError)=some true) (AN:kitAny K (.ref C_NoRoom) [.ref C_NoRow,.ref C_NoStand,.ref C_NoTask,.ref C_Ring,.ref C_Torn,.ref C_Twice]=some false) (VN:kitOne K (.ref C_NoRoom) (.type "ValueError")=some true) (TN:kitOne K (.ref C_NoRoom) (.ref C_TooLong)=some false) (ON:kitOne K (.ref C_NoRoom) (.ref C_NoRoom)=some true) (f1:findIn K (.ref C_TooLong) "tasks"=some none) (f2:findIn K (.ref C_TooLong) "length"=some none) (c:CalX P w K mg base 8 "fewest_stands" (top 43) ["works","beat"] (W3 C_TooLong C_NoRoom)):Cal P w K mg base 9 "_law_told" (top 60) ["_law_works_here","_law_beat_here"] W5:=by
 refine⟨f,fd,g,?_⟩;refine fn3 g.fn sc_told (fun ts H Q h=>?_) (fun cdv A outer s H E ts H3 Q hr h=>?_)
 ·obtain⟨W,beat,rfl,_⟩:=h;rfl
 have hu30:=Room.u30 hr;obtain⟨W,beat,rfl,hW,k0,k1,k2⟩:=h;refine⟨_,(ak (aG (i:=2) sc_told.nd gU)
   (ak (aG (i:=3) sc_told.nd gU)
   (ak (JS 4 o sc_told.nd rfl rfl rfl rfl rfl (fun xe pn H0 E3 hM=>(aA (aG (i:=3) sc_told.nd (Fe c hM (hr.mono (by decide)) rfl (aa (v3 0) (aa (v3 1) ao)))))) (fun a=>(aA (aG (i:=2) sc_told.nd (v3 4)))))
   (ak (bA (aV Vt (v3 2) gU) (aA (aN (bG (aa cM (aa (v3 3) ao))))) aR)
   (ak (bA (PW3.pt (gM (cI (aM (jF (K:=K) rfl) rfl B.isinstance_ bh (aa (v3 2) (aa (bG (aa (gH rfl D) (aa (gH rfl q) (aa (gH rfl u) (aa (gH rfl L) (aa (gH rfl M) (aa (gH rfl F) ao))))))) ao)))) (gW (dU (cI (aM (jF (K:=K) rfl) rfl B.isinstance_ bh (aa (v3 2) (aa (kJ rfl k nY) ao)))))))) (aA (aN (bG (aa cM (aa gU ao))))) aR)
   (ak (bA (aV (dh hu30) (aM (jF (K:=K) rfl) rfl B.isinstance_ bh (aa (v3 2) (aa (gH rfl p) ao))) (aM (jF (K:=K) rfl) rfl B.isinstance_ bh (aa (v3 2) (aa (gH rfl l) ao)))) (aA (aN (bG (aa cM (aa gU ao))))) aR)
   (ak (bA (cI (aM (jF (K:=K) rfl) rfl B.isinstance_ bh (aa (v3 2) (aa (gH rfl l) ao)))) (aA (aN (bG (aa cM (aa gU ao))))) aR)
   (aA (aN (bG (aa cM (aa (bG (aa (Fi (K:=K) rfl (v3 2)) (aa (Fi (K:=K) rfl (v3 2)) ao))) ao)))))))))))),?_⟩
 rw[show aQ GJ [W.enc,T.int beat]=[some (W.enc),some (T.int beat),none,none,none] from rfl];walk_at "h";have G:=Box.mk k0;have v:=Box.mk k1;have y:=Box.mk k2;clear k0 k1 k2;walk_at "s";walk_at "n";walk_at "s";walk_at "n";refine aB fun R2 hR2=>?_;have key:∀(a C:Addr) (b:Bool) (I:Hp3),TyX K I (.ref a) (.ref C)->kitAny K (.ref C) [.ref C_NoRow,.ref C_NoStand,.ref C_NoTask,.ref C_Ring,.ref C_Torn,.ref C_Twice]=some false->kitOne K (.ref C) (.type "ValueError")=some true->kitOne K (.ref C) (.ref C_TooLong)=some b->kitOne K (.ref C) (.ref C_NoRoom)=some (!b)->(b=false->Fin3 Q (.tup [.str "none",.non]) I) ->
   (b=true->∃r fs t1 t2,I a=some (.exc C (some r))/\I r=some (.xdt fs)/\XGet K C/\findIn K (.ref C) "tasks"=some none/\findIn K (.ref C) "length"=some none/\fs.lookup ("tasks":Str)=some t1/\fs.lookup ("length":Str)=some t2/\Fin3 Q (.tup [.str "long",.tup [t1,t2]]) I)->R2 { nx:=fun _ H'=>Fin3 Q T.non H',rt:=Fin3 Q} [some W.enc,some (T.int beat),some (T.ref a),some T.non,none] I:=by
  intro a C b I Y hA hV O N e1 e2
  have U:=Box.mk e1
  have S:=Box.mk e2
  have n0:isN (T.ref a)=false:=rfl
  clear e1 e2 G v y
  walk_at "n"
  walk_at ""
  refine⟨by decide,.ref a,_,.ref C,false,rfl,Y,.inr ⟨_,_,rfl,rfl,hA⟩,?_⟩
  walk_at ""
  refine⟨.ref a,_,.ref C,true,rfl,Y,.inl ⟨_,rfl,hV⟩,?_⟩
  walk_at ""
  refine⟨.ref a,_,.ref C,b,rfl,Y,.inl ⟨_,rfl,O⟩,.ref a,_,.ref C,!b,rfl,Y,.inl ⟨_,rfl,N⟩,?_⟩
  cases b with
  |false =>
   have j:=Box.mk (U.out rfl)
   clear U S
   walk_at ""
   refine⟨.ref a,_,.ref C,true,rfl,Y,.inl ⟨_,rfl,N⟩,?_⟩
   walk_at ""
   exact⟨by decide,j.out⟩
  |true =>
   obtain⟨r,fs,t1,t2,J,R,XG,q1,q2,l1,l2,j⟩:=S.out rfl
   have x:=Box.mk j
   clear U S j
   walk_at ""
   refine⟨.ref a,_,.ref C,false,rfl,Y,.inl ⟨_,rfl,N⟩,?_⟩
   walk_at ""
   exact⟨a,C,r,_,_,rfl,J,R,XG,q1,l1,a,C,r,_,_,rfl,J,R,XG,q2,l2,by decide,by decide,x.out⟩
 have m:=Box.mk key;have V:Box (∀t:T,isN t=false->Fin3 Q (.tup [.str "told",t]) H3->R2 { nx:=fun _ H'=>Fin3 Q T.non H',rt:=Fin3 Q} [some W.enc,some (T.int beat),some T.non,some t,none] H3):=⟨fun t ht j=>by
  have x:=Box.mk j
  clear key m j G v y
  walk_at "n"
  walk_at ""
  exact⟨by decide,x.out⟩⟩
 clear key hR2;walk_at "";refine⟨W,beat,rfl,hW,fun g hg=>⟨RL,fun a d hn=>?_⟩,fun n O N Z h4=>V.out _ rfl (Fin3.of Sub3.refl (v.out n O N Z h4)),fun O N=>⟨RN,fun a d hn=>?_⟩⟩
 ·obtain⟨h0,O⟩:=hn;cases d with
  |none=>exact absurd O (by unfold fsT;simp)
  |some r =>
  obtain⟨_,N,Z⟩:=O;have J:hpX H3 a C_TooLong (fsT W g) (some r) a=some (.exc C_TooLong (some r)):=au;have R:hpX H3 a C_TooLong (fsT W g) (some r) r=some (.xdt (fsT W g)):=(aF (Ne.symm Z)).trans au;have X:Sub3 H3 (hpX H3 a C_TooLong (fsT W g) (some r)):=(Sub3.new N).trans (Sub3.new (by rw[aF Z];exact h0));generalize hpX H3 a C_TooLong (fsT W g) (some r)=I at J R X ⊢;have j:=Box.mk (m.out a C_TooLong true I (.inr ⟨a,_,some r,rfl,J,fun dx' e=>⟨_,by cases e;exact R⟩,GL,rfl⟩) AL VL TL OL (fun z=>nomatch z) fun _=>⟨r,_,sT g,_,J,R,GL.toXGet,f1,f2,rfl,rfl,Fin3.of X (G.out g hg)⟩);clear m V G v y J R X;walk_at "";simp only[Ends3.gone];exact j.out
 obtain⟨h0,Z⟩:=hn;cases d with
 |some r=>exact absurd rfl Z.1
 |none =>
  have J:hpX H3 a C_NoRoom [] none a=some (.exc C_NoRoom none):=au
  have X:Sub3 H3 (hpX H3 a C_NoRoom [] none):=Sub3.new h0
  generalize hpX H3 a C_NoRoom [] none=I at J X ⊢
  have j:=Box.mk (m.out a C_NoRoom false I (.inr ⟨a,_,none,rfl,J,(fun _ z=>nomatch z),GN,rfl⟩) AN VN TN ON (fun _=>Fin3.of X (y.out O N)) (fun z=>nomatch z))
  clear m V G v y J X
  walk_at ""
  simp only[Ends3.gone]
  exact j.out
abbrev gP:List Str:=["works","beat","many","dealing"]
def sc_fewest_stands:FnScope gP ["works","beat"] (aC (top 43)):=bf
def j8 {f:Addr} (g:G3 K mg "fewest_stands" (top 43) ["works","beat"] f Y) (B:Bl mg) (d:ExcN K mg "NoRoom" C_NoRoom) (b:Cal P w K mg base 7 "dealing_to" (top 41) ["works","beat","many"] WT) (a:CalX P w K mg base 5 "check_groups" (top 42) ["works","beat"] (W0 C_TooLong)):CalX P w K mg base 8 "fewest_stands" (top 43) ["works","beat"] (W3 C_TooLong C_NoRoom):=by
 refine⟨f,Y,g,?_⟩;refine fnX g.fn sc_fewest_stands (fun ts H Q E h=>?_) (fun cdv A outer s H E ts H3 Q E3 V h R=>?_)
 ·obtain⟨W,beat,rfl,_⟩:=h;rfl
 obtain⟨W,beat,rfl,G,Z,X,O⟩:=h;refine⟨_,(ak (bC (Fe a R (V.mono (by decide)) rfl (aa (v3 0) (aa (v3 1) ao))))
   (ak (bc PassesOwn.leaving rfl (cR rfl B.range_ (aa (aH bB (aM cD rfl B.len_ cF (aa (aK ix3 (v3 0) aq) ao)) aq) ao)) (aD (i:=2) sc_fewest_stands.nd) (ak (aG (i:=3) sc_fewest_stands.nd (aU b V rfl (aa (v3 0) (aa (v3 1) (aa (v3 2) ao)))))
    (aA (bA (aV QH (v3 3) gU) (aA (aN (bG (aa (v3 2) (aa (v3 3) ao))))) aR))))
   (aA (zZ d R rfl rfl)))),?_⟩
 rw[show aQ gP [W.enc,T.int beat]=[some (W.enc),some (T.int beat),none,none] from rfl];walk_at "h";have n:=Box.mk X;have r:=Box.mk O;have D:=Box.mk Z;clear X O Z;have r8:=G.r8;have p:=Box.mk G;clear G;walk_at "s";refine⟨W,beat,rfl,p.out,fun y=>?_,fun g hg=>⟨H3,Sub3.refl,D.out g hg⟩⟩;have U:=Box.mk y;clear y D;walk_at "n";refine aB fun R1 F=>?_;walk_at "";refine⟨trivial,by omega,by omega,?_⟩;rw[show (W.row.length:Int)+1=((W.row.length+1:Nat):Int) by omega,ug];refine aW (fun (j:Nat)=>T.int (j:Int)) (List.range (W.row.length+1)) (fun A I H=>∃(J v3:Option T),I=[some W.enc,some (.int beat),J,v3]/\H=H3/\∀j,j<A.length->¬Can W j beat) ⟨_,_,rfl,rfl,fun j t=>absurd t (Nat.not_lt_zero _)⟩ ?_ ?_
 ·rintro I H ⟨J,v3,rfl,rfl,c⟩;walk_at "t";rw[D_] at c;have k:=Box.mk (r.out U.out fun j t=>c j (by omega));clear n r c;walk_at "n";walk_at "";exact⟨H,Sub3.refl,k.out⟩
 rintro A m B I H N e ⟨J,v3,rfl,rfl,c⟩ M;walk_at "t";have hA:A.length<W.row.length+1:=by have:=W_ List.length e;simp only[d_,j_,D_] at this;omega
 have t:m=A.length:=by
  have S:(List.range (W.row.length+1))[A.length]?=some m:=by rw[e,Yx (l_ _)];simp
  rw[YK hA] at S;exact (O_ S).symm
 subst t;have u:Box (¬Can W A.length beat->∀v3,N [some W.enc,some (.int beat),some (.int (A.length:Int)),v3] H):=⟨fun l v3=>M _ _ ⟨_,_,rfl,rfl,fun j t=>by
  rw[d_,A_] at t
  rcases Nat.lt_or_eq_of_le (Nat.le_of_lt_succ t) with q | q
  ·
   exact c j q
  ·
   rw[q];exact l⟩⟩
 have k:=Box.mk fun x=>n.out A.length U.out (by omega) x c;have x:=Box.mk (lU (beat:=beat) p.out (show A.length<=W.row.length by omega));clear M e n r c F;walk_at "s";refine⟨W,beat,A.length,rfl,p.out,by omega,?_⟩;dsimp only;walk_at "n";unfold dtT;cases C:du (top2 W - 1) (wys W beat A.length) with
 |none =>
  have l:=u.out fun z=>by
   obtain⟨v,L⟩:=x.out.mpr z
   rw[C] at L
   cases L
  have o:=Box.mk l
  clear l u k x C
  walk_at ""
  exact o.out _
 |some v =>
  have l:=k.out (x.out.mp ⟨v,C⟩)
  unfold dtT at l
  rw[C] at l
  have o:=Box.mk l
  clear l
  clear u k x C
  walk_at ""
  exact⟨by decide,Fin3.of Sub3.refl o.out⟩
def SJ:Sp3:=fun ts H Q=>∃W:Wk,ts=[W.enc]/\WkOk W/\∀p,H p=none->Q (.ref p) (up3 H p (.lst ((lkW ["with"] W).map orT)))
def SM:Sp3:=fun ts H Q=>∃(x:T) (L:List (Str × Str)) (s:Str),ts=[x,.str s]/\((∃a,x=.ref a/\H a=some (.lst (L.map orT)))\/x=.tup (L.map orT))/\L.length<=100 /\
 ∀(p:Addr) (kvs:List (Str × T)),H p=none->(∀z,(aP z kvs).isSome=true↔RT (fun a b=>(a,b)∈L) s z)->Q (.ref p) (up3 H p (.dct kvs))
def SN:Sp3:=fun ts H Q=>∃(W:Wk) (t:Str),ts=[W.enc,.str t]/\WkOk W/\∀(p:Addr) (kvs:List (Str × T)),H p=none->(∀z,(aP z kvs).isSome=true↔RT (lkR ["with"] W) t z)->Q (.ref p) (up3 H p (.dct kvs))
def SQ:Sp3:=fun ts H Q=>∃(W:Wk) (t:Str),ts=[W.enc,.str t]/\WkOk W/\∀(p:Addr) (kvs:List (Str × T)),H p=none->(∀z,(aP z kvs).isSome=true↔RT (lkR ["with"] W) z t)->Q (.ref p) (up3 H p (.dct kvs))
def W7:Sp3:=fun ts H Q=>∃(W:Wk) (a b:Addr) (d c:List (Str × T)),ts=[W.enc,.ref a,.ref b]/\WkOk W/\H a=some (.dct d)/\H b=some (.dct c)/\Q (sT ((W.tasks.map (·.1)).filter fun x=>(aP x d).isSome&&(aP x c).isSome)) H
def W8:Sp3:=fun ts H Q=>∃(W:Wk) (a b:Addr) (d c:List (Str × T)),ts=[W.enc,.ref a,.ref b]/\WkOk W/\H a=some (.dct d)/\H b=some (.dct c)/\Q (sT ((W.tasks.map (·.1)).filter fun x=>(aP x d).isSome&&!(aP x c).isSome)) H
def S5:Sp3:=fun ts H Q=>∃(W:Wk) (t:Str),ts=[W.enc,.str t]/\WkOk W/\Q (sT (bu W t)) H
def W9:Sp3:=fun ts H Q=>∃W:Wk,ts=[W.enc]/\WkOk W/\Q (.tup ((cP W).map sT)) H
def Xa:Sp3:=fun ts H Q=>∃(W:Wk) (t:Str),ts=[W.enc,.str t]/\WkOk W/\Q (sT (jm W t)) H
abbrev nj:List Str:=["works","links","word","one","other"]
def sc_links_of:FnScope nj ["works"] (aC (top 2)):=bf
def uE {f:Addr} (g:G3 K mg "links_of" (top 2) ["works"] f C) (B:Bl mg):Cal P w K mg base 1 "links_of" (top 2) ["works"] SJ:=by
 refine⟨f,C,g,?_⟩;refine fn3 g.fn sc_links_of (fun ts H Q h=>?_) (fun F A outer s H E ts H3 Q J h=>?_)
 ·obtain⟨W,rfl,_⟩:=h;rfl
 have l:=Room.u30 J;obtain⟨⟨tk,c,prs,j⟩,rfl,o,k⟩:=h;refine⟨_,(ak (aG (i:=1) sc_links_of.nd (bM qi rfl B.list_ lG (aa (aK ix3 (v3 0) aq) ao)))
   (ak (bc F_ rfl (bJ (aK ix3 (v3 0) aq)) (cg (n:=3) rfl (aJ (aD (i:=2) sc_links_of.nd) (aJ (aD (i:=3) sc_links_of.nd) (aJ (aD (i:=4) sc_links_of.nd) bH)))) (aA (bA (aV (dh l) (v3 2) cM) (ak (bC (dm E_ M_ N_ bj (v3 1) (aa (bG (aa (v3 3) (aa (v3 4) ao))) ao)))
     (aA (bC (dm E_ M_ N_ bj (v3 1) (aa (bG (aa (v3 4) (aa (v3 3) ao))) ao))))) aR)))
   (aA (aN (v3 1))))),?_⟩
 rw[show aQ nj [Wk.enc ⟨tk,c,prs,j⟩]=[some (T.tup [T.tup (tk.map tkT),T.tup (c.map orT),T.tup (prs.map prT),T.tup (j.map T.str)]),none,none,none,none] from rfl];walk_at "h";have z:c.length<=28:=o.os;have y:prs.length<=12:=o.ps;walk_at "";intro p I;refine aW prT prs (fun A t H=>∃(v v3 r:Option T),t=[some (T.tup [T.tup (tk.map tkT),T.tup (c.map orT),T.tup (prs.map prT),T.tup (j.map T.str)]),some (.ref p),v,v3,r]/\H=up3 H3 p (.lst ((c++A.flatMap (lkP ["with"])).map orT))) ⟨none,none,none,rfl,by simp⟩ ?_ ?_
 ·rintro t H ⟨v,v3,r,rfl,rfl⟩;walk_at "t";walk_at "";exact Fin3.of Sub3.refl (k p I)
 rintro A ⟨w,a,b⟩ B t H N e ⟨v,v3,r,rfl,rfl⟩ x;have G:=qO ["with"] A;have M:A.length<=12:=by have:=W_ List.length e;simp only[d_,j_] at this;omega
 have m:(c++A.flatMap (lkP ["with"])).length<=52:=by rw[d_];omega
 have d:N [some (T.tup [T.tup (tk.map tkT),T.tup (c.map orT),T.tup (prs.map prT),T.tup (j.map T.str)]),some (.ref p),some (.str w),some (.str a),some (.str b)] (up3 H3 p (.lst ((c++A.flatMap (lkP ["with"])).map orT++(lkP ["with"] (w,a,b)).map orT))):=x _ _ ⟨_,_,_,rfl,by rw[List.flatMap_append,<- YW,x_];simp⟩;generalize c++A.flatMap (lkP ["with"])=L at d m;replace d:=Box.mk d;walk_at "t";clear x e k o G;simp only[prT];walk_at "";walk_at "t";by_cases q:w="with"
 ·subst q;have u:lkP ["with"] ("with",a,b)=[(a,b),(b,a)]:=by unfold lkP;simp
  rw[u] at d;try simp only[ZG,if_true]
  refine⟨⟨trivial,trivial⟩,by omega,by omega,⟨trivial,trivial⟩,by omega,by simp;omega,?_⟩;have D:=d.out;simp only[G_,ZF,orT] at D;rw[YW];exact D
 have u:lkP ["with"] (w,a,b)=[]:=by unfold lkP;simp [q]
 rw[u,ZF,S_] at d;simp only[q,Ze,C_,YG];exact d.out
abbrev iu:List Str:=["works","beat","group","length"]
def sc_check_groups:FnScope iu ["works","beat"] (aC (top 42)):=bf
def lD {f:Addr} (g:G3 K mg "check_groups" (top 42) ["works","beat"] f F) (B:Bl mg) (b:ExcC P w K mg base "TooLong" C_TooLong ["tasks","length"]) (a:Cal P w K mg base 4 "groups_of" (top 9) ["works"] W9) (d:Cal P w K mg base 1 "load_of" (top 26) ["works","tasks"] Wf):CalX P w K mg base 5 "check_groups" (top 42) ["works","beat"] (W0 C_TooLong):=by
 refine⟨f,F,g,?_⟩;refine fnX g.fn sc_check_groups (fun ts H Q E h=>?_) (fun I A outer s H E ts H3 Q J u h G=>?_)
 ·obtain⟨W,beat,rfl,_⟩:=h;rfl
 obtain⟨W,beat,rfl,q,D,z⟩:=h;refine⟨_,(aA (bc PassesOwn.leaving rfl (bJ (aU a u rfl (aa (v3 0) ao))) (aD (i:=2) sc_check_groups.nd) (ak (aG (i:=3) sc_check_groups.nd (aU d u rfl (aa (v3 0) (aa (v3 2) ao))))
    (aA (bA (aV rZ (v3 3) (v3 1)) (aA (z6 b G (u.mono (by decide)) rfl rfl (aa (v3 2) (aa (v3 3) ao)))) aR))))),?_⟩
 rw[show aQ iu [W.enc,T.int beat]=[some (W.enc),some (T.int beat),none,none] from rfl];walk_at "h";have n:=Box.mk D;have p:=Box.mk z;clear D z;have L:=yO q;walk_at "";refine⟨W,rfl,q,?_⟩;try dsimp only
 refine aW sT (cP W) (fun A t H=>∃(m v3:Option T),t=[some W.enc,some (.int beat),m,v3]/\H=H3/\∀x∈A,¬beat<aX W.tasks x) ⟨_,_,rfl,rfl,(fun _ h=>nomatch h)⟩ ?_ ?_
 ·rintro t H ⟨m,v3,rfl,rfl,j⟩;exact⟨trivial,Fin3.of Sub3.refl (n.out (ni j))⟩
 rintro A g B t H N e ⟨m,v3,rfl,rfl,j⟩ y;walk_at "t";have C:=J4 W.tasks g;have l:Box (¬beat<aX W.tasks g->∀m v3,N [some W.enc,some (.int beat),m,v3] H):=⟨fun r m v3=>y _ _ ⟨_,_,rfl,rfl,fun x o=>by
  rcases v_.mp o with o | o
  ·
   exact j x o
  ·
   rw[i_.mp o];exact r⟩⟩
 have v:Box (beat<aX W.tasks g->J C_TooLong (fsT W g) H):=⟨fun r=>p.out g (Gy e j r)⟩;clear y e n p j;walk_at "";refine⟨W,g,rfl,q.t8,?_⟩;rw[C];clear C;walk_at "";by_cases c:beat<aX W.tasks g
 ·have k:=Box.mk (v.out c);clear v l;simp only[c,ZG,if_true];try walk_at ""
  exact⟨trivial,H,Sub3.refl,k.out⟩
 have k:=Box.mk (l.out c);clear v l;simp only[c,Ze,C_,YG];exact k.out _ _
abbrev eX:List Str:=["works","tasks"]
def wN:FnScope eX eX (aC (top 26)):=bf
def wO {f:Addr} (g:G3 K mg "load_of" (top 26) eX f j) (B:Bl mg):Cal P w K mg base 1 "load_of" (top 26) eX Wf:=by
 refine⟨f,j,g,?_⟩;refine fn3 g.fn wN (fun ts H Q h=>?_) (fun r A outer s H E ts H3 Q q h=>?_)
 ·obtain⟨W,ns,rfl,_⟩:=h;rfl
 have a:=Room.u31 q;obtain⟨⟨tk,b,prs,c⟩,ns,rfl,l,k⟩:=h;refine⟨_,(aA (aN (aM (vD rfl) rfl B.sum_ vG (aa (bO rfl (bN (n0:=(aC (top 26)).names) (N:=eX) (N':=["name","length","kinds","tasks"]) (nt:=3) (cap:=[1]) rfl rfl (by decide +kernel)) (bJ (aK ix3 (v3 0) aq)) (fun C m s H z y=>⟨(cg (n:=3) rfl (aJ (aD (i:=0) (show List.Nodup [("name":Str),("length":Str),("kinds":Str),("tasks":Str)] by decide +kernel)) (aJ (aD (i:=1) (show List.Nodup [("name":Str),("length":Str),("kinds":Str),("tasks":Str)] by decide +kernel)) (aJ (aD (i:=2) (show List.Nodup [("name":Str),("length":Str),("kinds":Str),("tasks":Str)] by decide +kernel)) bH)))),(dZ (aV (jw a) (v3 0) (v3 3) rfl)),(v3 1)⟩)) ao)))),?_⟩;rw[show aQ eX [Wk.enc ⟨tk,b,prs,c⟩,T.tup (ns.map T.str)]=[some (T.tup [T.tup (tk.map tkT),T.tup (b.map orT),T.tup (prs.map prT),T.tup (c.map T.str)]),some (T.tup (ns.map T.str))] from rfl];walk_at "h";have o:Q (.int (ld tk ns)) H3:=k;clear k;replace l:tk.length<=8:=l;walk_at "";walk_at "c";refine Ds (fun t:Str × Int × List Str=>.str t.1) (fun t=>.int t.2.1) (fun t=>.tup (t.2.2.map T.str)) (fun t=>.int t.2.1) (fun t=>dj false (.str t.1) (ns.map T.str)) tk [some (.tup (ns.map T.str))] trivial (by omega) (fun t v u d=>?_) (fun t v _ u d=>d) ?_
 ·clear o;walk_at "";exact⟨rfl,cW ns,by first | trivial | exact d⟩
 intro p x;have e:ints3 ((tk.filter (fun t=>dj false (.str t.1) (ns.map T.str))).map (fun t=>T.int t.2.1))=some ((tk.filter (fun t=>dj false (.str t.1) (ns.map T.str))).map (·.2.1)):=by rw[<- dW,YC];rfl
 rw[e,fG];exact Fin3.of (Sub3.new x) o
abbrev pK:List Str:=["links","start","found","grown","one","other"]
def sc_reached:FnScope pK ["links","start"] (aC (top 3)):=bf
def wQ {f:Addr} (g:G3 K mg "reached" (top 3) ["links","start"] f fd) (B:Bl mg):Cal P w K mg base 1 "reached" (top 3) ["links","start"] SM:=by
 refine⟨f,fd,g,?_⟩;refine fn3 g.fn sc_reached (fun ts H Q h=>?_) (fun cdv A outer s H E ts H3 Q hr h=>?_)
 ·obtain⟨x,L,s,rfl,_⟩:=h;rfl
 have O:=Room.u1 hr;obtain⟨x,L,t,rfl,hx,hL,k⟩:=h;refine⟨_,(ak (aG (i:=2) sc_reached.nd (CJ (v3 1) dH))
   (ak (aG (i:=3) sc_reached.nd dH)
   (ak (ju F_ (cI (v3 3)) (ak (aG (i:=3) sc_reached.nd dH)
    (aA (bc F_ rfl (Jg 0) (cg (n:=2) rfl (aJ (aD (i:=4) sc_reached.nd) (aJ (aD (i:=5) sc_reached.nd) bH))) (aA (bA (PW3.pt (gY (mK O (v3 4) (v3 2)) (fK (o7 O (v3 5) (v3 2))))) (ak (jA O (v3 2) (v3 5) dH)
      (aA (aG (i:=3) sc_reached.nd dH))) aR))))))
   (aA (aN (v3 2)))))),?_⟩
 rw[show aQ pK [x,T.str t]=[some (x),some (T.str t),none,none,none,none] from rfl];walk_at "h";walk_at "";intro p hp;walk_at "t";rw[Rr];refine⟨fun m R H=>∃(F:List Str) (g:Bool) (I G:Option T),R=[some x,some (.str t),some (.ref p),some (.bl g),I,G]/\H=up3 H3 p (.dct (dF F))/\t∈F/\F.Nodup/\(∀z∈F,RT (fun a b=>(a,b)∈L) t z)/\(g=false->∀a b,(a,b)∈L->a∈F->b∈F)/\m=2*(L.length+1 - F.length)+(if g then 1 else 0),
  ⟨_,[t],true,none,none,rfl,rfl,k_,by simp,(fun z J=>by rw[i_.mp J];exact .refl),(fun z=>nomatch z),rfl⟩,?_⟩
 have d:∀F:List Str,F.Nodup->(∀z∈F,RT (fun a b=>(a,b)∈L) t z)->F.length<=L.length+1:=fun F Z hF=>by
  have:=qN (l:=F) (m:=t::L.map (·.2)) Z fun z J=>by
   cases hF z J with
   |refl=>exact k_
   |step _ r=>exact q_ _ (z_.mpr ⟨_,r,rfl⟩)
  simpa using this
 rintro m R H ⟨F,g,I,G,rfl,rfl,hs,Z,hR,hg,rfl⟩;walk_at "";cases g with
 |false=>simp only[C_,YG];refine Fin3.of Sub3.refl (k p _ hp fun z=>?_);rw[lN,m_];exact⟨hR z,fun h=>Wc hs (hg rfl) h⟩
 |true =>
  try simp only[if_true]
  have W:(∃a,x=.ref a/\up3 H3 p (.dct (dF F)) a=some (.lst (L.map orT)))\/x=.tup (L.map orT):=by
   rcases hx with ⟨a,rfl,e⟩ | e
   ·
    exact .inl ⟨a,rfl,by rw[aF (bz e hp)];exact e⟩
   ·
    exact .inr e
  refine Fv W fun still V=>?_
  have v:∀c,still (up3 H3 p (.dct (dF c))):=by
   rcases V with rfl | ⟨a,rfl,e⟩
   ·
    exact fun _=>trivial
   ·
    have Y:a≠p:=fun z=>by subst z;rw[au] at e;cases e
    rw[aF Y] at e
    exact fun c=>.inl (by rw[aF Y];exact e)
  refine aW orT L (fun A R H=>∃(c:List Str) (g':Bool) (I G:Option T),R=[some x,some (.str t),some (.ref p),some (.bl g'),I,G]/\H=up3 H3 p (.dct (dF c))/\t∈c/\c.Nodup/\(∀z∈c,RT (fun a b=>(a,b)∈L) t z)/\(g'=false->c=F/\∀o∈A,o.1∈F->o.2∈F)/\(g'=true->F.length<c.length)) ⟨F,false,I,G,rfl,rfl,hs,Z,hR,fun _=>⟨rfl,(fun _ h=>nomatch h)⟩,(fun z=>nomatch z)⟩ ?_ ?_
  ·
   rintro R H ⟨c,g',I,G,rfl,rfl,u,q,j,X,U⟩
   refine⟨v c,?_⟩
   have b1:=d F Z hR
   have b2:=d c q j
   cases g' with
   |true =>
    have:=U rfl
    exact⟨_,by simp only[if_true];omega,c,true,I,G,rfl,rfl,u,q,j,(fun z=>nomatch z),rfl⟩
   |false =>
    obtain⟨e,hc⟩:=X rfl
    subst e
    exact⟨_,by simp,c,false,I,G,rfl,rfl,u,q,j,fun _ a b D y=>hc (a,b) D y,rfl⟩
  ·
   rintro A ⟨a,b⟩ B R H N e ⟨c,g',I,G,rfl,rfl,u,q,j,X,U⟩ hN
   refine⟨v c,?_⟩
   have D:(a,b)∈L:=by rw[e];simp
   have b2:=d c q j
   have l1:=lN a c
   have l2:=lN b c
   have l3:=Rq c
   have no:¬(a∈c/\b∉c)->N [some x,some (.str t),some (.ref p),some (.bl g'),some (.str a),some (.str b)] (up3 H3 p (.dct (dF c))):=fun hno=>hN _ _ ⟨c,g',_,_,rfl,rfl,u,q,j,fun hg'=>by
    obtain⟨e1,hc⟩:=X hg'
    subst e1
    refine⟨rfl,fun o S=>?_⟩
    rcases v_.mp S with S | S
    ·
     exact hc o S
    ·
     rw[i_.mp S]
     intro y
     exact Classical.byContradiction fun C=>hno ⟨y,C⟩,U⟩
   have M:a∈c->b∉c->N [some x,some (.str t),some (.ref p),some (.bl true),some (.str a),some (.str b)] (up3 H3 p (.dct (put3 b (T.bl true) (dF c)))):=fun y C=>by
    rw[Rp C]
    refine hN _ _ ⟨c++[b],true,_,_,rfl,rfl,T_ _ u,fJ q C,fun z J=>?_,(fun z=>nomatch z),fun _=>?_⟩
    ·
     rcases v_.mp J with J | J
     ·
      exact j z J
     ·
      rw[i_.mp J]
      exact .step (j a y) D
    ·
     rw[d_,A_]
     cases g' with
     |true=>have:=U rfl;omega
     |false=>obtain⟨e1,_⟩:=X rfl;subst e1;omega
   replace no:=Box.mk no
   replace M:=Box.mk M
   clear hN X U v V d k hx W hg hR j Z q hs u e D
   simp only[orT]
   walk_at ""
   walk_at "t"
   by_cases y:a∈c
   ·
    simp only[y,ZG,if_true]
    by_cases C:b∈c
    ·
     simp only[C,ZG,aah,C_,YG]
     exact no.out fun z=>z.2 C
    ·
     simp only[C,Ze,Z9,if_true]
     exact⟨by omega,M.out y C⟩
   ·
    simp only[y,Ze,C_,YG]
    exact no.out fun z=>y z.1
abbrev iw:List Str:=["works","task"]
def Ah:FnScope iw iw (aC (top 4)):=bf
def Ai {f:Addr} (g:G3 K mg "led_to" (top 4) iw f l) (B:Bl mg) (c:Cal P w K mg base 1 "reached" (top 3) ["links","start"] SM) (b:Cal P w K mg base 1 "links_of" (top 2) ["works"] SJ):Cal P w K mg base 2 "led_to" (top 4) iw SN:=by
 refine⟨f,l,g,?_⟩;refine fn3 g.fn Ah (fun ts H Q h=>?_) (fun m A outer s H E ts H3 Q i h=>?_)
 ·obtain⟨W,t,rfl,_⟩:=h;rfl
 obtain⟨W,t,rfl,j,k⟩:=h;refine⟨_,(aA (aN (aU c i rfl (aa (aU b i rfl (aa (v3 0) ao)) (aa (v3 1) ao))))),?_⟩;rw[show aQ iw [W.enc,T.str t]=[some (W.enc),some (T.str t)] from rfl];walk_at "";refine⟨W,rfl,j,fun q r=>?_⟩;try dsimp only
 refine⟨_,lkW ["with"] W,t,rfl,.inl ⟨q,rfl,au⟩,Q_ (yt j) (by decide),fun p kvs d n=>?_⟩;obtain⟨u,d⟩:=cL d;refine Fin3.of (fun a o e=>?_) (k p kvs d n);by_cases h:a=p
 ·subst h;rw[au] at e ⊢;exact e
 rw[aF h] at e ⊢;rw[aF (bz e r)];exact e
abbrev dY:List Str:=["works","task"]
def uF:FnScope dY dY (aC (top 5)):=bf
def uG {f:Addr} (g:G3 K mg "led_from" (top 5) dY f I) (B:Bl mg) (d:Cal P w K mg base 1 "reached" (top 3) ["links","start"] SM) (c:Cal P w K mg base 1 "links_of" (top 2) ["works"] SJ):Cal P w K mg base 2 "led_from" (top 5) dY SQ:=by
 refine⟨f,I,g,?_⟩;refine fn3 g.fn uF (fun ts H Q h=>?_) (fun L A outer s H E ts H3 Q m h=>?_)
 ·obtain⟨W,t,rfl,_⟩:=h;rfl
 obtain⟨W,t,rfl,F,k⟩:=h;refine⟨_,(aA (aN (aU d m rfl (aa (bO rfl (bN (n0:=(aC (top 5)).names) (N:=dY) (N':=["one","other"]) (nt:=2) (cap:=[]) rfl rfl (by decide +kernel)) (bV (aU c m rfl (aa (v3 0) ao))) (fun Y G s H V R=>⟨(cg (n:=2) rfl (aJ (aD (i:=0) (show List.Nodup [("one":Str),("other":Str)] by decide +kernel)) (aJ (aD (i:=1) (show List.Nodup [("one":Str),("other":Str)] by decide +kernel)) bH))),cB,(bG (aa (v3 1) (aa (v3 0) ao)))⟩)) (aa (v3 1) ao))))),?_⟩;rw[show aQ dY [W.enc,T.str t]=[some (W.enc),some (T.str t)] from rfl];walk_at "h";have U:=yt (ws:=["with"]) F;walk_at "";refine⟨W,rfl,F,fun q M=>?_⟩;try dsimp only
 rw[LQ,au,xY];walk_at "c";refine eV orT (lkW ["with"] W) (fun A u C H=>H=up3 H3 q (.lst ((lkW ["with"] W).map orT))/\u=(A.map swp).map orT/\∃x y:Option T,C=[x,y]) ⟨rfl,rfl,none,none,rfl⟩ ?_ ?_
 ·rintro u C H ⟨rfl,rfl,x,y,rfl⟩;refine⟨.inl au,by rw[e_,e_];omega,fun r m=>?_⟩;obtain⟨n0,v⟩:=cL m;refine⟨_,(lkW ["with"] W).map swp,t,rfl,.inl ⟨r,rfl,au⟩,by rw[e_];omega,fun p kvs l J=>?_⟩;obtain⟨X,l⟩:=cL l;obtain⟨O,l⟩:=cL l;refine Fin3.of (fun a o e=>?_) (k p kvs l fun z=>(J z).trans Rt);by_cases h:a=p
  ·subst h;rw[au] at e ⊢;exact e
  rw[aF h] at e ⊢;rw[aF (bz e v),aF (bz e M)];exact e
 rintro A ⟨a,b⟩ B u C H N e ⟨rfl,rfl,x,y,rfl⟩ D;have S:A.length<=52:=by have:=W_ List.length e;simp only[d_,j_] at this;omega
 refine⟨.inl au,?_⟩;have j:=D (((A.map swp).map orT)++[orT (b,a)]) [some (.str a),some (.str b)] _ ⟨rfl,by rw[x_,x_];rfl,_,_,rfl⟩;replace j:=Box.mk j;clear D k e;simp only[orT] at j ⊢;walk_at "";exact⟨trivial,by omega,by omega,j.out⟩
abbrev eY:List Str:=["works","found","other"]
def wR:FnScope eY eY (aC (top 6)):=bf
def wU {f:Addr} (g:G3 K mg "in_both" (top 6) eY f q) (B:Bl mg):Cal P w K mg base 1 "in_both" (top 6) eY W7:=by
 refine⟨f,q,g,?_⟩;refine fn3 g.fn wR (fun ts H Q h=>?_) (fun u A outer s H E ts H3 Q D h=>?_)
 ·obtain⟨W,a,b,m,d,rfl,_⟩:=h;rfl
 have j:=Room.u1 D;obtain⟨⟨tk,l,prs,c⟩,a,b,m,d,rfl,y,O,M,k⟩:=h;refine⟨_,(aA (aN (bM cY rfl B.tuple_ cj (aa (bO rfl (bN (n0:=(aC (top 6)).names) (N:=eY) (N':=["task","found","other"]) (nt:=1) (cap:=[1,2]) rfl rfl (by decide +kernel)) (bJ (aK ix3 (v3 0) aq)) (fun S o s H R J=>⟨(aD (i:=0) (show List.Nodup [("task":Str),("found":Str),("other":Str)] by decide +kernel)),(dZ (PW3.pt (gY (mK j (aK ix3 (v3 0) aq) (v3 1)) (fK (mK j (aK ix3 (v3 0) aq) (v3 2)))))),(aK ix3 (v3 0) aq)⟩)) ao)))),?_⟩;rw[show aQ eY [Wk.enc ⟨tk,l,prs,c⟩,T.ref a,T.ref b]=[some (T.tup [T.tup (tk.map tkT),T.tup (l.map orT),T.tup (prs.map prT),T.tup (c.map T.str)]),some (T.ref a),some (T.ref b)] from rfl];walk_at "h";have U:tk.length<=8:=y.t8;walk_at "";walk_at "c";refine fC tkT (fun t=>T.str t.1) (fun t=>(aP t.1 m).isSome&&(aP t.1 d).isSome) tk [some (.ref a),some (.ref b)] trivial (by omega) (fun t v r n=>?_) (fun t v F r n=>?_) (fun p C=>?_)
 ·obtain⟨nm,z,L⟩:=t;simp only[tkT];dsimp only at n;cases G:(aP nm m).isSome <;> cases I:(aP nm d).isSome <;> simp only[G,I,Bool.and_true,Bool.and_false,aah,Z9,aaX,aa5] at n <;> walk_at ""
 ·simp only[tkT];walk_at "";try exact n
 walk_at "";refine Fin3.of (Sub3.new C) ?_;have e:(tk.filter fun t=>(aP t.1 m).isSome&&(aP t.1 d).isSome).map (fun t=>T.str t.1)=((tk.map (·.1)).filter fun x=>(aP x m).isSome&&(aP x d).isSome).map T.str:=by rw[List.filter_map,YC];rfl
 rw[e];exact k
abbrev dB:List Str:=["works","task"]
def uH:FnScope dB dB (aC (top 8)):=bf
def uI {f:Addr} (g:G3 K mg "group_of" (top 8) dB f r) (B:Bl mg) (c:Cal P w K mg base 1 "in_both" (top 6) ["works","found","other"] W7) (d:Cal P w K mg base 2 "led_to" (top 4) dB SN) (b:Cal P w K mg base 2 "led_from" (top 5) dB SQ):Cal P w K mg base 3 "group_of" (top 8) dB S5:=by
 refine⟨f,r,g,?_⟩;refine fn3 g.fn uH (fun ts H Q h=>?_) (fun y A outer s H E ts H3 Q i h=>?_)
 ·obtain⟨W,t,rfl,_⟩:=h;rfl
 obtain⟨W,t,rfl,n,k⟩:=h;refine⟨_,(aA (aN (aU c i rfl (aa (v3 0) (aa (aU d i rfl (aa (v3 0) (aa (v3 1) ao))) (aa (aU b i rfl (aa (v3 0) (aa (v3 1) ao))) ao)))))),?_⟩;rw[show aQ dB [W.enc,T.str t]=[some (W.enc),some (T.str t)] from rfl];walk_at "";refine⟨W,t,rfl,n,fun p v D j=>?_⟩;try dsimp only
 refine⟨W,t,rfl,n,fun q u z l=>?_⟩;obtain⟨C,m⟩:=cL z;try dsimp only
 refine⟨W,p,q,v,u,rfl,n,by rw[aF (Ne.symm C)];exact au,au,?_⟩;refine Fin3.of (fun a o e=>by rw[aF (bz e m),aF (bz e D)];exact e) ?_;rw[show (W.tasks.map (·.1)).filter (fun x=>(aP x v).isSome&&(aP x u).isSome)=bu W t from ?_]
 ·exact k
 unfold bu;refine Zb fun x F=>?_;rw[YH,YD,@m_ _ (Classical.propDecidable _),j x,l x]
abbrev bZ:List Str:=["works","found","other"]
def jN:FnScope bZ bZ (aC (top 7)):=bf
def jO {f:Addr} (g:G3 K mg "in_first_alone" (top 7) bZ f q) (B:Bl mg):Cal P w K mg base 1 "in_first_alone" (top 7) bZ W8:=by
 refine⟨f,q,g,?_⟩;refine fn3 g.fn jN (fun ts H Q h=>?_) (fun u A outer s H E ts H3 Q D h=>?_)
 ·obtain⟨W,a,b,m,d,rfl,_⟩:=h;rfl
 have j:=Room.u1 D;obtain⟨⟨tk,l,prs,c⟩,a,b,m,d,rfl,y,O,M,k⟩:=h;refine⟨_,(aA (aN (bM cY rfl B.tuple_ cj (aa (bO rfl (bN (n0:=(aC (top 7)).names) (N:=bZ) (N':=["task","found","other"]) (nt:=1) (cap:=[1,2]) rfl rfl (by decide +kernel)) (bJ (aK ix3 (v3 0) aq)) (fun S o s H R J=>⟨(aD (i:=0) (show List.Nodup [("task":Str),("found":Str),("other":Str)] by decide +kernel)),(dZ (PW3.pt (gY (mK j (aK ix3 (v3 0) aq) (v3 1)) (fK (o7 j (aK ix3 (v3 0) aq) (v3 2)))))),(aK ix3 (v3 0) aq)⟩)) ao)))),?_⟩;rw[show aQ bZ [Wk.enc ⟨tk,l,prs,c⟩,T.ref a,T.ref b]=[some (T.tup [T.tup (tk.map tkT),T.tup (l.map orT),T.tup (prs.map prT),T.tup (c.map T.str)]),some (T.ref a),some (T.ref b)] from rfl];walk_at "h";have U:tk.length<=8:=y.t8;walk_at "";walk_at "c";refine fC tkT (fun t=>T.str t.1) (fun t=>(aP t.1 m).isSome&&!(aP t.1 d).isSome) tk [some (.ref a),some (.ref b)] trivial (by omega) (fun t v r n=>?_) (fun t v F r n=>?_) (fun p C=>?_)
 ·obtain⟨nm,z,L⟩:=t;simp only[tkT];dsimp only at n;cases G:(aP nm m).isSome <;> cases I:(aP nm d).isSome <;> simp only[G,I,Bool.and_true,Bool.and_false,aah,Z9,aaX,aa5] at n <;> walk_at ""
 ·simp only[tkT];walk_at "";try exact n
 walk_at "";refine Fin3.of (Sub3.new C) ?_;have e:(tk.filter fun t=>(aP t.1 m).isSome&&!(aP t.1 d).isSome).map (fun t=>T.str t.1)=((tk.map (·.1)).filter fun x=>(aP x m).isSome&&!(aP x d).isSome).map T.str:=by rw[List.filter_map,YC];rfl
 rw[e];exact k
abbrev dC:List Str:=["works","task"]
def uJ:FnScope dC dC (aC (top 10)):=bf
def uK {f:Addr} (g:G3 K mg "ahead_of" (top 10) dC f r) (B:Bl mg) (b:Cal P w K mg base 1 "in_first_alone" (top 7) ["works","found","other"] W8) (c:Cal P w K mg base 2 "led_from" (top 5) dC SQ) (d:Cal P w K mg base 2 "led_to" (top 4) dC SN):Cal P w K mg base 3 "ahead_of" (top 10) dC Xa:=by
 refine⟨f,r,g,?_⟩;refine fn3 g.fn uJ (fun ts H Q h=>?_) (fun y A outer s H E ts H3 Q i h=>?_)
 ·obtain⟨W,t,rfl,_⟩:=h;rfl
 obtain⟨W,t,rfl,n,k⟩:=h;refine⟨_,(aA (aN (aU b i rfl (aa (v3 0) (aa (aU c i rfl (aa (v3 0) (aa (v3 1) ao))) (aa (aU d i rfl (aa (v3 0) (aa (v3 1) ao))) ao)))))),?_⟩;rw[show aQ dC [W.enc,T.str t]=[some (W.enc),some (T.str t)] from rfl];walk_at "";refine⟨W,t,rfl,n,fun p v D j=>?_⟩;try dsimp only
 refine⟨W,t,rfl,n,fun q u z l=>?_⟩;obtain⟨C,m⟩:=cL z;try dsimp only
 refine⟨W,p,q,v,u,rfl,n,by rw[aF (Ne.symm C)];exact au,au,?_⟩;refine Fin3.of (fun a o e=>by rw[aF (bz e m),aF (bz e D)];exact e) ?_;rw[show (W.tasks.map (·.1)).filter (fun x=>(aP x v).isSome&&!(aP x u).isSome)=jm W t from ?_]
 ·exact k
 unfold jm;refine Zb fun x F=>?_;rw[YH,YD,@m_ _ (Classical.propDecidable _),j x,aaP,<- Bool.not_eq_true,l x]
abbrev lr:List Str:=["works","groups","task","group"]
def sc_groups_of:FnScope lr ["works"] (aC (top 9)):=bf
def qZ {f:Addr} (g:G3 K mg "groups_of" (top 9) ["works"] f G) (B:Bl mg) (d:Cal P w K mg base 3 "group_of" (top 8) ["works","task"] S5):Cal P w K mg base 4 "groups_of" (top 9) ["works"] W9:=by
 refine⟨f,G,g,?_⟩;refine fn3 g.fn sc_groups_of (fun ts H Q h=>?_) (fun I A outer s H E ts H3 Q F h=>?_)
 ·obtain⟨W,rfl,_⟩:=h;rfl
 have l:=Room.u30 F;obtain⟨⟨tk,b,prs,a⟩,rfl,C,k⟩:=h;refine⟨_,(ak (aG (i:=1) sc_groups_of.nd (bx ao))
   (ak (bc F_ rfl (bJ (aK ix3 (v3 0) aq)) (aD (i:=2) sc_groups_of.nd) (ak (aG (i:=3) sc_groups_of.nd (aU d F rfl (aa (v3 0) (aa (aK ix3 (v3 2) aq) ao))))
    (aA (bA (aV (dh l) (aK ix3 (v3 3) aq) (aK ix3 (v3 2) aq)) (aA (bC (dm E_ M_ N_ bj (v3 1) (aa (v3 3) ao)))) aR))))
   (aA (aN (bM cY rfl B.tuple_ cj (aa (v3 1) ao)))))),?_⟩
 rw[show aQ lr [Wk.enc ⟨tk,b,prs,a⟩]=[some (T.tup [T.tup (tk.map tkT),T.tup (b.map orT),T.tup (prs.map prT),T.tup (a.map T.str)]),none,none,none] from rfl];walk_at "h";have S:tk.length<=8:=C.t8;walk_at "";refine⟨by omega,fun p M=>?_⟩;refine aW tkT tk (fun A u H=>∃(j v3:Option T),u=[some (T.tup [T.tup (tk.map tkT),T.tup (b.map orT),T.tup (prs.map prT),T.tup (a.map T.str)]),some (.ref p),j,v3]/\H=up3 H3 p (.lst ((((A.map (·.1)).filter fun t=>decide ((bu ⟨tk,b,prs,a⟩ t).head?=some t)).map (bu ⟨tk,b,prs,a⟩)).map sT))) ⟨none,none,rfl,rfl⟩ ?_ ?_
 ·rintro u H ⟨j,v3,rfl,rfl⟩;walk_at "t";walk_at "";exact Fin3.of (Sub3.new M) k
 rintro A ⟨nm,L,R⟩ B u H N e ⟨j,v3,rfl,rfl⟩ v;have J:A.length<=8:=by have:=W_ List.length e;simp only[d_,j_] at this;omega
 have D:nm∈(⟨tk,b,prs,a⟩:Wk).tasks.map (·.1):=by show nm∈tk.map (·.1);rw[e];simp
 have q:=jZ D;have m:(((A.map (·.1)).filter fun t=>decide ((bu ⟨tk,b,prs,a⟩ t).head?=some t)).map (bu ⟨tk,b,prs,a⟩)).length<=8:=by rw[e_];exact Q_ (Yy _ _) (by rw[e_];exact J)
 have c:∀j v3,N [some (T.tup [T.tup (tk.map tkT),T.tup (b.map orT),T.tup (prs.map prT),T.tup (a.map T.str)]),some (.ref p),j,v3] (up3 H3 p (.lst ((((A.map (·.1)).filter fun t=>decide ((bu ⟨tk,b,prs,a⟩ t).head?=some t)).map (bu ⟨tk,b,prs,a⟩)).map sT++(if (bu ⟨tk,b,prs,a⟩ nm).head?=some nm then [sT (bu ⟨tk,b,prs,a⟩ nm)] else [])))):=fun j v3=>by
  refine v _ _ ⟨j,v3,rfl,?_⟩;rw[x_,Zf,x_,x_];by_cases h:(bu ⟨tk,b,prs,a⟩ nm).head?=some nm
  ·simp [h]
  simp [h]
 generalize (((A.map (·.1)).filter fun t=>decide ((bu ⟨tk,b,prs,a⟩ t).head?=some t)).map (bu ⟨tk,b,prs,a⟩))=O at c m;replace c:=Box.mk c;walk_at "t";clear v e k;simp only[tkT];walk_at "";refine⟨⟨tk,b,prs,a⟩,nm,rfl,C,?_⟩;cases x:bu ⟨tk,b,prs,a⟩ nm with
 |nil=>rw[x] at q;cases q
 |cons y r =>
 rw[x] at c;clear q D;simp only[sT,G_] at c ⊢;walk_at "";by_cases o:y=nm
 ·simp only[o,ZG,if_true,List.head?_cons] at c ⊢;exact⟨⟨trivial,trivial⟩,by omega,c.out _ _⟩
 have n:¬some y=some nm:=fun z=>o (O_ z);simp only[o,n,Ze,C_,YG,List.head?_cons,S_] at c ⊢;exact c.out _ _
abbrev j9:List Str:=["_law_works_here","_law_names","_law_led","_law_name","_law_one","_law_other","_law_word_here","_law_found","_law_waiting","_law_known","_law_here"]
def sc_chained:FnScope j9 ["_law_works_here"] (aC (top 58)):=bf
def wV {f:Addr} (g:G3 K mg "_law_chained" (top 58) ["_law_works_here"] f fd) (B:Bl mg):Cal P w K mg base 1 "_law_chained" (top 58) ["_law_works_here"] WX:=by
 refine⟨f,fd,g,?_⟩;refine fn3 g.fn sc_chained (fun ts H Q h=>?_) (fun cdv A outer s H E ts H3 Q hr h=>?_)
 ·obtain⟨W,rfl,_⟩:=h;rfl
 have hu30:=Room.u30 hr;have hu31:=Room.u31 hr;have V:=Room.u1 hr;obtain⟨W,rfl,hW,kk⟩:=h;refine⟨_,(ak (iD (i:=1) rfl sc_chained.nd (bN (n0:=(aC (top 58)).names) (N:=j9) (N':=["_law_task_here"]) (nt:=1) (cap:=[]) rfl rfl (by decide +kernel)) (bJ (aK ix3 (v3 0) aq)) (fun cl pins s H C0 fp=>⟨(aD (i:=0) (show List.Nodup [("_law_task_here":Str)] by decide +kernel)),cB,(aK ix3 (v3 0) aq)⟩))
   (ak (aG (i:=2) sc_chained.nd lH)
   (ak (bc F_ rfl (bV (v3 1)) (aD (i:=3) sc_chained.nd) (aA (jA V (v3 2) (v3 3) (bx ao))))
   (ak (bc F_ rfl (bJ (aK ix3 (v3 0) aq)) (cg (n:=2) rfl (aJ (aD (i:=4) sc_chained.nd) (aJ (aD (i:=5) sc_chained.nd) bH))) (aA (bC (dm E_ M_ N_ bj (cN V (v3 2) (v3 4)) (aa (v3 5) ao)))))
   (ak (bc F_ rfl (bJ (aK ix3 (v3 0) aq)) (cg (n:=3) rfl (aJ (aD (i:=6) sc_chained.nd) (aJ (aD (i:=4) sc_chained.nd) (aJ (aD (i:=5) sc_chained.nd) bH)))) (aA (bA (aV (dh hu30) (v3 6) cM) (ak (bC (dm E_ M_ N_ bj (cN V (v3 2) (v3 4)) (aa (v3 5) ao)))
     (aA (bC (dm E_ M_ N_ bj (cN V (v3 2) (v3 5)) (aa (v3 4) ao))))) aR)))
   (ak (aG (i:=7) sc_chained.nd lH)
   (ak (bc F_ rfl (bV (v3 1)) (aD (i:=3) sc_chained.nd) (ak (aG (i:=8) sc_chained.nd (bM qi rfl B.list_ lG (aa (cN V (v3 2) (v3 3)) ao)))
    (ak (aG (i:=9) sc_chained.nd (bx ao))
    (ak (ju F_ (aV (fX hu30) (v3 8) (bx ao)) (ak (aG (i:=10) sc_chained.nd (vW E_ PySem.F.slot_list_pop PySem.F.type_list_pop Ru (v3 8)))
     (aA (bA (aV (mH hu31) (v3 10) (v3 9) rfl) (ak (bC (dm E_ M_ N_ bj (v3 9) (aa (v3 10) ao)))
      (aA (bC (dm E_ PySem.F.slot_list_extend PySem.F.type_list_extend zF (v3 8) (aa (cN V (v3 2) (v3 10)) ao))))) aR))))
    (aA (jA V (v3 7) (v3 3) (v3 9)))))))
   (aA (aN (v3 7)))))))))),?_⟩
 rw[show aQ j9 [W.enc]=[some (W.enc),none,none,none,none,none,none,none,none,none,none] from rfl];walk_at "h";have k':=Box.mk kk;clear kk;have t8:=hW.t8;have o28:=hW.os;have p12:=hW.ps;have nl:(nm W).length=W.tasks.length:=dX W;have R:=Box.mk hW;clear hW;walk_at "s";walk_at "c";refine bI tkT (fun t=>T.str t.1) W.tasks [] trivial (by omega) ?c1 ?c2
 case c1 =>
  intro t ht Q' hq
  clear k'
  simp only[tkT]
  walk_at ""
  try exact hq
 intro Y hpn;have e1:W.tasks.map (fun t=>T.str t.1)=(nm W).map T.str:=by unfold nm;rw[YC];rfl
 rw[e1];have sb0:Sub3 H3 (up3 H3 Y (.lst ((nm W).map T.str))):=Sub3.new hpn;have gn0:up3 H3 Y (.lst ((nm W).map T.str)) Y=some (.lst ((nm W).map T.str)):=au;generalize up3 H3 Y (.lst ((nm W).map T.str))=H4 at sb0 gn0 ⊢;clear e1 hpn;walk_at "n";walk_at "s";intro O hpd;have l0:Ldg H4 (up3 H4 O (.dct [])) O [] (fun _=>0) (fun _=>[]):=⟨Sub3.new hpd,au,(fun _ h=>nomatch h),(fun _ h=>nomatch h),(fun _ h=>nomatch h),hpd⟩;generalize up3 H4 O (.dct [])=H5 at l0 ⊢;clear hpd;walk_at "n";refine aB fun R2 hR2=>?_;have gn5:=l0.sb _ _ gn0;walk_at "";refine aW T.str (nm W) (fun A G H=>∃(U:Str->Addr) (v3 S M J X I D c:Option T),G=[some W.enc,some (.ref Y),some (.ref O),v3,S,M,J,X,I,D,c]/\Ldg H4 H O A U (fun _=>[])) ⟨_,_,_,_,_,_,_,_,_,rfl,l0⟩ ?_ ?_;rotate_left
 ·rintro A n B G H N e ⟨U,v3,S,M,J,X,I,D,c,rfl,j⟩ hN;refine⟨.inl (j.sb _ _ gn0),?_⟩;have hnA:n∉A:=fun z=>by have:=R.out.nd;unfold nm at e;rw[e,Zq] at this;exact this.2.2 n z n k_ rfl
  have hAl:A.length<9:=by have:=W_ List.length e;rw[nl,d_,j_] at this;omega
  have dcg:=j.dc;have lgl:(dG U A).length=A.length:=e_ _;have k:=Box.mk hN;clear hN e k' hR2;walk_at "";refine⟨by decide,fun p hp=>?_⟩;have np:O≠p:=bz dcg hp;have l2:=(j.more (Sub3.new (o:=.lst []) hp)).put (K:=[]) hnA au (fun m u=>bz (j.at_ m u) hp) (cu j.sb hp);have g2:up3 H p (.lst []) O=some (.dct (dG U A)):=by rw[aF np];exact dcg
  walk_at "";refine⟨by omega,k.out _ _ ⟨atN n p U,_,_,_,_,_,_,_,_,rfl,?_⟩⟩;rw[show (fun _=>[]:Str->List Str)=atN n [] fun _=>[] from by funext m;unfold atN;split <;> rfl];exact l2
 rintro G H ⟨U,v3,S,M,J,X,I,D,c,rfl,j⟩;refine⟨.inl (j.sb _ _ gn0),?_⟩;clear l0 gn5;walk_at "n";refine aB fun R3 hR3=>?_;walk_at "";refine aW orT W.orders (fun A G H=>∃(L:Str->List Str) (v3 S M J X I D c:Option T),G=[some W.enc,some (.ref Y),some (.ref O),v3,S,M,J,X,I,D,c]/\Ldg H4 H O (nm W) U L/\(∀n x,x∈L n↔(n,x)∈A)/\∀n,(L n).length<=A.length) ⟨_,_,_,_,_,_,_,_,_,rfl,j,(fun n x=>by simp),fun n=>Y7 _⟩ ?_ ?_;rotate_left
 ·rintro A ⟨a,b⟩ B G H N e ⟨L,v3,S,M,J,X,I,D,c,rfl,j,hL,hl⟩ hN;walk_at "t";have hA:A.length<29:=by have:=W_ List.length e;rw[d_,j_] at this;omega
  have u:a≠b/\a∈nm W/\b∈nm W:=R.out.oo (a,b) (by rw[e];simp);have dcg:=j.dc;have lk:=gK (g:=U) u.2.1;have ga:=j.at_ a u.2.1;have hla:=hl a;have l2:=j.app u.2.1 b;have k:Box (N [some W.enc,some (.ref Y),some (.ref O),v3,some (.str a),some (.str b),J,X,I,D,c] (up3 H (U a) (.lst ((L a).map T.str++[T.str b])))):=⟨hN _ _ ⟨_,_,_,_,_,_,_,_,_,rfl,l2,fun n x=>by
   rw[v_,i_,ZQ,<- hL]
   unfold atN
   split
   ·
    rename_i z;subst z;rw[v_,i_];exact or_congr_right ⟨fun q=>⟨rfl,q⟩,fun q=>q.2⟩
   ·
    rename_i z;exact⟨.inl,fun q=>q.resolve_right fun q=>z q.1⟩,fun n=>by
   rw[d_,A_]
   have:=hl n
   unfold atN
   split
   ·
    rw[d_,A_];omega
   ·
    omega⟩⟩
  clear hN e k' hR3 hL hl l2 u;simp only[orT];walk_at "";exact⟨trivial,⟨trivial,trivial⟩,by omega,k.out⟩
 rintro G H ⟨L,v3,S,M,J,X,I,D,c,rfl,lg1,hL,hl⟩;walk_at "t";clear j;walk_at "n";refine aB fun R4 hR4=>?_;walk_at "";refine aW prT W.pairs (fun A G H=>∃(L:Str->List Str) (v3 S M J X I D c:Option T),G=[some W.enc,some (.ref Y),some (.ref O),v3,S,M,J,X,I,D,c]/\Ldg H4 H O (nm W) U L/\(∀n x,x∈L n↔(n,x)∈W.orders++A.flatMap (lkP ["with"]))/\∀n,(L n).length<=W.orders.length+2*A.length) ⟨_,_,_,_,_,_,_,_,_,rfl,lg1,(fun n x=>by rw[hL];simp),fun n=>by have:=hl n;simp;omega⟩ ?_ ?_;rotate_left
 ·rintro A ⟨wd,a,b⟩ B G H N e ⟨L,v3,S,M,J,X,I,D,c,rfl,j,hL,hl⟩ hN;walk_at "t";have hA:A.length<13:=by have:=W_ List.length e;rw[d_,j_] at this;omega
  have u:a≠b/\a∈nm W/\b∈nm W:=(R.out.pp (wd,a,b) (by rw[e];simp)).2;have dcg:=j.dc;have lk:=gK (g:=U) u.2.1;have lk2:=gK (g:=U) u.2.2;have ga:=j.at_ a u.2.1;have hla:=hl a;have hlb:=hl b;by_cases c1:wd="with"
  ·subst c1;have l2:=j.app u.2.1 b;have gb:=l2.at_ b u.2.2;rw[eO (Ne.symm u.1)] at gb;have dcg2:=l2.dc;have l3:=l2.app u.2.2 a;rw[eO (Ne.symm u.1)] at l3;have k:Box (N [some W.enc,some (.ref Y),some (.ref O),v3,some (.str a),some (.str b),some (.str "with"),X,I,D,c] (up3 (up3 H (U a) (.lst ((L a).map T.str++[T.str b]))) (U b) (.lst ((L b).map T.str++[T.str a])))):=⟨hN _ _ ⟨_,_,_,_,_,_,_,_,_,rfl,l3,fun n x=>by
    rw[List.flatMap_append,<- YW,v_,<- hL,List.flatMap_singleton,WW,ZQ,ZQ]
    unfold atN
    by_cases z:n=b
    ·
     subst z
     rw[if_pos rfl,v_,i_]
     exact or_congr_right ⟨fun q=>.inr ⟨rfl,q⟩,fun q=>q.elim (fun q=>absurd q.1.symm u.1) fun q=>q.2⟩
    ·
     rw[if_neg z]
     by_cases z2:n=a
     ·
      subst z2
      rw[if_pos rfl,v_,i_]
      exact or_congr_right ⟨fun q=>.inl ⟨rfl,q⟩,fun q=>q.elim (fun q=>q.2) fun q=>absurd q.1 z⟩
     ·
      rw[if_neg z2]
      exact⟨.inl,fun q=>q.resolve_right fun q=>q.elim (fun q=>z2 q.1) fun q=>z q.1⟩,fun n=>by
    rw[d_,A_]
    have:=hl n
    unfold atN
    split
    ·
     rw[d_,A_];omega
    ·
     split
     ·
      rw[d_,A_];omega
     ·
      omega⟩⟩
   clear hN e k' hR4 hL hl l2 l3 u j;simp only[prT];walk_at "";exact⟨trivial,⟨trivial,trivial⟩,by omega,⟨trivial,trivial⟩,by omega,k.out⟩
  have k:Box (N [some W.enc,some (.ref Y),some (.ref O),v3,some (.str a),some (.str b),some (.str wd),X,I,D,c] H):=⟨hN _ _ ⟨_,_,_,_,_,_,_,_,_,rfl,j,fun n x=>by
   rw[List.flatMap_append,<- YW,v_,<- hL,List.flatMap_singleton]
   unfold lkP
   rw[if_neg (by simpa using c1)]
   simp,fun n=>by
   rw[d_,A_]
   have:=hl n
   omega⟩⟩
  clear hN e k' hR4 hL hl u j;simp only[prT];walk_at "";try simp only[c1,Ze,C_,YG]
  exact⟨trivial,k.out⟩
 rintro G Hx ⟨L,v3,S,M,J,X,I,D,c,rfl,j,hL2,hl2⟩;walk_at "t";clear lg1 hL hl;have Z:Box (∀n x,x∈L n↔lkR ["with"] W n x):=⟨hL2⟩;have hLl:∀n,(L n).length<=52:=fun n=>by have:=hl2 n;omega
 clear hL2 hl2;walk_at "n";walk_at "s";intro pf hpf;have l0:Ldg Hx (up3 Hx pf (.dct [])) pf [] (fun _=>0) (fun _=>[]):=⟨Sub3.new hpf,au,(fun _ h=>nomatch h),(fun _ h=>nomatch h),(fun _ h=>nomatch h),hpf⟩;generalize up3 Hx pf (.dct [])=H6 at l0 ⊢;clear hpf;have gnx:=j.sb _ _ gn0;have dcx:=j.dc;have atx:=Box.mk j.at_;have sbx:=(sb0.trans j.sb);clear j gn0 sb0;walk_at "n";refine aB fun R6 hR6=>?_;have gn6:=l0.sb _ _ gnx;walk_at "";refine aW T.str (nm W) (fun A G H=>∃(kd:Str->Addr) (K:Str->List Str) (v3 S M J I D c:Option T),G=[some W.enc,some (.ref Y),some (.ref O),v3,S,M,J,some (.ref pf),I,D,c]/\Ldg Hx H pf A kd K/\∀n∈A,∀x,x∈K n↔Ld1 W n x) ⟨_,_,_,_,_,_,_,_,_,rfl,l0,(fun _ h=>nomatch h)⟩ ?_ ?_
 ·rintro G H ⟨kd,K2,v3,S,M,J,I,D,c,rfl,l,hK⟩;refine⟨.inl (l.sb _ _ gnx),?_⟩;have fin:=Box.mk (k'.out H pf kd K2 (sbx.trans l.sb) l.dc l.at_ hK);clear k' l hK;walk_at "n";walk_at "";exact Fin3.of Sub3.refl fin.out
 rintro A t B G Hb N e ⟨kd,K2,v3,S,M,J,I,D,c,rfl,l,hK⟩ hN;refine⟨.inl (l.sb _ _ gnx),?_⟩;have ht:t∈nm W:=by rw[e];simp
 have hnA:t∉A:=fun z=>by have:=R.out.nd;unfold nm at e;rw[e,Zq] at this;exact this.2.2 t z t k_ rfl
 have hAl:A.length<9:=by have:=W_ List.length e;rw[nl,d_,j_] at this;omega
 have gd:=l.sb _ _ dcx;have lk:=gK (g:=U) ht;have ga:=l.sb _ _ (atx.out t ht);have lt:=hLl t;have k:Box (∀(H2:Hp3) (d:List Str) (C pk:Addr) (c:Option T),Sub3 Hb H2->Hb pk=none->H2 pk=some (.lst (d.map T.str))->(∀x,x∈d↔Ld1 W t x)->N [some W.enc,some (.ref Y),some (.ref O),some (.str t),S,M,J,some (.ref pf),some (.ref C),some (.ref pk),c] (up3 H2 pf (.dct (put3 t (T.ref pk) (dG kd A))))):=⟨fun H2 d C pk c s2 hk gk hks=>hN _ _ ⟨atN t pk kd,atN t d K2,_,_,_,_,_,_,_,rfl,(l.more s2).put hnA gk (fun m u=>bz (l.at_ m u) hk) (cu l.sb hk),fun n hn x=>by
  rcases v_.mp hn with hn | hn
  ·
   rw[show atN t d K2 n=K2 n from eO fun z=>hnA (z▸hn)];exact hK n hn x
  ·
   rw[i_.mp hn,d9];exact hks x⟩⟩
 clear hN e k' hR6 hK l0 gn6;walk_at "s";intro C hpw;walk_at "n";walk_at "s";refine⟨by decide,fun pk hpk=>?_⟩;have hk0:=cL hpk;have sw:Sub3 Hb (up3 (up3 Hb C (.lst ((L t).map T.str))) pk (.lst (([]:List Str).map T.str))):=(Sub3.new hpw).trans (Sub3.new hpk);have gw:up3 (up3 Hb C (.lst ((L t).map T.str))) pk (.lst (([]:List Str).map T.str)) C=some (.lst ((L t).map T.str)):=by rw[aF (Ne.symm hk0.1)];exact au
 have gk:up3 (up3 Hb C (.lst ((L t).map T.str))) pk (.lst (([]:List Str).map T.str)) pk=some (.lst (([]:List Str).map T.str)):=au;rw[show (.lst []:O3)=.lst (([]:List Str).map T.str) from rfl];generalize up3 (up3 Hb C (.lst ((L t).map T.str))) pk (.lst (([]:List Str).map T.str))=H7 at sw gw gk ⊢;clear hpk;walk_at "n";refine aB fun R9 hR9=>?_;have gt0:Gth W t (L t) []:=⟨fun x h=>⟨x,(Z.out t x).mp (h.resolve_right (by simp)),.refl⟩,fun x h=>.inl ((Z.out t x).mpr h),(fun _ _ h=>nomatch h),aam⟩;have kle:Box (∀ws d,Gth W t ws d->d.length<=8):=⟨fun ws d g=>by
  have:=qN (l:=d) (m:=nm W) g.nd fun x hx=>by
   obtain⟨y,h1,h2⟩:=g.fr x (.inr hx)
   cases h2 with
   |refl=>exact (yN R.out h1).2
   |step _ h=>exact (yN R.out h).2
  omega⟩
 walk_at "";refine⟨fun m G H=>∃(ws d:List Str) (c:Option T),G=[some W.enc,some (.ref Y),some (.ref O),some (.str t),S,M,J,some (.ref pf),some (.ref C),some (.ref pk),c]/\Sub3 Hb H/\H C=some (.lst (ws.map T.str))/\H pk=some (.lst (d.map T.str))/\Gth W t ws d/\ws.length<=52*(d.length+1)/\m=(9 - d.length)*100+ws.length,⟨_,L t,[],_,rfl,sw,gw,gk,gt0,by simp;exact lt,rfl⟩,?_⟩;rintro m G H ⟨ws,d,c,rfl,sb,gw,gk,gt,hwl,rfl⟩;have k8:=kle.out ws d gt;have dr:=sb _ _ gd;clear gt0 sw;walk_at "";refine⟨by decide,fun p hp=>?_⟩;have np:C≠p:=bz gw hp;have gw1:up3 H p (.lst []) C=some (.lst (ws.map T.str)):=by rw[aF np];exact gw
 have gk1:up3 H p (.lst []) pk=_ := upa gk hp;have sb1:Sub3 Hb (up3 H p (.lst [])):=sb.trans (Sub3.new hp);have gp1:up3 H p (.lst []) p=some (.lst []):=au;generalize up3 H p (.lst [])=H8 at gw1 gk1 sb1 gp1 ⊢;clear gw gk sb dr hp;have plw:=cW ws;have plk:=cW d;have pln:([]:List T).all (pl 20)=true:=rfl;rcases List.eq_nil_or_concat ws with r | ⟨v,x,r⟩
 ·have x3:decide (ws.map T.str=[])=true:=by rw[r];rfl
  rw[r] at gt;have fin:=Box.mk (k.out H8 d C pk c sb1 hk0.2 gk1 gt.fin);have gf:=sb1 _ _ l.dc;have lgl:(dG kd A).length=A.length:=e_ _;clear gt k kle Z r atx;walk_at "";walk_at "n";walk_at "";exact⟨trivial,trivial,trivial,by omega,fin.out⟩
 have x1:(ws.map T.str)[ws.length - 1]?=some (T.str x):=by rw[r];simp
 have x2:(ws.map T.str).dropLast=v.map T.str:=by rw[r];simp
 have x3:decide (ws.map T.str=[])=false:=by rw[r];simp
 have xl:Box (ws.length=v.length+1):=⟨by rw[r];simp⟩;have plx:pl 20 (T.str x)=true:=rfl;rw[r,List.concat_eq_append] at gt;have hxn:x∈nm W:=by
  obtain⟨y,h1,h2⟩:=gt.fr x (.inl (by simp));cases h2 with
  |refl=>exact (yN R.out h1).2
  |step _ h=>exact (yN R.out h).2
 have npk:C≠pk:=Ne.symm hk0.1;have sb2:Sub3 Hb (up3 H8 C (.lst (v.map T.str))):=jn sb1 hpw;by_cases hx:x∈d
 ·have x4:dj true (T.str x) (d.map T.str)=false:=by unfold dj;rw[if_pos rfl,Bool.not_eq_false',m_];exact z_.mpr ⟨x,hx,rfl⟩
  have g2:=Box.mk (gt.old hx);have sb3:=Box.mk sb2;clear gt k kle Z r atx hx sb2 hxn;walk_at "";have xl':=xl.out;refine⟨trivial,trivial,trivial,⟨trivial,trivial⟩,trivial,trivial,_,?_,v,d,_,rfl,sb3.out,rfl,rfl,g2.out,by omega,rfl⟩;omega
 have x4:dj true (T.str x) (d.map T.str)=true:=by unfold dj;rw[if_pos rfl,aaP,ZK];intro z;obtain⟨y,hy,e⟩:=z_.mp z;cases e;exact hx hy
 have g2:=Box.mk (gt.new hx (Z.out x));have sb3:Sub3 Hb (up3 (up3 H8 C (.lst (v.map T.str))) pk (.lst (d.map T.str++[T.str x]))):=jn sb2 hk0.2;have gdx:=sb3 _ _ gd;have lkx:=gK (g:=U) hxn;have gax:=sb3 _ _ (l.sb _ _ (atx.out x hxn));have gwx:up3 (up3 H8 C (.lst (v.map T.str))) pk (.lst (d.map T.str++[T.str x])) C=some (.lst (v.map T.str)):=by rw[aF npk];exact au
 have lx:=hLl x;have sb4:=Box.mk (jn (o:=.lst (v.map T.str++(L x).map T.str)) sb3 hpw);have k7:=(kle.out _ _ g2.out);rw[d_,A_] at k7;clear gt k kle Z r atx hx sb2 hxn sb3;walk_at "";have xl':=xl.out;refine⟨trivial,trivial,trivial,⟨trivial,trivial⟩,trivial,trivial,⟨trivial,trivial⟩,by omega,⟨trivial,trivial⟩,by omega,_,?_,v++L x,d++[x],_,rfl,sb4.out,by rw[x_],by rw[x_];rfl,g2.out,?_,rfl⟩
 ·rw[d_,d_,A_];omega
 rw[d_,d_,A_];omega
abbrev jP:List Str:=["_law_works_here","_law_names","_law_led","_law_groups_here","_law_name","_law_group"]
def sc_groups:FnScope jP ["_law_works_here"] (aC (top 59)):=bf
def Aj {f:Addr} (g:G3 K mg "_law_groups" (top 59) ["_law_works_here"] f fd) (B:Bl mg) (a:Cal P w K mg base 1 "_law_chained" (top 58) ["_law_works_here"] WX):Cal P w K mg base 2 "_law_groups" (top 59) ["_law_works_here"] WY:=by
 refine⟨f,fd,g,?_⟩;refine fn3 g.fn sc_groups (fun ts H Q h=>?_) (fun cdv A outer s H E ts H3 Q hr h=>?_)
 ·obtain⟨W,rfl,_⟩:=h;rfl
 have n:=Room.u30 hr;have m:=Room.u31 hr;have L:=Room.u1 hr;obtain⟨W,rfl,hW,kk⟩:=h;refine⟨_,(ak (iD (i:=1) rfl sc_groups.nd (bN (n0:=(aC (top 59)).names) (N:=jP) (N':=["_law_task_here"]) (nt:=1) (cap:=[]) rfl rfl (by decide +kernel)) (bJ (aK ix3 (v3 0) aq)) (fun cl U s H C0 fp=>⟨(aD (i:=0) (show List.Nodup [("_law_task_here":Str)] by decide +kernel)),cB,(aK ix3 (v3 0) aq)⟩))
   (ak (aG (i:=2) sc_groups.nd (aU a hr rfl (aa (v3 0) ao)))
   (ak (aG (i:=3) sc_groups.nd (bx ao))
   (ak (bc F_ rfl (bV (v3 1)) (aD (i:=4) sc_groups.nd) (ak (iD (i:=5) rfl sc_groups.nd (bN (n0:=(aC (top 59)).names) (N:=jP) (N':=["_law_other","_law_name","_law_led"]) (nt:=1) (cap:=[4,2]) rfl rfl (by decide +kernel)) (bV (v3 1)) (fun cl U s H C0 fp=>⟨(aD (i:=0) (show List.Nodup [("_law_other":Str),("_law_name":Str),("_law_led":Str)] by decide +kernel)),(dZ (PW3.pt (gM (aV (dh n) (v3 0) (v3 1)) (gW (PW3.pt (gY (aV (jw m) (v3 0) (cN L (v3 2) (v3 1)) rfl) (fK (aV (jw m) (v3 1) (cN L (v3 2) (v3 0)) rfl)))))))),(v3 0)⟩))
    (aA (bA (aV (dh n) (aK ix3 (v3 5) aq) (v3 4)) (aA (bC (dm E_ M_ N_ bj (v3 3) (aa (bM cY rfl B.tuple_ cj (aa (v3 5) ao)) ao)))) aR))))
   (aA (aN (v3 3))))))),?_⟩
 rw[show aQ jP [W.enc]=[some (W.enc),none,none,none,none,none] from rfl];walk_at "h";have k':=Box.mk kk;clear kk;have t8:=hW.t8;have nl:(nm W).length=W.tasks.length:=dX W;have hW':=Box.mk hW;clear hW;walk_at "s";walk_at "c";refine bI tkT (fun t=>T.str t.1) W.tasks [] trivial (by omega) ?Z ?V
 case Z =>
  intro t R Q' G
  clear k'
  simp only[tkT]
  walk_at ""
  try exact G
 intro D O;have e1:W.tasks.map (fun t=>T.str t.1)=(nm W).map T.str:=by unfold nm;rw[YC];rfl
 rw[e1];have o:Sub3 H3 (up3 H3 D (.lst ((nm W).map T.str))):=Sub3.new O;have d:up3 H3 D (.lst ((nm W).map T.str)) D=some (.lst ((nm W).map T.str)):=au;generalize up3 H3 D (.lst ((nm W).map T.str))=H4 at o d ⊢;clear e1 O;walk_at "n";walk_at "s";refine⟨W,rfl,hW'.out,fun u pf kd q J gf S hK=>?_⟩;try dsimp only
 walk_at "n";walk_at "s";refine⟨by decide,fun j C=>?_⟩;have h0:=cu (o.trans J) C;have v:Sub3 u (up3 u j (.lst [])):=Sub3.new C;have l:up3 u j (.lst []) j=some (.lst ((([]:List Str).map (bu W)).map sT)):=au;generalize up3 u j (.lst [])=H6 at v l ⊢;walk_at "n";refine aB fun R3 hR3=>?_;have gn6:=v _ _ (J _ _ d);walk_at "";refine aW T.str (nm W) (fun A σ H=>∃(I F:Option T),σ=[some W.enc,some (.ref D),some (.ref pf),some (.ref j),I,F]/\Sub3 u H/\H j=some (.lst (((A.filter fun t=>decide ((bu W t).head?=some t)).map (bu W)).map sT))) ⟨_,_,rfl,v,l⟩ ?_ ?_
 ·rintro σ H ⟨I,F,rfl,k,l⟩;refine⟨.inl (k _ _ (J _ _ d)),?_⟩;have fin:=Box.mk (k'.out H j ((o.trans J).trans k) l);clear k';walk_at "n";walk_at "";exact Fin3.of Sub3.refl fin.out
 rintro A t B σ H N e ⟨I,F,rfl,k,l⟩ hN;refine⟨.inl (k _ _ (J _ _ d)),?_⟩;have R:t∈nm W:=by rw[e];simp
 have hAl:A.length<9:=by have:=W_ List.length e;rw[nl,d_,j_] at this;omega
 have hfl:((A.filter fun t=>decide ((bu W t).head?=some t)).map (bu W)).length<=A.length:=by rw[e_];exact Yy _ _
 have gd:=k _ _ gf;have gn:=k _ _ (J _ _ d);have lkt:=gK (g:=kd) R;have gat:=k _ _ (S t R);have c:Box (∀I F H',Sub3 u H'->H' j=some (.lst (((A.filter fun t=>decide ((bu W t).head?=some t)).map (bu W)).map sT++if (bu W t).head?=some t then [sT (bu W t)] else []))->N [some W.enc,some (.ref D),some (.ref pf),some (.ref j),I,F] H'):=⟨fun I F H' s' g'=>hN _ _ ⟨_,_,rfl,s',by
  rw[g',Zf,x_,x_]
  by_cases h:(bu W t).head?=some t
  ·
   simp [h]
  ·
   simp [h]⟩⟩
 have Y:=jZ (W:=W) R;clear hN e k' hR3;refine aB fun R4 M=>?_;walk_at "";walk_at "c";refine fC T.str T.str (fun x=>decide (x=t)||(decide (x∈q t)&&decide (t∈q x))) (nm W) [some (.str t),some (.ref pf)] (.inl gn) (by omega) (fun x hx Q' G=>?_) (fun x hx hpx Q' G=>?_) (fun p1 p=>?_)
 ·have lkx:=gK (g:=kd) hx;have gax:=k _ _ (S x hx);have m1:=jL (x:=x) (xs:=q t);have m2:=jL (x:=t) (xs:=q x);have p1:=cW (q t);have p2:=cW (q x);have q1:pl 20 (T.str x)=true:=rfl;have q2:pl 20 (T.str t)=true:=rfl;have b:=Box.mk G;clear G c M hK S Y;walk_at "";by_cases Z:x=t
  ·have X:decide (x=t)=true:=L_ Z;rw[X,Bool.true_or] at b;simp only[X,if_true];exact b.out
  have X:decide (x=t)=false:=H_ Z;rw[X,Bool.false_or] at b;simp only[X,C_,YG];by_cases V:x∈q t
  ·rw[L_ V,aaX] at b;simp only[V,ZG,if_true];exact⟨trivial,trivial,trivial,trivial,b.out⟩
  rw[H_ V,aa5] at b;simp only[V,Ze,C_,YG];exact⟨trivial,trivial,b.out⟩
 ·clear c M hK S Y;walk_at "";try exact G
 rw[KD hK R];clear hK S;have np:j≠p1:=bz l p;have s1:Sub3 u (up3 H p1 (.lst ((bu W t).map T.str))):=k.trans (Sub3.new p);have g1:up3 H p1 (.lst ((bu W t).map T.str)) p1=some (.lst ((bu W t).map T.str)):=au;have g2:up3 H p1 (.lst ((bu W t).map T.str)) j=some (.lst (((A.filter fun t=>decide ((bu W t).head?=some t)).map (bu W)).map sT)):=by rw[aF np];exact l
 generalize up3 H p1 (.lst ((bu W t).map T.str))=H7 at s1 g1 g2 ⊢;generalize (A.filter fun t=>decide ((bu W t).head?=some t)).map (bu W)=cur at *;clear gd gn gat l p lkt;walk_at "n";cases eg:bu W t with
 |nil=>rw[eg] at Y;cases Y
 |cons y r =>
 rw[eg] at c g1;clear Y;simp only[sT,G_,List.head?_cons] at c g1;walk_at "";by_cases hy:y=t
 ·rw[if_pos (L_ hy)];refine⟨⟨trivial,trivial⟩,by omega,c.out _ _ _ (jn s1 C) ?_⟩;rw[au,if_pos (by rw[hy])]
 rw[if_neg (tL hy)];exact c.out _ _ _ s1 (by rw[g2,if_neg fun z=>hy (O_ z),S_])
abbrev kh:List Str:=["self","tasks","length"]
def wW:FnScope kh kh (aC (topm 19 0)):=bf
def wX {f:Addr} (F:Fun K "__init__" "TooLong.__init__" (topm 19 0) f g):FnOk P w K mg base CX0 1 f g kh (wG K ["tasks","length"]):=by
 refine F.ok wW (fun vs H Q E ⟨e,i,C,b,n,o,_⟩=>by rw[n];simp [o]) fun l A outer s H vs Q E r h=>?_;refine⟨_,rC (V7 (pv 0) (pv 1) rfl) (w6 (V8 (pv 0) (pv 2) rfl)),?_⟩;obtain⟨e,i,C,b,rfl,p,m,S,j,k⟩:=h
 match i,p with
 |[y,z],_ =>
 refine⟨y,rfl,V.ref e,rfl,e,C,b,true,rfl,m,S,j "tasks" (by simp),fun d c a=>?_⟩;refine⟨z,rfl,V.ref e,rfl,e,C,b,true,d,[("tasks",y)],rfl,aY,(aL a).trans aY,(by decide:1<1000),S,j "length" (by simp),?_⟩;have q:d7 "length" z [("tasks",y)]=[(("tasks":Str),y),(("length":Str),z)]:=by unfold d7;rw[if_neg (by decide)];rfl
 rw[q,EY (Ne.symm a),Ha];exact k d c a
abbrev GK:List Str:=["_law_script","_law_k","_law_first","_law_cell_here","_law_number","_law_found","_law_j"]
def sc_cell:FnScope GK ["_law_script","_law_k"] (aC (top 45)):=bf
def KQ {f:Addr} (g:G3 K mg "_law_cell" (top 45) ["_law_script","_law_k"] f fd) (B:Bl mg):Cal P w K mg base 1 "_law_cell" (top 45) ["_law_script","_law_k"] Km:=by
 refine⟨f,fd,g,?_⟩;refine fn3 g.fn sc_cell (fun ts H Q h=>?_) (fun cdv A outer s H E ts H3 Q hr h=>?_)
 ·obtain⟨a,ns,k,rfl,_⟩:=h;rfl
 have v:=Room.u30 hr;obtain⟨a,ns,k,rfl,J,hl,hk,kk⟩:=h;refine⟨_,(ak (aG (i:=2) sc_cell.nd (aK ix3 (aH yI (v3 0) (bx (aa aq ao))) aq))
   (ak (bA (aV (dh v) (aH aZ (v3 2) aq) aq) (aA (aN (aK ix3 (aH yI (v3 0) (aH vV (bx (aa aq ao)) aq)) (v3 1)))) aR)
   (ak (aG (i:=3) sc_cell.nd (aK ix3 (v3 0) (aH aZ (v3 1) (aM cD rfl B.len_ cF (aa (v3 0) ao)))))
   (ak (aG (i:=4) sc_cell.nd (aH aZ (aH bB (aH bB (aH di (aH aZ (v3 3) aq) aq) (aH di aq (v3 1))) aq) aq))
   (ak (aG (i:=4) sc_cell.nd (aH aZ (aH bB (aH di (v3 4) (v3 4)) (v3 1)) aq))
   (ak (aG (i:=5) sc_cell.nd aq)
   (ak (bc F_ rfl (cR rfl B.range_ (aa aq ao)) (aD (i:=6) sc_cell.nd) (ak (aG (i:=4) sc_cell.nd (aH aZ (aH bB (aH di (v3 4) aq) aq) aq))
    (aA (aG (i:=5) sc_cell.nd (aH bB (aH di (v3 5) aq) (v3 4))))))
   (aA (aN (v3 5)))))))))),?_⟩
 rw[show aQ GK [T.ref a,T.int (k:Int)]=[some (T.ref a),some (T.int (k:Int)),none,none,none,none,none] from rfl];walk_at "h";have O:=Box.mk kk;clear kk;walk_at "s";refine⟨by decide,fun p1 m=>?_⟩;have R:a≠p1:=bz J m;walk_at "";refine⟨by omega,fun W l=>?_⟩;have U:a≠W:=bz J (cL l).2;have F:Sub3 H3 (up3 (up3 H3 p1 (.lst [T.int 0])) W (.lst (ns.map T.int++[T.int 0]))):=(Sub3.new m).trans (Sub3.new l);have e1:ns.map T.int++[T.int 0]=(ns++[0]).map T.int:=by rw[x_];rfl
 obtain⟨G,C⟩:=qW (ns:=ns++[0]) (i:=0) (by rw[d_];simp);rw[e1] at F ⊢;have b:atI ((ns++[0]).map T.int) 0=some (T.int G):=C;rw[b,fG];have d:G%2≠0->1<=ns.length:=fun h=>by
  cases ns with
  |nil =>
   have z:atI (([0]:List Int).map T.int) 0=some (T.int 0):=rfl
   rw[aaJ,z] at b
   cases b
   exact absurd rfl h
  |cons x r=>simp
 have I:=F _ _ J;generalize up3 (up3 H3 p1 (.lst [T.int 0])) W (.lst ((ns++[0]).map T.int))=H4 at F I ⊢;clear C b e1 R U m l J;walk_at "n";refine aB fun R1 M=>?_;walk_at "";refine⟨by decide,?_⟩;by_cases j:G%2=0
 ·rw[L_ j,if_pos rfl];clear M d;try walk_at ""
  refine⟨by decide,fun q1 u=>⟨⟨by decide,by decide,by decide⟩,fun q2 o=>?_⟩⟩;have n1:a≠q1:=bz I u;have n2:a≠q2:=bz I (cL o).2;rw[aF n2,aF n1,I,Gm];have e2:(List.replicate (Int.toNat 64) [T.int 0]).flatten=(List.replicate 64 (0:Int)).map T.int:=rfl;rw[e2];refine⟨by rw[e_,e_,YX];omega,fun q3 S=>?_⟩;obtain⟨c,ec⟩:=qW (ns:=ns++List.replicate 64 0) (i:=k) (by rw[d_,YX];omega);rw[Cq,au,xW,<- x_,ec,fG];exact Fin3.of (F.trans ((Sub3.new u).trans ((Sub3.new o).trans (Sub3.new S)))) (O.out c)
 rw[H_ j,if_neg J_];have h1:=d j;clear d;walk_at "n";refine aB fun R2 hR2=>?_;obtain⟨q,D⟩:=qW (ns:=ns) (i:=k%ns.length) (Nat.mod_lt _ (by omega));have p:atI (ns.map T.int) ((k:Int)%(ns.length:Int))=some (T.int q):=D;clear D;walk_at "";refine⟨by omega,?_⟩;walk_at "n";refine aB fun R3 hR3=>?_;have z0:=V_ q (show (2147483647:Int)≠0 by decide);have z1:=R_ q (show (0:Int)<2147483647 by decide);clear p;walk_at "";refine⟨by decide,.inr ⟨by decide,by decide⟩,.inl ⟨by decide,by decide⟩,by decide,?_⟩;generalize q%2147483647=z at z0 z1;have y0:=V_ (z*48271+69621*(k:Int)+7919) (show (2147483629:Int)≠0 by decide);have y1:=R_ (z*48271+69621*(k:Int)+7919) (show (0:Int)<2147483629 by decide);generalize (z*48271+69621*(k:Int)+7919)%2147483629=y at y0 y1;walk_at "n";walk_at "s";refine⟨.inl ⟨by omega,by omega⟩,by decide,?_⟩;have x0:=V_ (y*y+(k:Int)) (show (2147483587:Int)≠0 by decide);have x1:=R_ (y*y+(k:Int)) (show (0:Int)<2147483587 by decide);generalize (y*y+(k:Int))%2147483587=x at x0 x1;walk_at "n";walk_at "s";walk_at "n";refine aB fun R6 L=>?_;walk_at "";refine⟨by first | trivial | decide,by decide,by decide,?_⟩;generalize d8 0 (Int.toNat 9)=ts0;refine iG (fun r V H=>∃(n Y:Int) (X:Option T),V=[some (.ref a),some (.int (k:Int)),some (.int G),some (.int q),some (.int n),some (.int Y),X]/\0<=n/\n<2147483629/\Sub3 H3 H) ⟨x,0,_,rfl,x0,by omega,F⟩ ?_ ?_
 ·rintro V H ⟨n,Y,X,rfl,_,_,e⟩;walk_at "t";walk_at "n";walk_at "";exact Fin3.of e (O.out _)
 rintro t r V H N ⟨n,Y,X,rfl,n0,n1,e⟩ Z;walk_at "t";have hM:=Box.mk Z;clear Z L O;walk_at "";refine⟨.inl ⟨by omega,by omega⟩,by decide,.inr ⟨by decide,by decide⟩,?_⟩;exact hM.out _ _ ⟨_,_,_,rfl,V_ _ (by decide),Int.lt_trans (R_ _ (by decide)) (by decide),e⟩
abbrev GP:List Str:=["_law_cell_here","_law_letters","_law_word_here","_law_rest","_law_j"]
def sc_word:FnScope GP ["_law_cell_here"] (aC (top 46)):=bf
def KR {f:Addr} (g:G3 K mg "_law_word" (top 46) ["_law_cell_here"] f D) (B:Bl mg):Cal P w K mg base 1 "_law_word" (top 46) ["_law_cell_here"] RW:=by
 refine⟨f,D,g,?_⟩;refine fn3 g.fn sc_word (fun ts H Q h=>?_) (fun L A outer s H E ts H3 Q Y h=>?_)
 ·obtain⟨c,rfl,_⟩:=h;rfl
 obtain⟨c,rfl,v⟩:=h;refine⟨_,(ak (aG (i:=1) sc_word.nd cM)
   (ak (aG (i:=2) sc_word.nd cM)
   (ak (aG (i:=3) sc_word.nd (aH bD (v3 0) aq))
   (ak (bc F_ rfl (cR rfl B.range_ (aa (aH bB aq (aH aZ (v3 0) aq)) ao)) (aD (i:=4) sc_word.nd) (ak (aG (i:=2) sc_word.nd (aH bB (v3 2) (aK ix3 (v3 1) (aH aZ (v3 3) aq))))
    (aA (aG (i:=3) sc_word.nd (aH bD (v3 3) aq)))))
   (aA (aN (v3 2))))))),?_⟩
 rw[show aQ GP [T.int c]=[some (T.int c),none,none,none,none] from rfl];walk_at "h";have O:(mkS mX).length<=sizeLine:=by rw[dz];decide
 have F:=Box.mk v;clear v;have J:("":Str)=mkS []:=by decide +kernel
 walk_at "s";simp only[Fq];walk_at "n";walk_at "s";walk_at "n";walk_at "s";refine⟨⟨by decide,by decide +kernel⟩,?_⟩;walk_at "n";refine aB fun R3 o=>?_;walk_at "";have V:=V_ c (show (8:Int)≠0 by decide);have m1:=R_ c (show (0:Int)<8 by decide);refine⟨by decide,trivial,by omega,by omega,?_⟩;have e:(d8 0 (1+c%8).toNat).length=(1+c%8).toNat:=by unfold d8;rw[e_,D_]
 generalize d8 0 (1+c%8).toNat=N at e;try rw[J]
 generalize c / 8=t;refine iG (fun r p H=>∃(a:List Nat) (d:Int) (q:Option T),p=[some (.int c),some (.str (mkS mX)),some (.str (mkS a)),some (.int d),q]/\(a.length:Int)+r.length=1+c%8/\(∀x∈a,97<=x/\x<=122)/\H3=H) ⟨[],t,_,rfl,by rw[e,Y0];omega,(fun _ z=>nomatch z),rfl⟩ ?_ ?_
 ·rintro p H ⟨a,d,q,rfl,b,m,rfl⟩;walk_at "t";rw[Y0] at b;walk_at "n";walk_at "";exact Fin3.of Sub3.refl (F.out _ (MP (by omega) (by omega) m))
 rintro x r p H W ⟨a,d,q,rfl,b,m,rfl⟩ l;walk_at "t";rw[j_] at b;have I:=Box.mk l;have u:=Box.mk m;have C:a.length<8:=by omega
 have k:=Box.mk b;have U:=V_ d (show (26:Int)≠0 by decide);have R:=R_ d (show (0:Int)<26 by decide);have n:=Ft (d%26) U R;clear l F o b m;walk_at "";simp only[iK,n,fG];walk_at "";rw[show (⟨#[97+(d%26).toNat]⟩:Str)=mkS [97+(d%26).toNat] from rfl];refine⟨by decide,O,by rw[dz,dz];simp only[A_];omega,⟨by decide,by decide +kernel⟩,?_⟩;rw[yr];exact I.out _ _ ⟨_,_,_,rfl,by rw[d_,A_];have:=k.out;push_cast;omega,fun y j=>by
  rcases v_.mp j with j | j
  ·
   exact u.out y j
  ·
   rw[i_.mp j];omega,rfl⟩
abbrev uL:List Str:=["_law_words","_law_letters","_law_found","_law_word_here"]
def sc_unlike:FnScope uL ["_law_words"] (aC (top 47)):=bf
def Ak {f:Addr} (g:G3 K mg "_law_unlike" (top 47) ["_law_words"] f Z) (B:Bl mg):Cal P w K mg base 1 "_law_unlike" (top 47) ["_law_words"] RX:=by
 refine⟨f,Z,g,?_⟩;refine fn3 g.fn sc_unlike (fun ts H Q h=>?_) (fun cdv A outer s H E ts H3 Q hr h=>?_)
 ·obtain⟨a,ws,rfl,_⟩:=h;rfl
 have y:=Room.u31 hr;obtain⟨a,ws,rfl,G,hl,v,X⟩:=h;refine⟨_,(ak (aG (i:=1) sc_unlike.nd cM)
   (ak (aG (i:=2) sc_unlike.nd (bx ao))
   (ak (bc F_ rfl (bV (v3 0)) (aD (i:=3) sc_unlike.nd) (ak (ju F_ (aV (jw y) (v3 3) (v3 2) rfl) (aA (aG (i:=3) sc_unlike.nd (aH bB (jz (v3 3) jx (jy (Dc aq))) (aK ix3 (v3 1) (aH aZ (aH bB (dm PySem.F.plainAttrs_str PySem.F.slot_str_index PySem.F.type_str_index Cj (v3 1) (aa (aK ix3 (v3 3) (Dc aq)) ao)) aq) aq))))))
    (aA (bC (dm E_ M_ N_ bj (v3 2) (aa (v3 3) ao))))))
   (aA (aN (v3 2)))))),?_⟩
 rw[show aQ uL [T.ref a]=[some (T.ref a),none,none,none] from rfl];walk_at "h";have al:(mkS mX).length<=sizeLine:=by rw[dz];decide
 have k':=Box.mk X;clear X;walk_at "s";simp only[Fq];walk_at "n";walk_at "s";refine⟨by decide,fun d D=>?_⟩;have q:a≠d:=bz G D;walk_at "n";refine aB fun R2 L=>?_;have ga:up3 H3 d (.lst []) a=some (.lst (ws.map T.str)):=by rw[aF q];exact G
 walk_at "";have u:=Box.mk v;clear v;refine aW T.str ws (fun A t H=>∃(fs:List Str) (v3:Option T),t=[some (.ref a),some (.str (mkS mX)),some (.ref d),v3]/\H=up3 H3 d (.lst (fs.map T.str))/\fs.length=A.length/\Nms fs) ⟨[],_,rfl,rfl,rfl,Nms.nil⟩ ?_ ?_
 ·rintro t H ⟨fs,v3,rfl,rfl,p,S⟩;refine⟨.inl (by rw[aF q];exact G),?_⟩;walk_at "n";walk_at "";exact Fin3.of Sub3.refl (k'.out fs p S d D)
 rintro A x B t H N e ⟨fs,v3,rfl,rfl,p,S⟩ W;refine⟨.inl (by rw[aF q];exact G),?_⟩;have hA:A.length+1<=8:=by have:=W_ List.length e;simp only[d_,j_] at this;omega
 obtain⟨b,c,rfl,O,hs0,V⟩:=Kp (u.out x (by rw[e];simp));have U:=Box.mk W;clear W e L k' ga;have gf:up3 H3 d (.lst (fs.map T.str)) d=some (.lst (fs.map T.str)):=au;refine aB fun R3 R=>?_;walk_at "";refine z8 (fun m t H=>∃j:Nat,m+j=8/\t=[some (.ref a),some (.str (mkS mX)),some (.ref d),some (.str (nmL b c j))]/\H=up3 H3 d (.lst (fs.map T.str))/\∀i,i<j->nmL b c i∈fs) ⟨8,0,rfl,rfl,rfl,(fun _ z=>absurd z (by omega))⟩ ?_;intro m t H hI WI TB NX k l n;obtain⟨j,hm,rfl,rfl,o⟩:=hI;have hj:j<=fs.length:=by
  rcases aaU fs.length j with z | z
  ·exact (pig fs (fun i=>nmL b c i) (fun i i' h1 h2 h=>Ko (by omega) (by omega) h) fun i hi=>o i (by omega)).elim
  exact z
 walk_at "";refine⟨rfl,cW fs,?_⟩;split
 ·rename_i r;have J:nmL b c j∈fs:=Classical.byContradiction fun h=>absurd r (by rw[jL];simp [h]);clear n R;obtain⟨l⟩:=l;subst l;try dsimp only
  walk_at "";have Y:=Kq b c j;have md:=Nat.mod_lt (c+j) (show 0<26 by decide);have C:=Rn (97+(c+j)%26) (by omega) (by omega);refine⟨by omega,by first | trivial | omega,by omega,?_⟩;rw[Kr,Bf,fG,show (⟨#[97+(c+j)%26]⟩:Str)=mkS [97+(c+j)%26] from rfl,C];clear C;walk_at "";have M:=Ft ((((97+(c+j)%26 - 97:Nat):Int)+1)%26) (V_ _ (by decide)) (R_ _ (by decide));have en:((((97+(c+j)%26 - 97:Nat):Int)+1)%26).toNat=(c+(j+1))%26:=by omega
  have sn:Txt.slice (nmL b c j) none (some (-1))=mkS b:=Sd b _;refine⟨by decide,al,?_⟩;rw[iK,M,fG,en,sn,show (⟨#[97+(c+(j+1))%26]⟩:Str)=mkS [97+(c+(j+1))%26] from rfl,yr];obtain⟨k⟩:=k;subst k;refine⟨by rw[dz,dz];simp only[A_];omega,m - 1,by omega,j+1,by omega,rfl,rfl,fun i hi=>?_⟩;rcases aaU i j with z | z
  ·exact o i z
  rw[show i=j by omega];exact J
 rename_i r;have I:nmL b c j∉fs:=fun h=>r (by rw[jL];simp [h]);clear l k;obtain⟨n⟩:=n;subst n;walk_at "n";try dsimp only
 walk_at "";refine⟨⟨trivial,trivial⟩,by omega,U.out _ _ ⟨fs++[nmL b c j],some _,rfl,?_,by rw[d_,d_,p];rfl,S.snoc (RZ O V) I⟩⟩;rw[x_];rfl
abbrev GQ:List Str:=["_law_cell_here","_law_words","_law_k"]
def sc_pool:FnScope GQ ["_law_cell_here"] (aC (top 48)):=bf
def KY {f:Addr} (g:G3 K mg "_law_pool" (top 48) ["_law_cell_here"] f I) (B:Bl mg) (d:Cal P w K mg base 1 "_law_word" (top 46) ["_law_cell_here"] RW) (a:Cal P w K mg base 1 "_law_unlike" (top 47) ["_law_words"] RX):Cal P w K mg base 2 "_law_pool" (top 48) ["_law_cell_here"] Wx:=by
 refine⟨f,I,g,?_⟩;refine fn3 g.fn sc_pool (fun ts H Q h=>?_) (fun R A outer s H E ts H3 Q G h=>?_)
 ·obtain⟨c,rfl,_⟩:=h;rfl
 obtain⟨c,rfl,D⟩:=h;refine⟨_,(ak (aG (i:=1) sc_pool.nd (bx ao))
   (ak (bc F_ rfl (cR rfl B.range_ (aa aq ao)) (aD (i:=2) sc_pool.nd) (ak (bC (dm E_ M_ N_ bj (v3 1) (aa (aU d G rfl (aa (aH aZ (v3 0) (aH di aq (aH jf aq aq))) ao)) ao)))
    (aA (aG (i:=0) sc_pool.nd (aH bD (v3 0) (aH di aq (aH jf aq aq)))))))
   (aA (aN (aU a G rfl (aa (v3 1) ao)))))),?_⟩
 rw[show aQ GQ [T.int c]=[some (T.int c),none,none] from rfl];walk_at "h";have J:=Box.mk D;clear D;walk_at "s";refine⟨by decide,fun j t=>?_⟩;walk_at "n";refine aB fun Z m=>?_;walk_at "";refine⟨trivial,by decide,by decide,?_⟩;have F:(d8 0 (Int.toNat 8)).length=8:=by unfold d8;rw[e_,D_];rfl
 generalize d8 0 (Int.toNat 8)=U at F;refine iG (fun r u H=>∃(ws:List Str) (c:Int) (v:Option T),u=[some (.int c),some (.ref j),v]/\H=up3 H3 j (.lst (ws.map T.str))/\ws.length+r.length=8/\∀x∈ws,isNm x) ⟨[],c,_,rfl,rfl,by rw[F];rfl,(fun _ z=>nomatch z)⟩ ?_ ?_
 ·rintro u H ⟨ws,c,v,rfl,rfl,n,q⟩;walk_at "t";rw[Y0] at n;walk_at "n";walk_at "";refine⟨j,ws,rfl,au,by omega,q,fun us Y L p V=>?_⟩;refine Fin3.of ?_ (J.out us (by omega) L p (cL V).2);intro b o k;by_cases e:b=p
  ·subst e;rw[au] at k ⊢;exact k
  rw[aF e] at k ⊢;rw[aF (bz k t)];exact k
 rintro x r u H N ⟨ws,c,v,rfl,rfl,n,q⟩ C;walk_at "t";rw[j_] at n;have O:=Box.mk C;clear C m J;have S:up3 H3 j (.lst (ws.map T.str)) j=some (.lst (ws.map T.str)):=au;walk_at "";refine⟨⟨trivial,trivial⟩,⟨by decide,by decide,by decide⟩,.inl ⟨by decide,by decide⟩,by decide,_,rfl,fun y M=>?_⟩;dsimp only;rw[S,Cr];refine⟨by rw[e_];omega,⟨by decide,by decide,by decide⟩,.inl ⟨by decide,by decide⟩,⟨by decide,by decide +kernel⟩,O.out _ _ ⟨ws++[y],_,_,rfl,?_,by rw[d_,A_];omega,fun z l=>?_⟩⟩
 ·rw[x_];exact pY
 rcases v_.mp l with l | l
 ·exact q z l
 rw[i_.mp l];exact M
abbrev GR:List Str:=["_law_cell_here","_law_row","_law_pool_here","_law_unit","_law_stand","_law_turn","_law_some","_law_rest","_law_k","_law_other","_law_at","_law_digit","_law_length"]
def sc_task:FnScope GR ["_law_cell_here","_law_row","_law_pool_here","_law_unit"] (aC (top 49)):=bf
def KZ {f:Addr} (g:G3 K mg "_law_task" (top 49) ["_law_cell_here","_law_row","_law_pool_here","_law_unit"] f fd) (B:Bl mg) (D:Cal P w K mg base 1 "_law_word" (top 46) ["_law_cell_here"] RW):Cal P w K mg base 2 "_law_task" (top 49) ["_law_cell_here","_law_row","_law_pool_here","_law_unit"] Wz:=by
 refine⟨f,fd,g,?_⟩;refine fn3 g.fn sc_task (fun ts H Q h=>?_) (fun cdv A outer s H E ts H3 Q hr h=>?_)
 ·obtain⟨c,Z,pp,a,e,d,rfl,_⟩:=h;rfl
 have hu30:=Room.u30 hr;have hu31:=Room.u31 hr;obtain⟨c,Z,pp,a,e,d,rfl,O,r1,r8,hrn,hpp,p8,hpn,u1,u2,kk⟩:=h;refine⟨_,(ak (aG (i:=4) sc_task.nd (aH aZ (v3 0) (aM cD rfl B.len_ cF (aa (v3 1) ao))))
   (ak (aG (i:=5) sc_task.nd (aH aZ (aH bD (v3 0) (aM cD rfl B.len_ cF (aa (v3 1) ao))) aq))
   (ak (aG (i:=0) sc_task.nd (aH bD (v3 0) (aH di aq (aM cD rfl B.len_ cF (aa (v3 1) ao)))))
   (ak (aG (i:=6) sc_task.nd (bx ao))
   (ak (bA (aV (dh hu30) (aH aZ (v3 0) aq) aq) (ak (aG (i:=6) sc_task.nd (bx (aa (aK ix3 (v3 1) (v3 4)) ao)))
    (ak (aG (i:=7) sc_task.nd (aH bD (v3 0) aq))
    (ak (bc F_ rfl (cR rfl B.range_ (aa aq ao)) (aD (i:=8) sc_task.nd) (ak (aG (i:=9) sc_task.nd (aK ix3 (aH bB (v3 2) (bx (aa (aK ix3 (v3 1) (v3 4)) ao))) (aH aZ (v3 7) aq)))
     (ak (aG (i:=7) sc_task.nd (aH bD (v3 7) aq))
     (aA (bA (aV (mH hu31) (v3 9) (v3 6) rfl) (aA (bC (dm E_ M_ N_ bj (v3 6) (aa (v3 9) ao)))) aR)))))
    (ak (aG (i:=10) sc_task.nd (aH aZ (aH aZ (v3 7) aq) (aM cD rfl B.len_ cF (aa (v3 6) ao))))
    (aA (aG (i:=6) sc_task.nd (aH bB (jz (v3 6) (jy (v3 10)) jx) (jz (v3 6) jx (jy (v3 10)))))))))) aR)
   (ak (aG (i:=0) sc_task.nd (aH bD (v3 0) (aH di (aH di aq aq) aq)))
   (ak (aG (i:=11) sc_task.nd (aH bB aq (aH aZ (aH bD (v3 0) aq) aq)))
   (ak (aG (i:=12) sc_task.nd (aK ix3 (bx (aa (v3 11) (aa (aH bB (aH di (v3 3) (v3 11)) (aH aZ (aH bD (v3 0) aq) aq)) (aa (aH bB aq (aH aZ (aH bD (v3 0) aq) (aH qe (aH jf aq aq) aq))) ao)))) (aH aZ (v3 0) aq)))
   (aA (aN (bG (aa (v3 4) (aa (v3 5) (aa (v3 12) (aa (bM cY rfl B.tuple_ cj (aa (v3 6) ao)) (aa (aU D hr rfl (aa (aH bD (v3 0) (aH di aq (aH jf aq aq))) ao)) ao)))))))))))))))),?_⟩
 rw[show aQ GR [T.int c,T.ref Z,T.ref pp,T.int d]=[some (T.int c),some (T.ref Z),some (T.ref pp),some (T.int d),none,none,none,none,none,none,none,none,none] from rfl];walk_at "h";have k':=Box.mk kk;clear kk;have hrn':=Box.mk hrn;have hpn':=Box.mk hpn;clear hrn hpn;walk_at "s";have b0:=V_ c (show (a.length:Int)≠0 by omega);have b1:=R_ c (show (0:Int)<(a.length:Int) by omega);refine⟨by omega,?_⟩;obtain⟨s,hs⟩:∃s:Nat,c%(a.length:Int)=(s:Int):=⟨(c%(a.length:Int)).toNat,by omega⟩;rw[hs] at b0 b1 ⊢;have v:s<a.length:=by omega
 have lg:(a.length:Int).natAbs.log2<9000:=aan (aaC _) (by omega);have lg8:(8*(a.length:Int)).natAbs.log2<9000:=aan (aaC _) (by omega);clear hs;walk_at "n";walk_at "s";refine⟨⟨by omega,lg⟩,by decide,?_⟩;have t0:=V_ (c / (a.length:Int)) (show (8:Int)≠0 by decide);have t1:=R_ (c / (a.length:Int)) (show (0:Int)<8 by decide);generalize c / (a.length:Int)%8=tn at t0 t1;walk_at "n";walk_at "s";refine⟨.inl ⟨by decide,by decide⟩,⟨by omega,lg8⟩,?_⟩;generalize c / (8*(a.length:Int))=c2;walk_at "n";walk_at "s";refine⟨by decide,fun X u=>?_⟩;walk_at "n";refine aB fun R4 hR4=>?_;have key:Box (∀(p:Addr) (L:List Str) (v7 Y W v10:Option T) (J:Hp3),Sub3 H3 J->J p=some (.lst (L.map T.str))->Nms L->L.length<=4->(L=[]\/a.getD s ""∈L)->R4 { nx:=fun x H'=>Fin3 Q T.non H',rt:=Fin3 Q} [some (.int c2),some (.ref Z),some (.ref pp),some (.int d),some (.int (s:Int)),some (.int tn),some (.ref p),v7,Y,W,v10,none,none] J):=by
  refine⟨fun p L v7 Y W v10 J C gp V hk4 hks=>?_⟩;clear O hpp u;walk_at "n";refine aB fun R5 hR5=>?_;walk_at "";refine⟨.inl ⟨by decide,by decide⟩,.inl ⟨by decide,by decide⟩,⟨by decide,by decide +kernel⟩,?_⟩;generalize c2 / (4*729*4)=l;walk_at "n";walk_at "s";refine⟨⟨by decide,by decide +kernel⟩,by decide,?_⟩;have d0:=V_ (l / 3) (show (9:Int)≠0 by decide);have d1:=R_ (l / 3) (show (0:Int)<9 by decide);generalize l / 3%9=dg at d0 d1;walk_at "n";walk_at "s";refine⟨.inr ⟨by omega,by omega⟩,⟨by decide,by decide +kernel⟩,by decide,⟨by decide,by decide +kernel⟩,⟨by decide,by decide,by decide⟩,by decide +kernel,by decide,fun M k=>⟨by decide,?_⟩⟩;have i0:=V_ l (show (3:Int)≠0 by decide);have i1:=R_ l (show (0:Int)<3 by decide);have e0:=V_ (l / 27) (show (2:Int)≠0 by decide);have e1:=R_ (l / 27) (show (0:Int)<2 by decide);have f0:=V_ (l / 3) (show ((10:Int)^Int.toNat 60 - 1)≠0 by decide +kernel);have f1:=R_ (l / 3) (show (0:Int)<(10:Int)^Int.toNat 60 - 1 by decide +kernel);have m1:d*(1+dg)<=10^57*9:=Int.mul_le_mul u2 (by omega) (by omega) (by decide +kernel);have m0:1*1<=d*(1+dg):=Int.mul_le_mul u1 (by omega) (by decide) (by omega);have p60:(10:Int)^Int.toNat 60=10^60:=rfl;rw[p60] at f0 f1 ⊢;have sb7:=C.trans (Sub3.new (o:=.lst [T.int (1+dg),T.int (d*(1+dg)+l / 27%2),T.int (1+l / 3%(10^60 - 1))]) k);have gp7:up3 J M (.lst [T.int (1+dg),T.int (d*(1+dg)+l / 27%2),T.int (1+l / 3%(10^60 - 1))]) p=_ := upa gp k;generalize up3 J M (.lst [T.int (1+dg),T.int (d*(1+dg)+l / 27%2),T.int (1+l / 3%(10^60 - 1))])=H5 at sb7 gp7 ⊢;generalize d*(1+dg)=ud at *;generalize l / 27%2=e27 at *;generalize l / 3%(10^60 - 1)=e3 at *;obtain⟨q,I,l1,l2⟩:∃q:Int,atI [T.int (1+dg),T.int (ud+e27),T.int (1+e3)] (l%3)=some (T.int q)/\1<=q/\q<10^60:=by
   rcases (show l%3=0\/l%3=1\/l%3=2 by omega) with h | h | h
   ·rw[h];exact⟨_,rfl,by omega,by omega⟩
   ·rw[h];exact⟨_,rfl,by omega,by omega⟩
   rw[h];exact⟨_,rfl,by omega,by omega⟩
  rw[I,fG];clear I gp C k;walk_at "n";walk_at "";refine⟨⟨by decide,by decide,by decide⟩,.inl ⟨by decide,by decide⟩,⟨by decide +kernel,by decide +kernel⟩,_,rfl,fun y hy=>⟨by decide,?_⟩⟩;exact Fin3.of sb7 (k'.out s tn q L y v t0 t1 l1 l2 V hk4 hks hy)
 have m:up3 H3 X (.lst []) Z=_ := upa O u;have F:up3 H3 X (.lst []) X=some (.lst (([]:List Str).map T.str)):=au;have t:Sub3 H3 (up3 H3 X (.lst [])):=Sub3.new u;generalize up3 H3 X (.lst [])=J at m F t ⊢;clear u hR4 k';walk_at "";refine⟨by decide,?_⟩;by_cases h4:c2%4=1
 ·rw[L_ h4,if_pos rfl];try rw[m,xW]
  rw[lR v,fG];refine⟨by decide,fun pf hpf=>⟨⟨by decide,by decide +kernel⟩,by first | trivial | decide,by decide,by decide,?_⟩⟩;have f0:=cu t hpf;have rl:(d8 0 (Int.toNat 3)).length=3:=by unfold d8;rw[e_,D_];rfl
  generalize d8 0 (Int.toNat 3)=ts0 at rl;have hxs:=hrn'.out _ (getD_memS v);have hx':=Box.mk hxs;clear hxs;refine iG (fun r σ H=>∃(fs:List Str) (rest:Int) (Y W:Option T),σ=[some (.int c2),some (.ref Z),some (.ref pp),some (.int d),some (.int (s:Int)),some (.int tn),some (.ref pf),some (.int rest),Y,W,none,none,none]/\Sub3 H3 H/\H pf=some (.lst (fs.map T.str))/\Nms fs/\fs.length+r.length<=4/\a.getD s ""∈fs) ⟨[a.getD s ""],c2 / 4,_,_,rfl,t.trans (Sub3.new hpf),au,Nms.nil.snoc hx'.out (fun z=>nomatch z),by rw[rl];exact l_ 4,i_.mpr rfl⟩ ?_ ?_
  ·rintro σ H ⟨fs,rest,Y,W,rfl,C,U,V,hl,hm⟩;walk_at "t";clear m F;walk_at "";have fl:1<=fs.length:=List.length_pos_of_mem hm;have a0:=V_ (rest%4) (show (fs.length:Int)≠0 by omega);have a1:=R_ (rest%4) (show (0:Int)<(fs.length:Int) by omega);obtain⟨j,hj⟩:∃j:Nat,rest%4%(fs.length:Int)=(j:Int):=⟨(rest%4%(fs.length:Int)).toNat,by omega⟩;refine⟨by decide,by omega,fun M k=>?_⟩;rw[hj,aF (bz U k),U,LK,Cv,Cu];intro q2 n;have n12:M≠q2:=bz au n;rw[Cp,aF n12,au,au,jX];refine⟨by rw[List.length_drop,aaT,e_];omega,fun q3 hq3=>?_⟩;have pm:(fs.drop j++fs.take j).Perm fs:=List.perm_append_comm.trans (by rw[List.take_append_drop]);refine key.out q3 (fs.drop j++fs.take j) _ _ _ _ _ (C.trans ((Sub3.new k).trans ((Sub3.new n).trans (Sub3.new hq3)))) (by rw[au,x_,List.map_drop,List.map_take]) ⟨fun x hx=>V.nm x (pm.mem_iff.mp hx),pm.nodup_iff.mpr V.nd⟩ (by rw[pm.length_eq];simpa using hl) (.inr (pm.mem_iff.mpr hm))
  rintro x r σ H N ⟨fs,rest,Y,W,rfl,C,U,V,hl,hm⟩ hN;walk_at "t";rw[j_] at hl;have hM:=Box.mk hN;clear hN m F key;have m:=C _ _ O;have S:=C _ _ hpp;walk_at "s";try rw[lR v,fG]
  refine⟨by decide,fun M k=>?_⟩;rw[aF (bz S k),S,jX];refine⟨by rw[e_,A_];omega,fun q2 n=>?_⟩;have R:=C.trans ((Sub3.new (o:=.lst [T.str (a.getD s "")]) k).trans (Sub3.new (o:=.lst (e.map T.str++[T.str (a.getD s "")])) n));have gf5:up3 (up3 H M (.lst [T.str (a.getD s "")])) q2 (.lst (e.map T.str++[T.str (a.getD s "")])) pf=some (.lst (fs.map T.str)):=by rw[aF (bz (Sub3.new k _ _ U) n),aF (bz U k)];exact U
  have h0:=V_ rest (show (9:Int)≠0 by decide);have h1:=R_ rest (show (0:Int)<9 by decide);obtain⟨j,hj⟩:∃j:Nat,rest%9=(j:Int):=⟨(rest%9).toNat,by omega⟩;have hat:atI (e.map T.str++[T.str (a.getD s "")]) (j:Int)=some (T.str ((e++[a.getD s ""]).getD j "")):=by have:=lR (ns:=e++[a.getD s ""]) (i:=j) (by rw[d_,A_];omega);rw[x_] at this;exact this
  have G:isNm ((e++[a.getD s ""]).getD j ""):=by
   have:=getD_memS (ns:=e++[a.getD s ""]) (i:=j) (by rw[d_,A_];omega);rcases v_.mp this with z | z
   ·exact hpn'.out _ z
   rw[i_.mp z];exact hx'.out
  refine⟨by decide,?_⟩;rw[hj,Cq,au,xW,hat,fG];generalize up3 (up3 H M (.lst [T.str (a.getD s "")])) q2 (.lst (e.map T.str++[T.str (a.getD s "")]))=H5 at R gf5 ⊢;generalize (e++[a.getD s ""]).getD j ""=oth at G ⊢;clear hat k n m S C U;walk_at "n";walk_at "";refine⟨⟨by decide,by decide +kernel⟩,rfl,cW fs,?_⟩;split
  ·rename_i hm1;have hni:=(Wb jG (x:=oth)).mp hm1;try walk_at ""
   refine⟨⟨trivial,trivial⟩,by omega,hM.out _ _ ⟨fs++[oth],_,_,_,rfl,?_,?_,V.snoc G hni,by rw[d_,A_];omega,T_ _ hm⟩⟩
   ·intro b o hb;rw[aF (bz hb f0)];exact R b o hb
   rw[au,x_];rfl
  exact hM.out _ _ ⟨fs,_,_,_,rfl,R,gf5,V,by omega,hm⟩
 rw[H_ h4,if_neg J_];exact key.out X [] _ _ _ _ J t F Nms.nil (by decide) (.inl rfl)
abbrev q8:List Str:=["_law_script","_law_names","_law_some","_law_rank","_law_base","_law_ahead","_law_beside","_law_orders","_law_pairs","_law_p","_law_q","_law_one","_law_other","_law_word_here"]
def sc_links:FnScope q8 ["_law_script","_law_names","_law_some"] (aC (top 50)):=bf
def GX {f:Addr} (g:G3 K mg "_law_links" (top 50) ["_law_script","_law_names","_law_some"] f fd) (B:Bl mg) (r:Cal P w K mg base 1 "_law_cell" (top 45) ["_law_script","_law_k"] Km):Cal P w K mg base 2 "_law_links" (top 50) ["_law_script","_law_names","_law_some"] WD:=by
 refine⟨f,fd,g,?_⟩;refine fn3 g.fn sc_links (fun ts H Q h=>?_) (fun cdv A outer s H E ts H3 Q hr h=>?_)
 ·obtain⟨a,pn,ps,sc,ns,c,rfl,_⟩:=h;rfl
 have L:=Room.u30 hr;have hu31:=Room.u31 hr;obtain⟨a,pn,ps,sc,ns,c,rfl,ha,hsc,hpn,hnn,hn8,hps,hsl,kk⟩:=h;refine⟨_,(ak (aG (i:=3) sc_links.nd (aM JF rfl B.sorted_ jY (aa (bO rfl (bN (n0:=(aC (top 50)).names) (N:=q8) (N':=["_law_k","_law_some"]) (nt:=1) (cap:=[2]) rfl rfl (by decide +kernel)) (cR rfl B.range_ (aa (aM cD rfl B.len_ cF (aa (v3 1) ao)) ao)) (fun cl pins s H C0 fp=>⟨(aD (i:=0) (show List.Nodup [("_law_k":Str),("_law_some":Str)] by decide +kernel)),cB,(bG (aa (aK ix3 (aK ix3 (v3 1) (v3 0)) aq) (aa (aK ix3 (aK ix3 (v3 1) (v3 0)) aq) (aa (v3 0) ao))))⟩)) ao)))
   (ak (aG (i:=4) sc_links.nd (aK ix3 (bx (aa aq (aa aq (aa aq ao)))) (aH aZ (aH bD (aU r hr rfl (aa (v3 0) (aa aq ao))) aq) aq)))
   (ak (aG (i:=5) sc_links.nd (aU r hr rfl (aa (v3 0) (aa aq ao))))
   (ak (aG (i:=6) sc_links.nd (aU r hr rfl (aa (v3 0) (aa aq ao))))
   (ak (aG (i:=7) sc_links.nd (bx ao))
   (ak (aG (i:=8) sc_links.nd (bx ao))
   (ak (bc F_ rfl (cR rfl B.range_ (aa (aM cD rfl B.len_ cF (aa (v3 3) ao)) ao)) (aD (i:=9) sc_links.nd) (aA (bc F_ rfl (zB rfl B.range_ (aa (aH bB (v3 9) aq) (aa (aM cD rfl B.len_ cF (aa (v3 3) ao)) ao))) (aD (i:=10) sc_links.nd) (ak (aG (i:=11) sc_links.nd (aK ix3 (v3 1) (aK ix3 (aK ix3 (v3 3) (v3 9)) aq)))
     (ak (aG (i:=12) sc_links.nd (aK ix3 (v3 1) (aK ix3 (aK ix3 (v3 3) (v3 10)) aq)))
     (ak (bA (aV (dh L) (aH aZ (v3 5) (v3 4)) aq) (aA (bC (dm E_ M_ N_ bj (v3 7) (aa (bG (aa (v3 11) (aa (v3 12) ao))) ao)))) aR)
     (ak (aG (i:=13) sc_links.nd (aK ix3 (bx (aa cM (aa cM ao))) (bM Iu rfl B.int_ Ck (aa (gD (dh L) (aK ix3 (aK ix3 (v3 3) (v3 9)) aq) (aK ix3 (aK ix3 (v3 3) (v3 10)) aq)) ao))))
     (ak (bA (aV (jw hu31) (aH aZ (v3 6) aq) (bG (aa aq (aa aq ao))) rfl) (aA (bC (dm E_ M_ N_ bj (v3 8) (aa (bG (aa (v3 13) (aa (v3 11) (aa (v3 12) ao)))) ao)))) aR)
     (ak (bA (aV (jw hu31) (aH aZ (v3 6) aq) (bG (aa aq (aa aq ao))) rfl) (aA (bC (dm E_ M_ N_ bj (v3 8) (aa (bG (aa (v3 13) (aa (v3 12) (aa (v3 11) ao)))) ao)))) aR)
     (ak (aG (i:=5) sc_links.nd (aH bD (v3 5) (v3 4)))
     (aA (aG (i:=6) sc_links.nd (aH bD (v3 6) aq)))))))))))))
   (ak (bA (aV (dh L) (aH aZ (v3 5) aq) aq) (aA (bC (vW E_ PySem.F.slot_list_reverse PySem.F.type_list_reverse Gn (v3 7)))) aR)
   (ak (bA (aV (dh L) (aH aZ (v3 6) aq) aq) (aA (bC (vW E_ PySem.F.slot_list_reverse PySem.F.type_list_reverse Gn (v3 8)))) aR)
   (aA (aN (bG (aa (bM cY rfl B.tuple_ cj (aa (v3 7) ao)) (aa (bM cY rfl B.tuple_ cj (aa (jz (v3 8) jx (jy aq)) ao)) ao)))))))))))))),?_⟩
 rw[show aQ q8 [T.ref a,T.ref pn,T.ref ps]=[some (T.ref a),some (T.ref pn),some (T.ref ps),none,none,none,none,none,none,none,none,none,none,none] from rfl];walk_at "h";have k':=Box.mk kk;clear kk;refine aB fun R0 hR0=>?_;walk_at "";refine⟨trivial,by omega,by omega,?_⟩;rw[ug];walk_at "c";refine bI (fun (k:Nat)=>T.int (k:Int)) (fun k=>trT ((((c.map (·.1)).getD k 0:Nat):Int),(c.map (·.2.1)).getD k 0,(k:Int))) (List.range ns.length) [some (.ref ps)] trivial (by rw[D_];omega) (fun k hk Q' hq=>?_) (fun p1 hp1=>?_)
 ·have hk':k<c.length:=by have:=YF.mp hk;omega
  have x1:atI (c.map tk5) (k:Int)=some (.tup [.int ((c[k]).1:Int),.int (c[k]).2.1,.int (c[k]).2.2.1,sT (c[k]).2.2.2.1,.str (c[k]).2.2.2.2]):=cz (by rw[y_,g_ hk'];rfl);have y1:(c.map (·.1)).getD k 0=(c[k]).1:=by rw[h_,y_,g_ hk'];rfl
  have y2:(c.map (·.2.1)).getD k 0=(c[k]).2.1:=by rw[h_,y_,g_ hk'];rfl
  rw[y1,y2] at hq;generalize c[k]=tk at x1 hq;have hq':=Box.mk hq;clear hq k' hR0 y1 y2;walk_at "";exact⟨by decide,hq'.out⟩
 refine⟨(List.range ns.length).map fun k=>((((c.map (·.1)).getD k 0:Nat):Int),(c.map (·.2.1)).getD k 0,(k:Int)),by rw[YC];rfl,by rw[e_,D_];omega,fun us X hpw pk hpk=>?_⟩;obtain⟨ul,U,hx1,hx2⟩:=Sg hsl X hpw;have sb:Sub3 H3 (up3 (up3 H3 p1 (.lst ((List.range ns.length).map fun k=>trT ((((c.map (·.1)).getD k 0:Nat):Int),(c.map (·.2.1)).getD k 0,(k:Int))))) pk (.lst (us.map trT))):=(Sub3.new hp1).trans (Sub3.new hpk);have S:up3 (up3 H3 p1 (.lst ((List.range ns.length).map fun k=>trT ((((c.map (·.1)).getD k 0:Nat):Int),(c.map (·.2.1)).getD k 0,(k:Int))))) pk (.lst (us.map trT)) pk=some (.lst (us.map trT)):=au;generalize up3 (up3 H3 p1 (.lst ((List.range ns.length).map fun k=>trT ((((c.map (·.1)).getD k 0:Nat):Int),(c.map (·.2.1)).getD k 0,(k:Int))))) pk (.lst (us.map trT))=H4 at sb S ⊢;clear X hpw hpk hp1;have x:=Box.mk hx1;have Y:=Box.mk hx2;clear hx1 hx2;walk_at "n";walk_at "s";refine⟨by decide,fun q1 v=>?_⟩;have y:=sb.trans (Sub3.new (o:=.lst [T.int 2,T.int 4,T.int 8]) v);have Z:up3 H4 q1 (.lst [T.int 2,T.int 4,T.int 8]) pk=_ := upa S v;have W:up3 H4 q1 (.lst [T.int 2,T.int 4,T.int 8]) q1=some (.lst [T.int 2,T.int 4,T.int 8]):=au;generalize up3 H4 q1 (.lst [T.int 2,T.int 4,T.int 8])=H5 at y Z W ⊢;clear sb S v;refine⟨a,sc,0,rfl,y _ _ ha,hsc,by decide,fun c0=>?_⟩;dsimp only;obtain⟨bs,eb,hbs⟩:∃bs:Int,atI [T.int 2,T.int 4,T.int 8] (c0 / 2048%3)=some (T.int bs)/\(bs=2\/bs=4\/bs=8):=by
  have i0:=V_ (c0 / 2048) (show (3:Int)≠0 by decide);have i1:=R_ (c0 / 2048) (show (0:Int)<3 by decide);rcases (show c0 / 2048%3=0\/c0 / 2048%3=1\/c0 / 2048%3=2 by omega) with h | h | h
  ·rw[h];exact⟨2,rfl,.inl rfl⟩
  ·rw[h];exact⟨4,rfl,.inr (.inl rfl)⟩
  rw[h];exact⟨8,rfl,.inr (.inr rfl)⟩
 walk_at "";refine⟨⟨by decide,by decide +kernel⟩,by decide,?_⟩;have lgb:bs.natAbs.log2<9000:=aan (aaC _) (by omega);clear eb W;walk_at "n";walk_at "s";refine⟨a,sc,12,rfl,y _ _ ha,hsc,by decide,fun c1=>?_⟩;walk_at "n";walk_at "s";refine⟨a,sc,13,rfl,y _ _ ha,hsc,by decide,fun c2=>?_⟩;walk_at "n";walk_at "s";refine⟨by decide,fun I G=>?_⟩;walk_at "n";walk_at "s";refine⟨by decide,fun pq C=>?_⟩;have V:LkH H3 (up3 (up3 H5 I (.lst [])) pq (.lst [])) pk I pq us [] [] :=
  ⟨(y.trans (Sub3.new G)).trans (Sub3.new C),Sub3.new C _ _ (Sub3.new G _ _ Z),by rw[aF (bz au C)];exact au,au,cu y G,cu (y.trans (Sub3.new G)) C,bz Z G,bz (Sub3.new G _ _ Z) C,bz au C⟩
 generalize up3 (up3 H5 I (.lst [])) pq (.lst [])=H6 at V ⊢;clear y Z G C;walk_at "n";refine aB fun R6 hR6=>?_;have gk0:=V.k;walk_at "";refine⟨by first | trivial | omega,by omega,by omega,?_⟩;try rw[ul]
 rw[ug];have D:∃b:Nat->Str,∀p<ns.length,ns[U p]?=some (b p):=⟨fun p=>ns.getD (U p) "",fun p hp=>by
  have:=(x.out p hp).1
  dsimp only
  rw[h_,g_ this]
  rfl⟩
 obtain⟨b,D⟩:=D;obtain⟨M,hwd⟩:∃M:Nat->Nat->Str,∀p q,M p q=if (c.map (·.1)).getD (U p) 0=(c.map (·.1)).getD (U q) 0 then "with" else "apart":=⟨_,fun _ _=>rfl⟩
 have hwd':=Box.mk hwd;clear hwd;have hinj:Box (∀i j,i<ns.length->j<ns.length->b i=b j->i=j):=⟨fun i j hi hj e=>by
  have h1:=D i hi
  have h2:=D j hj
  rw[e,<- h2] at h1
  have e2:=(List.getElem?_inj (x.out i hi).1 hnn.nd).mp h1
  rcases Nat.lt_trichotomy i j with z | z | z
  ·
   exact absurd e2 (Y.out i j z hj).1
  ·
   exact z
  ·
   exact absurd e2.symm (Y.out j i z hi).1⟩
 refine aW (fun (k:Nat)=>T.int (k:Int)) (List.range ns.length) (fun A σ H=>∃(O:List (Str × Str)) (P:List (Str × Str × Str)) (ah be:Int) (v9 l n d m:Option T),σ=[some (.ref a),some (.ref pn),some (.ref ps),some (.ref pk),some (.int bs),some (.int ah),some (.int be),some (.ref I),some (.ref pq),v9,l,n,d,m]/\LkH H3 H pk I pq us O P/\Lk1 b M ns.length A.length 0 O P) ⟨[],[],_,_,_,_,_,_,_,rfl,V,⟨aam,(fun _ z=>nomatch z),aam,(fun _ z=>nomatch z),Y7 _,Y7 _⟩⟩ ?_ ?_
 ·rintro σ H ⟨O,P,ah,be,v9,l,n,d,m,rfl,t,l1⟩;walk_at "t";have S:=t.k;have go:=t.o;have gp:=t.p;clear V gk0;walk_at "n";walk_at "s";refine⟨by decide,?_⟩;refine Gp ⟨trivial,trivial⟩ fun b7 H7 e7=>?_;obtain⟨O',pO,lh7⟩:∃O':List (Str × Str),O'.Perm O/\LkH H3 H7 pk I pq us O' P:=by
   cases b7
   ·rw[e7];exact⟨O,.refl _,t⟩
   refine⟨O.reverse,List.reverse_perm O,?_⟩;rw[e7,<- List.map_reverse];exact t.putO
  have gp7:=lh7.p;clear e7 t S go gp;walk_at "n";walk_at "s";refine⟨by decide,?_⟩;refine Gp ⟨trivial,trivial⟩ fun b8 H8 e8=>?_;obtain⟨P',pP,lh8⟩:∃P':List (Str × Str × Str),P'.Perm P/\LkH H3 H8 pk I pq us O' P':=by
   cases b8
   ·rw[e8];exact⟨P,.refl _,lh7⟩
   refine⟨P.reverse,List.reverse_perm P,?_⟩;rw[e8,<- List.map_reverse];exact lh7.putP
  have gp8:=lh8.p;have go8:=lh8.o;clear e8 lh7 gp7;walk_at "n";walk_at "";intro q1 v;refine⟨by decide,?_⟩;rw[show (12:Int)=((12:Nat):Int) from rfl,Cu,<- List.map_take];exact Fin3.of (lh8.sb.trans (Sub3.new v)) (k'.out O' (P'.take 12) (Sh hn8 (fun p hp=>(x.out p hp).1) Y.out D hwd'.out l1 pO pP))
 rintro A p B σ H N e ⟨O,P,ah,be,v9,l,n,d,m,rfl,t,l1⟩ hN;walk_at "t";have hA:A.length<ns.length:=by have:=W_ List.length e;simp only[d_,j_,D_] at this;omega
 have hj:p=A.length:=by
  have h1:(List.range ns.length)[A.length]?=some p:=by rw[e,Yx (l_ _)];simp
  rw[YK hA] at h1;exact (O_ h1).symm
 have S:=t.k;have hN':=Box.mk hN;clear hN e k' hR6 V gk0;subst hj;walk_at "";refine⟨by first | trivial | omega,⟨by omega,by omega,by omega,by omega⟩,?_⟩;rw[show d8 ((A.length:Int)+1) ((ns.length:Int) - ((A.length:Int)+1)).toNat=(List.range (ns.length - (A.length+1))).map (fun (i:Nat)=>T.int ((A.length:Int)+1+(i:Int))) by unfold d8;rw[show ((ns.length:Int) - ((A.length:Int)+1)).toNat=ns.length - (A.length+1) by omega]];refine aW (fun (i:Nat)=>T.int ((A.length:Int)+1+(i:Int))) (List.range (ns.length - (A.length+1))) (fun J σ H=>∃(O:List (Str × Str)) (P:List (Str × Str × Str)) (ah be:Int) (l n d m:Option T),σ=[some (.ref a),some (.ref pn),some (.ref ps),some (.ref pk),some (.int bs),some (.int ah),some (.int be),some (.ref I),some (.ref pq),some (.int (A.length:Int)),l,n,d,m]/\LkH H3 H pk I pq us O P/\Lk1 b M ns.length A.length (A.length+1+J.length) O P) ⟨O,P,_,_,_,_,_,_,rfl,t,l1.skip (fun p' q' _ z=>by unfold Dn at *;omega) (by omega)⟩ ?_ ?_
 ·rintro σ H ⟨O,P,ah,be,l,n,d,m,rfl,t,l1⟩;walk_at "t";rw[D_] at l1;exact hN'.out _ _ ⟨O,P,_,_,_,_,_,_,_,rfl,t,l1.skip (fun p' q' hq z=>by rw[d_,A_];unfold Dn at *;omega) (by rw[d_,A_];omega)⟩
 rintro J i B2 σ H N2 e2 ⟨O,P,ah,be,l,n,d,m,rfl,t,l1⟩ hN2;walk_at "t";have hA2:J.length<ns.length - (A.length+1):=by have:=W_ List.length e2;simp only[d_,j_,D_] at this;omega
 have hi2:i=J.length:=by
  have h1:(List.range (ns.length - (A.length+1)))[J.length]?=some i:=by rw[e2,Yx (l_ _)];simp
  rw[YK hA2] at h1;exact (O_ h1).symm
 subst hi2;have hM:Box (∀(b1 b2 b3:Bool) (ah be:Int) (l n d m:Option T) (H':Hp3),LkH H3 H' pk I pq us (bif b1 then O++[(b A.length,b (A.length+1+J.length))] else O) (bif b3 then (bif b2 then P++[(M A.length (A.length+1+J.length),b A.length,b (A.length+1+J.length))] else P)++[(M A.length (A.length+1+J.length),b (A.length+1+J.length),b A.length)] else (bif b2 then P++[(M A.length (A.length+1+J.length),b A.length,b (A.length+1+J.length))] else P))->N2 [some (.ref a),some (.ref pn),some (.ref ps),some (.ref pk),some (.int bs),some (.int ah),some (.int be),some (.ref I),some (.ref pq),some (.int (A.length:Int)),l,n,d,m] H'):=⟨fun b1 b2 b3 ah be l n d m H' hl=>hN2 _ _ ⟨_,_,_,_,_,_,_,_,rfl,hl,by
  have:=l1.step hinj.out (by omega) (by omega) b1 b2 b3
  rw[d_,A_]
  exact this⟩⟩
 have ol:=l1.ol;have pl_:=l1.pl;clear hN2 e2 hN' l1;obtain⟨q,hq⟩:∃q,q=A.length+1+J.length:=⟨_,rfl⟩;have hqm:q<ns.length:=by omega
 have eqI:(A.length:Int)+1+(J.length:Int)=(q:Int):=by omega
 rw[<- hq] at hM ol pl_;obtain⟨ip,up⟩:=x.out A.length hA;obtain⟨iq,uq⟩:=x.out q hqm;have u1:atI (us.map trT) (A.length:Int)=some (.tup [.int (((c.map (·.1)).getD (U A.length) 0:Nat):Int),.int (us.getD A.length (0,0,0)).2.1,.int (U A.length:Int)]):=cz (by rw[y_,up];rfl);have u2:atI (us.map trT) (q:Int)=some (.tup [.int (((c.map (·.1)).getD (U q) 0:Nat):Int),.int (us.getD q (0,0,0)).2.1,.int (U q:Int)]):=cz (by rw[y_,uq];rfl);have n1:atI (ns.map T.str) (U A.length:Int)=some (.str (b A.length)):=cz (by rw[y_,D _ hA];rfl);have n2:atI (ns.map T.str) (U q:Int)=some (.str (b q)):=cz (by rw[y_,D _ hqm];rfl);have hw:=hwd'.out A.length q;have S:=t.k;have gn:=t.sb _ _ hpn;have go:=t.o;dsimp only;rw[eqI];clear eqI hq;generalize (c.map (·.1)).getD (U A.length) 0=s1 at *;generalize (c.map (·.1)).getD (U q) 0=s2 at *;refine aB fun Ra hRa=>?_;walk_at "";obtain⟨hRa⟩:=hRa;subst hRa;refine aB fun Rb hRb=>?_;walk_at "";obtain⟨hRb⟩:=hRb;subst hRb;refine aB fun Rc hRc=>?_;walk_at "";refine⟨by omega,?_⟩;refine wK (p1:=True/\True) ⟨trivial,trivial⟩ (by decide) (by omega) fun b1 Hb eb=>?_;have lhb:LkH H3 Hb pk I pq us (bif b1 then O++[(b A.length,b q)] else O) P:=by
  cases b1
  ·rw[eb];exact t
  have:=t.putO (O':=O++[(b A.length,b q)]);rw[x_] at this;rw[eb];exact this
 clear eb S gn go t;have S:=lhb.k;obtain⟨hRc⟩:=hRc;subst hRc;refine aB fun Rd hRd=>?_;walk_at "";refine⟨by decide,fun q1 v=>?_⟩;have R:=lhb.new (u:=.lst [T.str "apart",T.str "with"]) v;have W:up3 Hb q1 (.lst [T.str "apart",T.str "with"]) q1=some (.lst [T.str "apart",T.str "with"]):=au;generalize up3 Hb q1 (.lst [T.str "apart",T.str "with"])=Hc at R W ⊢;clear lhb S v;have S:=R.k;walk_at "";have hwd2:atI [T.str "apart",T.str "with"] (if decide ((s1:Int)=(s2:Int))=true then 1 else 0)=some (T.str (M A.length q)):=by
  by_cases z:s1=s2
  ·rw[hw,if_pos z,L_ (by rw[z]),if_pos rfl];rfl
  rw[hw,if_neg z,H_ (by omega),if_neg J_];rfl
 rw[hwd2,fG];clear hwd2 hw W S;obtain⟨hRd⟩:=hRd;subst hRd;have gp:=R.p;refine aB fun Re hRe=>?_;walk_at "";refine⟨by decide,by decide,rfl,rfl,?_⟩;refine wK (p1:=True/\True) ⟨trivial,trivial⟩ (by decide) (by omega) fun b2 Hd ed=>?_;have lhd:LkH H3 Hd pk I pq us (bif b1 then O++[(b A.length,b q)] else O) (bif b2 then P++[(M A.length q,b A.length,b q)] else P):=by
  cases b2
  ·rw[ed];exact R
  have:=R.putP (P':=P++[(M A.length q,b A.length,b q)]);rw[x_] at this;rw[ed];exact this
 have hP1:(bif b2 then P++[(M A.length q,b A.length,b q)] else P).length<=2*(9*A.length+q)+1:=by
  cases b2
  ·exact Nat.le_succ_of_le pl_
  show (P++[_]).length<=_;rw[d_];simp;exact pl_
 have hM2:=Box.mk (hM.out b1 b2);clear ed R gp hM;generalize (bif b2 then P++[(M A.length q,b A.length,b q)] else P)=P1 at *;obtain⟨hRe⟩:=hRe;subst hRe;have gp:=lhd.p;refine aB fun Rf hRf=>?_;walk_at "";refine⟨by decide,by decide,rfl,rfl,?_⟩;refine wK (p1:=True/\True) ⟨trivial,trivial⟩ (by decide) (by omega) fun b3 He ee=>?_;have lhe:LkH H3 He pk I pq us (bif b1 then O++[(b A.length,b q)] else O) (bif b3 then P1++[(M A.length q,b q,b A.length)] else P1):=by
  cases b3
  ·rw[ee];exact lhd
  have:=lhd.putP (P':=P1++[(M A.length q,b q,b A.length)]);rw[x_] at this;rw[ee];exact this
 clear ee lhd gp;obtain⟨hRf⟩:=hRf;subst hRf;walk_at "";exact⟨⟨by omega,lgb⟩,⟨by decide,by decide +kernel⟩,hM2.out b3 _ _ _ _ _ _ _ lhe⟩
abbrev jQ:List Str:=["_law_script","_law_most","_law_wide","_law_first","_law_pool_here","_law_spread","_law_kinds","_law_row","_law_k","_law_unit","_law_some","_law_names","_law_tasks","_law_orders","_law_pairs"]
def sc_works:FnScope jQ ["_law_script","_law_most","_law_wide"] (aC (top 51)):=bf
def GZ {f:Addr} (g:G3 K mg "_law_works" (top 51) ["_law_script","_law_most","_law_wide"] f fd) (B:Bl mg) (l:Cal P w K mg base 1 "_law_cell" (top 45) ["_law_script","_law_k"] Km) (F_pool:Cal P w K mg base 2 "_law_pool" (top 48) ["_law_cell_here"] Wx) (F_task:Cal P w K mg base 2 "_law_task" (top 49) ["_law_cell_here","_law_row","_law_pool_here","_law_unit"] Wz) (L:Cal P w K mg base 1 "_law_unlike" (top 47) ["_law_words"] RX) (X:Cal P w K mg base 2 "_law_links" (top 50) ["_law_script","_law_names","_law_some"] WD):Cal P w K mg base 3 "_law_works" (top 51) ["_law_script","_law_most","_law_wide"] WK:=by
 refine⟨f,fd,g,?_⟩;refine fn3 g.fn sc_works (fun ts H Q h=>?_) (fun cdv A outer s H E ts H3 Q hr h=>?_)
 ·obtain⟨a,sc,m,c,rfl,_⟩:=h;rfl
 obtain⟨a,sc,m,c,rfl,ha,M,m1,m8,w1,w8,kk⟩:=h;refine⟨_,(ak (aG (i:=3) sc_works.nd (aU l hr rfl (aa (v3 0) (aa aq ao))))
   (ak (aG (i:=4) sc_works.nd (aU F_pool hr rfl (aa (aU l hr rfl (aa (v3 0) (aa aq ao))) ao)))
   (ak (aG (i:=5) sc_works.nd (aK ix3 (bx (aa aq (aa aq (aa aq (aa aq ao))))) (aH aZ (aH bD (v3 3) aq) aq)))
   (ak (aG (i:=6) sc_works.nd (aU l hr rfl (aa (v3 0) (aa aq ao))))
   (ak (aG (i:=7) sc_works.nd (bx ao))
   (ak (bc F_ rfl (cR rfl B.range_ (aa (aH bB aq (aH aZ (aH bD (v3 3) aq) (v3 2))) ao)) (aD (i:=8) sc_works.nd) (ak (bC (dm E_ M_ N_ bj (v3 7) (aa (aK ix3 (v3 4) (aH aZ (v3 6) (v3 5))) ao)))
    (aA (aG (i:=6) sc_works.nd (aH bD (v3 6) (v3 5))))))
   (ak (aG (i:=9) sc_works.nd (aH bB aq (aH aZ (aU l hr rfl (aa (v3 0) (aa aq ao))) (aH jf aq aq))))
   (ak (aG (i:=10) sc_works.nd (bx ao))
   (ak (bc F_ rfl (cR rfl B.range_ (aa (aH bB aq (aH aZ (aH bD (v3 3) aq) (v3 1))) ao)) (aD (i:=8) sc_works.nd) (aA (bC (dm E_ M_ N_ bj (v3 10) (aa (aU F_task hr rfl (aa (aU l hr rfl (aa (v3 0) (aa (aH bB aq (v3 8)) ao))) (aa (v3 7) (aa (v3 4) (aa (v3 9) ao))))) ao)))))
   (ak (aG (i:=11) sc_works.nd (aU L hr rfl (aa (bO rfl (bN (n0:=(aC (top 51)).names) (N:=jQ) (N':=["_law_one"]) (nt:=1) (cap:=[]) rfl rfl (by decide +kernel)) (bV (v3 10)) (fun cl pins s H C0 fp=>⟨(aD (i:=0) (show List.Nodup [("_law_one":Str)] by decide +kernel)),cB,(aK ix3 (v3 0) aq)⟩)) ao)))
   (ak (iD (i:=12) rfl sc_works.nd (bN (n0:=(aC (top 51)).names) (N:=jQ) (N':=["_law_name","_law_one"]) (nt:=2) (cap:=[]) rfl rfl (by decide +kernel)) (JH rfl B.zip_ (aa (v3 11) (aa (v3 10) ao))) (fun cl pins s H C0 fp=>⟨(cg (n:=2) rfl (aJ (aD (i:=0) (show List.Nodup [("_law_name":Str),("_law_one":Str)] by decide +kernel)) (aJ (aD (i:=1) (show List.Nodup [("_law_name":Str),("_law_one":Str)] by decide +kernel)) bH))),cB,(bG (aa (v3 0) (aa (aK ix3 (v3 1) aq) (aa (aK ix3 (v3 1) aq) ao))))⟩))
   (ak (gZ (aU X hr rfl (aa (v3 0) (aa (v3 11) (aa (v3 10) ao)))) (cg (n:=2) rfl (aJ (aD (i:=13) sc_works.nd) (aJ (aD (i:=14) sc_works.nd) bH))))
   (aA (aN (bG (aa (bG (aa (bM cY rfl B.tuple_ cj (aa (v3 12) ao)) (aa (v3 13) (aa (v3 14) (aa (bM cY rfl B.tuple_ cj (aa (v3 7) ao)) ao))))) (aa (bO rfl (bN (n0:=(aC (top 51)).names) (N:=jQ) (N':=["_law_one"]) (nt:=1) (cap:=[]) rfl rfl (by decide +kernel)) (bV (v3 10)) (fun cl pins s H C0 fp=>⟨(aD (i:=0) (show List.Nodup [("_law_one":Str)] by decide +kernel)),cB,(aK ix3 (v3 0) aq)⟩)) ao))))))))))))))))),?_⟩
 rw[show aQ jQ [T.ref a,T.int m,T.int c]=[some (T.ref a),some (T.int m),some (T.int c),none,none,none,none,none,none,none,none,none,none,none,none] from rfl];walk_at "h";have k':=Box.mk kk;clear kk;walk_at "s";refine⟨a,sc,0,rfl,ha,M,by decide,fun v=>?_⟩;walk_at "n";walk_at "s";refine⟨a,sc,2,rfl,ha,M,by decide,fun c1=>⟨c1,rfl,fun d hpl J I hpp=>?_⟩⟩;have sb1:Sub3 H3 (up3 H3 I (.lst (d.map T.str))):=Sub3.new hpp;have gp1:up3 H3 I (.lst (d.map T.str)) I=some (.lst (d.map T.str)):=au;generalize up3 H3 I (.lst (d.map T.str))=H4 at sb1 gp1 ⊢;clear hpp;walk_at "n";refine aB fun R2 hR2=>?_;obtain⟨sp,eb,hsp⟩:∃sp:Int,atI [T.int 1,T.int 2,T.int 3,T.int 8] (v / 512%4)=some (T.int sp)/\1<=sp/\sp<=8:=by
  have i0:=V_ (v / 512) (show (4:Int)≠0 by decide);have i1:=R_ (v / 512) (show (0:Int)<4 by decide);rcases (show v / 512%4=0\/v / 512%4=1\/v / 512%4=2\/v / 512%4=3 by omega) with h | h | h | h
  ·rw[h];exact⟨1,rfl,by decide⟩
  ·rw[h];exact⟨2,rfl,by decide⟩
  ·rw[h];exact⟨3,rfl,by decide⟩
  rw[h];exact⟨8,rfl,by decide⟩
 walk_at "";refine⟨by decide,fun q1 C=>⟨⟨by decide,by decide +kernel⟩,by decide,?_⟩⟩;try rw[eb,fG]
 have sb2:=sb1.trans (Sub3.new (o:=.lst [T.int 1,T.int 2,T.int 3,T.int 8]) C);have gp2:up3 H4 q1 (.lst [T.int 1,T.int 2,T.int 3,T.int 8]) I=_ := upa gp1 C;generalize up3 H4 q1 (.lst [T.int 1,T.int 2,T.int 3,T.int 8])=H5 at sb2 gp2 ⊢;have lgs:sp.natAbs.log2<9000:=aan (aaC _) (by omega);clear sb1 gp1 C eb;walk_at "n";walk_at "s";refine⟨a,sc,1,rfl,sb2 _ _ ha,M,by decide,fun c2=>?_⟩;walk_at "n";walk_at "s";refine⟨by decide,fun U hpr=>?_⟩;have sb3:=sb2.trans (Sub3.new (o:=.lst []) hpr);have f0:=cu sb2 hpr;have gp3:up3 H5 U (.lst []) I=_ := upa gp2 hpr;have npr:I≠U:=bz gp2 hpr;have gr3:up3 H5 U (.lst []) U=some (.lst (([]:List Str).map T.str)):=au;generalize up3 H5 U (.lst [])=H6 at sb3 gp3 gr3 ⊢;clear sb2 gp2 hpr;walk_at "n";refine aB fun R5 hR5=>?_;walk_at "";have w0:=V_ (v / 2) (show c≠0 by omega);have w2:=R_ (v / 2) (show 0<c by omega);refine⟨⟨by decide,by decide +kernel⟩,by omega,by first | trivial | omega,by omega,by omega,?_⟩;have rl:(d8 0 (1+v / 2%c).toNat).length=(1+v / 2%c).toNat:=by unfold d8;rw[e_,D_]
 generalize d8 0 (1+v / 2%c).toNat=ts0 at rl;have hpn':=Box.mk J;clear J;refine iG (fun r σ H=>∃(k:List Str) (c2:Int) (v8:Option T),σ=[some (.ref a),some (.int m),some (.int c),some (.int v),some (.ref I),some (.int sp),some (.int c2),some (.ref U),v8,none,none,none,none,none,none]/\Sub3 H3 H/\H I=some (.lst (d.map T.str))/\H U=some (.lst (k.map T.str))/\(k.length:Int)+r.length=1+v / 2%c/\∀x∈k,isNm x) ⟨[],c2,_,rfl,sb3,gp3,gr3,by rw[rl,Y0];omega,(fun _ z=>nomatch z)⟩ ?_ ?_
 ·rintro σ H ⟨k,c3,v8,rfl,V,gp,gr,Y,hrn⟩;walk_at "t";rw[Y0] at Y;have r1:1<=k.length:=by omega
  have r8:k.length<=8:=by omega
  have rw_:(k.length:Int)<=c:=by omega
  have F:=Box.mk hrn;clear hrn sb3 gp3 gr3 Y rl w0 w2;walk_at "n";walk_at "s";refine⟨a,sc,3,rfl,V _ _ ha,M,by decide,fun c4=>⟨⟨by decide,by decide,by decide⟩,?_⟩⟩;walk_at "";refine⟨by decide +kernel,?_⟩;have p57:(10:Int)^Int.toNat 57=10^57:=rfl;rw[p57];have u0:=V_ c4 (show ((10:Int)^57)≠0 by decide +kernel);have u9:=R_ c4 (show (0:Int)<(10:Int)^57 by decide +kernel);obtain⟨q,hu⟩:∃q:Int,1+c4%10^57=q:=⟨_,rfl⟩;have u1:1<=q:=by omega
  have u2:q<=10^57:=by omega
  rw[hu];clear hu u0 u9 p57;walk_at "n";walk_at "s";refine⟨by decide,fun ps D=>?_⟩;have sb4:=V.trans (Sub3.new (o:=.lst []) D);have g0:=cu V D;have gp4:up3 H ps (.lst []) I=_ := upa gp D;have gr4:up3 H ps (.lst []) U=_ := upa gr D;have gs4:up3 H ps (.lst []) ps=some (.lst (([]:List Tk5).map tk5)):=au;have nps1:I≠ps:=bz gp D;have nps2:U≠ps:=bz gr D;generalize up3 H ps (.lst [])=H7 at sb4 gp4 gr4 gs4 ⊢;clear V gp gr D;walk_at "n";refine aB fun R8 hR8=>?_;walk_at "";have t0:=V_ (v / 64) (show m≠0 by omega);have t2:=R_ (v / 64) (show 0<m by omega);refine⟨⟨by decide,by decide +kernel⟩,by omega,by first | trivial | omega,by omega,by omega,?_⟩;obtain⟨n,hn⟩:∃n:Nat,(1+v / 64%m).toNat=n:=⟨_,rfl⟩;have n1:1<=n:=by omega
  have n8:n<=8:=by omega
  have nm_:(n:Int)<=m:=by omega
  rw[hn,ug];clear hn t0 t2;refine aW (fun (i:Nat)=>T.int (i:Int)) (List.range n) (fun A σ H=>∃(p:List Tk5) (v8:Option T),σ=[some (.ref a),some (.int m),some (.int c),some (.int v),some (.ref I),some (.int sp),some (.int c3),some (.ref U),v8,some (.int q),some (.ref ps),none,none,none,none]/\Sub3 H3 H/\H I=some (.lst (d.map T.str))/\H U=some (.lst (k.map T.str))/\H ps=some (.lst (p.map tk5))/\p.length=A.length/\∀t∈p,TkO k t) ⟨[],_,rfl,sb4,gp4,gr4,gs4,rfl,(fun _ z=>nomatch z)⟩ ?_ ?_
  ·rintro σ H ⟨p,v8,rfl,V,gp,gr,gs,hsl,hss⟩;walk_at "t";rw[D_] at hsl;have G:=Box.mk hss;clear hss sb4 gp4 gr4 gs4;walk_at "n";refine aB fun R9 hR9=>?_;walk_at "";walk_at "c";refine bI tk5 (fun t=>T.str t.2.2.2.2) p [] (.inl gs) (by omega) (fun t ht Q' hq=>?_) (fun q1 C=>?_)
   ·have x1:atI [T.int (t.1:Int),T.int t.2.1,T.int t.2.2.1,sT t.2.2.2.1,T.str t.2.2.2.2] 4=some (T.str t.2.2.2.2):=rfl;have W:=Box.mk hq;clear hq k' hR9;simp only[tk5];walk_at "";exact W.out
   rw[show (p.map fun t=>T.str t.2.2.2.2)=(p.map (·.2.2.2.2)).map T.str by rw[YC];rfl];refine⟨q1,p.map (·.2.2.2.2),rfl,au,by rw[e_];omega,fun x hx=>?_,fun ns hnl hnn pn J=>?_⟩
   ·obtain⟨t,ht,rfl⟩:=z_.mp hx;exact (G.out t ht).nm
   rw[e_] at hnl;have sb5:=V.trans ((Sub3.new C).trans (Sub3.new (o:=.lst (ns.map T.str)) J));have st5:=(Sub3.new C).trans (Sub3.new (o:=.lst (ns.map T.str)) J);have gr5:=st5 _ _ gr;have gs5:=st5 _ _ gs;have gn5:up3 (up3 H q1 (.lst ((p.map (·.2.2.2.2)).map T.str))) pn (.lst (ns.map T.str)) pn=some (.lst (ns.map T.str)):=au;try dsimp only
   generalize up3 (up3 H q1 (.lst ((p.map (·.2.2.2.2)).map T.str))) pn (.lst (ns.map T.str))=H8 at sb5 gr5 gs5 gn5 ⊢;clear st5 V gp gr gs C J;walk_at "n";refine aB fun R10 hR10=>?_;walk_at "";rw[m9,show ∀x0 x1 x2 x3 x4 x5 x6 x7 x8 x9 x10 x11 x12 x13 x14,qb 2 [] [x0,x1,x2,x3,x4,x5,x6,x7,x8,x9,x10,x11,x12,x13,x14]=[none,none] from fun _ _ _ _ _ _ _ _ _ _ _ _ _ _ _=>rfl];refine sV (fun z=>T.str z.1) (fun z=>tk5 z.2) (fun z=>.tup [.str z.1,.int z.2.2.2.1,sT z.2.2.2.2.1]) (ns.zip p) [] (still:=fun H'=>bF pn (ns.map T.str) H'/\bF ps (p.map tk5) H') (H:=H8) ⟨.inl gn5,.inl gs5⟩ (by rw[List.length_zip];omega) (fun z S Q' hq=>?_) ?_
   ·obtain⟨zn,R⟩:=z;have x2:atI [T.int (R.1:Int),T.int R.2.1,T.int R.2.2.1,sT R.2.2.2.1,T.str R.2.2.2.2] 2=some (T.int R.2.2.1):=rfl;have x3:atI [T.int (R.1:Int),T.int R.2.1,T.int R.2.2.1,sT R.2.2.2.1,T.str R.2.2.2.2] 3=some (sT R.2.2.2.1):=rfl;have W:=Box.mk hq;clear hq k' hR10;simp only[tk5];walk_at "";exact⟨by decide,W.out⟩
   try dsimp only
   intro pt hpt;have Z:=Sub3.new (o:=.lst ((ns.zip p).map fun z=>T.tup [.str z.1,.int z.2.2.2.1,sT z.2.2.2.2.1])) hpt;have gr6:=Z _ _ gr5;have gs6:=Z _ _ gs5;have gn6:=Z _ _ gn5;have gt6:up3 H8 pt (.lst ((ns.zip p).map fun z=>T.tup [.str z.1,.int z.2.2.2.1,sT z.2.2.2.2.1])) pt=some (.lst ((ns.zip p).map fun z=>T.tup [.str z.1,.int z.2.2.2.1,sT z.2.2.2.2.1])):=au;have sb6:Sub3 H3 (up3 H8 pt (.lst ((ns.zip p).map fun z=>T.tup [.str z.1,.int z.2.2.2.1,sT z.2.2.2.2.1]))):=sb5.trans Z;try dsimp only
   generalize up3 H8 pt (.lst ((ns.zip p).map fun z=>T.tup [.str z.1,.int z.2.2.2.1,sT z.2.2.2.2.1]))=H9 at sb6 gr6 gs6 gn6 gt6 ⊢;clear Z sb5 gr5 gs5 gn5 hpt;walk_at "n";walk_at "s";refine⟨a,pn,ps,sc,ns,p,rfl,sb6 _ _ ha,M,gn6,hnn,by omega,gs6,by omega,fun O P lk=>?_⟩;try walk_at ""
   walk_at "n";walk_at "";refine⟨trivial,by decide,?_⟩;walk_at "c";refine bI tk5 (fun t=>T.int (t.1:Int)) p [] (.inl gs6) (by omega) (fun t ht Q' hq=>?_) (fun pz hpz=>?_)
   ·have x0:atI [T.int (t.1:Int),T.int t.2.1,T.int t.2.2.1,sT t.2.2.2.1,T.str t.2.2.2.2] 0=some (T.int (t.1:Int)):=rfl;have W:=Box.mk hq;clear hq k';simp only[tk5];walk_at "";exact W.out
   obtain⟨ok,ft,el⟩:=Ss hnn (by omega) (by omega) (by omega) G.out r1 r8 F.out lk;refine⟨by decide,?_⟩;have ee:(p.map fun t=>T.int (t.1:Int))=(p.map (·.1)).map fun (s:Nat)=>T.int (s:Int):=by rw[YC];rfl
   have ew:T.tup [T.tup ((ns.zip p).map fun z=>T.tup [T.str z.1,T.int z.2.2.2.1,sT z.2.2.2.2.1]),T.tup (O.map orT),T.tup (P.map prT),T.tup (k.map T.str)]=(mkW ns p O P k).enc:=by unfold Wk.enc mkW;rw[YC];rfl
   rw[ee,ew];refine Fin3.of ?_ (k'.out (mkW ns p O P k) (p.map (·.1)) ok (by rw[el];omega) rw_ ft pz (cu sb6 hpz));intro b o hb;by_cases e:b=pz
   ·subst e;rw[au] at hb ⊢;exact hb
   rw[aF e] at hb ⊢;exact sb6 b o hb
  rintro A i B σ H N e ⟨p,v8,rfl,V,gp,gr,gs,hsl,hss⟩ hN;walk_at "t";have hA:A.length<n:=by have:=W_ List.length e;simp only[d_,j_,D_] at this;omega
  have hi:i<n:=YF.mp (by rw[e];simp);have hM:=Box.mk hN;have G:=Box.mk hss;clear hN hss e sb4 gp4 gr4 gs4 k' hR8;walk_at "";refine⟨⟨trivial,trivial⟩,a,sc,4+i,by rw[show (4:Int)+(i:Int)=((4+i:Nat):Int) by push_cast;rfl],V _ _ ha,M,by omega,fun c5=>⟨c5,U,I,k,d,q,rfl,gr,r1,r8,F.out,gp,hpl,hpn'.out.nm,u1,u2,fun s tn len ks nam h1 h2 h3 h4 h5 h6 h7 h8 h9=>?_⟩⟩;dsimp only;rw[gs,Cr];refine⟨by rw[e_];omega,hM.out _ _ ⟨p++[(s,tn,len,ks,nam)],_,rfl,fun b u hb=>?_,?_,?_,?_,by rw[d_,d_,hsl];rfl,fun z S=>?_⟩⟩
  ·rw[aF (bz hb g0)];exact V b u hb
  ·rw[aF nps1];exact gp
  ·rw[aF nps2];exact gr
  ·rw[au,x_];rfl
  rcases v_.mp S with S | S
  ·exact G.out z S
  rw[i_.mp S];exact⟨h1,h4,h5,h6,h7,h8,h9⟩
 rintro x r σ H N ⟨k,c3,v8,rfl,V,gp,gr,Y,hrn⟩ hN;walk_at "t";rw[j_] at Y;have hM:=Box.mk hN;have F:=Box.mk hrn;have hj0:=V_ c3 (show sp≠0 by omega);have hj1:=R_ c3 (show 0<sp by omega);obtain⟨j,hj⟩:∃j:Nat,c3%sp=(j:Int):=⟨(c3%sp).toNat,by omega⟩;have hat:=lR (ns:=d) (i:=j) (by omega);have hnx:=hpn'.out.nm _ (getD_memS (ns:=d) (i:=j) (by omega));generalize d.getD j ""=y at hat hnx;clear hN hrn sb3 gp3 gr3 k' hR5;walk_at "";refine⟨⟨trivial,trivial⟩,by omega,by omega,⟨by omega,lgs⟩,hM.out _ _ ⟨k++[y],_,_,rfl,fun b u hb=>?_,?_,?_,by rw[d_,A_];push_cast;push_cast at Y;omega,fun z S=>?_⟩⟩
 ·rw[aF (bz hb f0)];exact V b u hb
 ·rw[aF npr];exact gp
 ·rw[au,x_];rfl
 rcases v_.mp S with S | S
 ·exact F.out z S
 rw[i_.mp S];exact hnx
abbrev yQ:List Str:=["_law_works_here","_law_stands","_law_found","_law_task_here","_law_stand"]
def sc_loads:FnScope yQ ["_law_works_here","_law_stands"] (aC (top 52)):=bf
def G4 {f:Addr}{V:FuncData}(g:G3 K mg "_law_loads" (top 52) ["_law_works_here","_law_stands"] f V) (B:Bl mg):Cal P w K mg base 1 "_law_loads" (top 52) ["_law_works_here","_law_stands"] Su:=by
 refine⟨f,V,g,?_⟩;refine fn3 g.fn sc_loads (fun ts H Q h=>?_) (fun Z A outer s H E ts H3 Q hr h=>?_)
 ·obtain⟨W,q,sts,rfl,_⟩:=h;rfl
 obtain⟨W,q,sts,rfl,R,C,Y,r,G⟩:=h;refine⟨_,(ak (aG (i:=2) sc_loads.nd (aH vV (bx (aa aq ao)) (aM cD rfl B.len_ cF (aa (aK ix3 (v3 0) aq) ao))))
   (ak (bc F_ rfl (JL rfl B.zip_ (aa (aK ix3 (v3 0) aq) (aa (v3 1) ao))) (cg (n:=2) rfl (aJ (aD (i:=3) sc_loads.nd) (aJ (aD (i:=4) sc_loads.nd) bH))) (aA (gZ (aH bB (aK ix3 (v3 2) (v3 4)) (aK ix3 (v3 3) aq)) (BJ (v3 2) (v3 4) o4))))
   (aA (aN (v3 2))))),?_⟩
 rw[show aQ yQ [W.enc,T.ref q]=[some (W.enc),some (T.ref q),none,none,none] from rfl];walk_at "h";have X:=Box.mk G;clear G;have r8:=R.r8;have t8:=R.t8;walk_at "s";refine⟨by decide,fun x m=>⟨⟨by omega,by omega,by omega⟩,fun d k=>?_⟩⟩;have J:∀n:Nat,(List.replicate n [T.int 0]).flatten=(List.replicate n (0:Int)).map T.int:=fun n=>by
  induction n with
  |zero=>rfl
  |succ n ih=>rw[Y8,Y8,Zm,ih];rfl
 rw[J];have I:=(cL k).2;have c:Sub3 H3 (up3 (up3 H3 x (.lst [T.int 0])) d (.lst ((List.replicate W.row.length (0:Int)).map T.int))):=(Sub3.new m).trans (Sub3.new k);have l:up3 (up3 H3 x (.lst [T.int 0])) d (.lst ((List.replicate W.row.length (0:Int)).map T.int)) d=some (.lst ((List.replicate W.row.length (0:Int)).map T.int)):=au;have t:=c _ _ C;generalize up3 (up3 H3 x (.lst [T.int 0])) d (.lst ((List.replicate W.row.length (0:Int)).map T.int))=H4 at c l t ⊢;clear J k m;walk_at "n";refine aB fun R1 v=>?_;walk_at "";rw[m9];have p:=Box.mk r;clear r;refine aW (fun z=>T.tup [tkT z.1,T.int (z.2:Int)]) (W.tasks.zip sts) (fun A D H=>∃(v3 y:Option T),D=[some W.enc,some (.ref q),some (.ref d),v3,y]/\Sub3 H3 H/\H d=some (.lst ((A.foldl ldZ (List.replicate W.row.length 0)).map T.int))) ⟨_,_,rfl,c,l⟩ ?_ ?_
 ·rintro D H ⟨v3,y,rfl,u,O⟩;refine⟨.inl (u _ _ C),?_⟩;walk_at "n";walk_at "";refine Fin3.of (fun b o j=>?_) (X.out d I);by_cases e:b=d
  ·subst e;rw[au] at j;rw[<- j];exact O
  rw[aF e] at j;exact u b o j
 rintro A z B D H N e ⟨v3,y,rfl,u,O⟩ F;refine⟨.inl (u _ _ C),?_⟩;have U:z∈W.tasks.zip sts:=by rw[e];simp
 have hs:z.2<W.row.length:=p.out _ (aaI U).2;have a:(A++[z]).foldl ldZ (List.replicate W.row.length 0)=ldZ (A.foldl ldZ (List.replicate W.row.length 0)) z:=by rw[aab];rfl
 have hll:(A.foldl ldZ (List.replicate W.row.length 0)).length=W.row.length:=by rw[yJ,YX]
 have M:=Box.mk F;clear F e c l t X v U;rw[a] at M;generalize A.foldl ldZ (List.replicate W.row.length 0)=L at *;clear a;have x1:atI (L.map T.int) (z.2:Int)=some (T.int (L.getD z.2 0)):=by
  have S:z.2<L.length:=by omega
  rw[cz (by rw[y_,g_ S];rfl),h_,g_ S];rfl
 obtain⟨⟨tn,tl,tk⟩,zs⟩:=z;simp only[tkT];walk_at "";rw[xZ hs,fG];refine⟨trivial,M.out _ _ ⟨_,_,rfl,fun b o j=>?_,?_⟩⟩
 ·rw[aF (bz j I)];exact u b o j
 rw[au];unfold ldZ;rw[List.map_set]
abbrev wY:List Str:=["_law_cell_here","_law_works_here","_law_stands","_law_loads_here","_law_total","_law_some"]
def sc_beat:FnScope wY ["_law_cell_here","_law_works_here","_law_stands"] (aC (top 53)):=bf
def K1 {f:Addr} (g:G3 K mg "_law_beat" (top 53) ["_law_cell_here","_law_works_here","_law_stands"] f fd) (B:Bl mg) (b:Cal P w K mg base 1 "_law_loads" (top 52) ["_law_works_here","_law_stands"] Su):Cal P w K mg base 2 "_law_beat" (top 53) ["_law_cell_here","_law_works_here","_law_stands"] WL:=by
 refine⟨f,fd,g,?_⟩;refine fn3 g.fn sc_beat (fun ts H Q h=>?_) (fun cdv A outer s H E ts H3 Q hr h=>?_)
 ·obtain⟨c,W,q,sts,rfl,_⟩:=h;rfl
 obtain⟨c,W,q,sts,rfl,l,O,hsl,F,kk⟩:=h;refine⟨_,(ak (aG (i:=3) sc_beat.nd (aU b hr rfl (aa (v3 1) (aa (v3 2) ao))))
   (ak (aG (i:=4) sc_beat.nd (aM (vD rfl) rfl B.sum_ vG (aa (v3 3) ao)))
   (ak (aG (i:=5) sc_beat.nd (bx (aa (aM (iI rfl) rfl B.max_ jk (aa (v3 3) ao)) (aa (aM (iI rfl) rfl B.max_ jk (aa (v3 3) ao)) (aa (aM (Jk rfl) rfl B.max_ jk (aa aq (aa (aH qe (aM (iI rfl) rfl B.max_ jk (aa (v3 3) ao)) aq) ao))) (aa (aH bD (v3 4) (aM cD rfl B.len_ cF (aa (v3 3) ao))) (aa (aH bB (aH bD (v3 4) (aM cD rfl B.len_ cF (aa (v3 3) ao))) aq) ao)))))))
   (ak (aG (i:=5) sc_beat.nd (aH bB (v3 5) (bx (aa (aM (iI rfl) rfl B.max_ jk (aa (bO rfl (bN (n0:=(aC (top 53)).names) (N:=wY) (N':=["_law_task_here"]) (nt:=1) (cap:=[]) rfl rfl (by decide +kernel)) (bJ (aK ix3 (v3 1) aq)) (fun cl pins s H C0 fp=>⟨(aD (i:=0) (show List.Nodup [("_law_task_here":Str)] by decide +kernel)),cB,(aK ix3 (v3 0) aq)⟩)) ao)) (aa (v3 4) ao)))))
   (ak (aG (i:=5) sc_beat.nd (aH bB (v3 5) (bx (aa (aH aZ (aH bD (v3 0) aq) (aM (Jl rfl) rfl B.min_ Qp (aa (aH di aq (v3 4)) (aa (aH di aq (aH jf aq aq)) ao)))) (aa (aH aZ (aH bD (v3 0) aq) (aH jf aq aq)) ao)))))
   (aA (aN (aK ix3 (v3 5) (aH aZ (v3 0) aq))))))))),?_⟩
 rw[show aQ wY [T.int c,W.enc,T.ref q]=[some (T.int c),some (W.enc),some (T.ref q),none,none,none] from rfl];walk_at "h";have k':=Box.mk kk;clear kk;have r1:=l.r1;have r8:=l.r8;have t8:=l.t8;have t1:=l.t1;have hln:=yK W sts;have Y:=Sv (sts:=sts) l;have Z:=Ks hsl F;have htp:=Ku l;rw[<- Z] at htp;walk_at "s";refine⟨W,q,sts,rfl,l,O,hsl,F,fun pl hpl=>?_⟩;have r:Sub3 H3 (up3 H3 pl (.lst ((ldS W sts).map T.int))):=Sub3.new hpl;have gl:up3 H3 pl (.lst ((ldS W sts).map T.int)) pl=some (.lst ((ldS W sts).map T.int)):=au;have p:=Box.mk Y;clear Y Z F O;try dsimp only
 generalize up3 H3 pl (.lst ((ldS W sts).map T.int))=H4 at r gl ⊢;generalize ldS W sts=L at *;walk_at "n";refine aB fun R1 hR1=>?_;have is:=dW L;walk_at "";walk_at "n";refine aB fun R2 hR2=>?_;have U:(W.row.length:Int).natAbs.log2<9000:=aan (aaC _) (by omega);have hne:¬L=[]:=fun z=>by rw[z,Y0] at hln;omega
 walk_at "";refine⟨trivial,fun m1 hm1 _=>⟨trivial,fun m2 hm2 _=>⟨trivial,fun m3 hm3 _=>⟨⟨by omega,U⟩,⟨by omega,U⟩,by decide,fun p1 R=>?_⟩⟩⟩⟩;obtain⟨xs,M,J,u⟩:∃xs:List Int,[T.int m1,T.int m2,T.int (if m3 - 1>0 then m3 - 1 else 0),T.int (L.sum / (W.row.length:Int)),T.int (L.sum / (W.row.length:Int)+1)]=xs.map T.int/\(∀x∈xs,0<=x)/\xs.length=5:=by
  have d0:0<=L.sum / (W.row.length:Int):=Int.ediv_nonneg (by omega) (by omega);refine⟨[m1,m2,if m3 - 1>0 then m3 - 1 else 0,L.sum / (W.row.length:Int),L.sum / (W.row.length:Int)+1],rfl,fun x a=>?_,rfl⟩;simp only[u_,YB,ZV] at a;rcases a with rfl | rfl | rfl | rfl | rfl
  ·exact p.out _ hm1
  ·exact p.out _ hm2
  ·split <;> omega
  ·exact d0
  omega
 rw[M];have D:=r.trans (Sub3.new (o:=.lst (xs.map T.int)) R);have y:up3 H4 p1 (.lst (xs.map T.int)) p1=some (.lst (xs.map T.int)):=au;generalize up3 H4 p1 (.lst (xs.map T.int))=H5 at D y ⊢;clear M R r gl hm1 hm2 hm3;walk_at "n";refine aB fun R3 hR3=>?_;walk_at "";walk_at "c";have htk:=Box.mk l.tk;refine bI tkT (fun t=>T.int t.2.1) W.tasks [] trivial (by omega) (fun t ht Q' O=>?_) (fun p2 hp2=>?_)
 ·have x1:atI [T.str t.1,T.int t.2.1,sT t.2.2] 1=some (T.int t.2.1):=rfl;have hq':=Box.mk O;clear O k' hR3;simp only[tkT];walk_at "";exact hq'.out
 rw[show (W.tasks.map fun t=>T.int t.2.1)=(W.tasks.map (·.2.1)).map T.int by rw[YC];rfl,dW,fG];refine⟨fun z=>by have:=W_ List.length z;rw[e_,Y0] at this;omega,fun m hm _=>⟨by decide,fun p3 S=>?_⟩⟩;have hm0:0<=m:=by obtain⟨t,ht,rfl⟩:=z_.mp hm;have:=(htk.out t ht).lo;omega
 have v:=(Sub3.new (o:=.lst ((W.tasks.map (·.2.1)).map T.int)) hp2).trans (Sub3.new (o:=.lst [T.int m,T.int L.sum]) S);have G:=D.trans v;rw[v _ _ y,jX];generalize up3 (up3 H5 p2 (.lst ((W.tasks.map (·.2.1)).map T.int))) p3 (.lst [T.int m,T.int L.sum])=H6 at G ⊢;refine⟨by rw[e_,u,j_,A_];omega,fun p4 hp4=>?_⟩;obtain⟨e,I,hy0,hyl⟩:∃e:List Int,xs.map T.int++[T.int m,T.int L.sum]=e.map T.int/\(∀x∈e,0<=x)/\e.length=7:=by
  refine⟨xs++[m,L.sum],by rw[x_];rfl,fun x a=>?_,by rw[d_,u];rfl⟩;rcases v_.mp a with a | a
  ·exact J x a
  simp only[u_,YB,ZV] at a;rcases a with rfl | rfl
  ·exact hm0
  omega
 rw[I];have C:=G.trans (Sub3.new (o:=.lst (e.map T.int)) hp4);have gy:up3 H6 p4 (.lst (e.map T.int)) p4=some (.lst (e.map T.int)):=au;try dsimp only
 generalize up3 H6 p4 (.lst (e.map T.int))=H7 at C gy ⊢;clear I J u D y G v hp2 S hp4 hm;walk_at "n";walk_at "s";have X:0<(if 9*(10:Int)^Int.toNat 60<2*L.sum then 9*(10:Int)^Int.toNat 60 else 2*L.sum):=by
  split
  ·decide +kernel
  omega
 refine⟨⟨by decide,by decide +kernel⟩,.inl ⟨by decide,by decide⟩,⟨by decide,by decide,by decide⟩,.inl ⟨by decide,by decide⟩,X,⟨by decide,by decide +kernel⟩,⟨by decide,by decide,by decide⟩,by decide +kernel,by decide,fun p5 k=>?_⟩;generalize (if 9*(10:Int)^Int.toNat 60<2*L.sum then 9*(10:Int)^Int.toNat 60 else 2*L.sum)=mn at X k ⊢;have e0:=V_ (c / 9) (show mn≠0 by omega);have e1:=V_ (c / 9) (show ((10:Int)^Int.toNat 60)≠0 by decide +kernel);generalize c / 9%mn=a1 at e0 ⊢;generalize c / 9%(10:Int)^Int.toNat 60=a2 at e1 ⊢;rw[aF (bz gy k),gy,jX];refine⟨by rw[e_,hyl,j_,A_];omega,fun p6 hp6=>?_⟩;obtain⟨d,V,hz0,hzl⟩:∃d:List Int,e.map T.int++[T.int a1,T.int a2]=d.map T.int/\(∀x∈d,0<=x)/\d.length=9:=by
  refine⟨e++[a1,a2],by rw[x_];rfl,fun x a=>?_,by rw[d_,hyl];rfl⟩;rcases v_.mp a with a | a
  ·exact hy0 x a
  simp only[u_,YB,ZV] at a;rcases a with rfl | rfl
  ·exact e0
  exact e1
 rw[V];have sb6:=C.trans ((Sub3.new k).trans (Sub3.new (o:=.lst (d.map T.int)) hp6));have gz:∀Hx:Hp3,up3 Hx p6 (.lst (d.map T.int)) p6=some (.lst (d.map T.int)):=fun _=>au;have i0:=V_ c (show (9:Int)≠0 by decide);have i1:=R_ c (show (0:Int)<9 by decide);obtain⟨j,hj⟩:∃j:Nat,c%9=(j:Int):=⟨(c%9).toNat,by omega⟩;have hjl:j<d.length:=by omega
 have hat:atI (d.map T.int) (j:Int)=some (T.int d[j]):=cz (by rw[y_,g_ hjl];rfl);have hn0:=hz0 _ (Y4 hjl);generalize d[j]=n at hat hn0;try dsimp only
 have k2:=Box.mk (Fin3.of sb6 (k'.out n hn0));clear V hz0 hzl C gy k' hp6 k;walk_at "n";walk_at "";refine⟨by decide,?_⟩;first
  |exact k2.out
  | (rw[fG];exact k2.out)
abbrev yR:List Str:=["_law_script","_law_most","_law_wide","_law_works_here","_law_stands"]
def sc_drawn:FnScope yR ["_law_script","_law_most","_law_wide"] (aC (top 54)):=bf
def G5 {f:Addr} (g:G3 K mg "_law_drawn" (top 54) ["_law_script","_law_most","_law_wide"] f J) (B:Bl mg) (j:Cal P w K mg base 3 "_law_works" (top 51) ["_law_script","_law_most","_law_wide"] WK) (k:Cal P w K mg base 2 "_law_beat" (top 53) ["_law_cell_here","_law_works_here","_law_stands"] WL) (d:Cal P w K mg base 1 "_law_cell" (top 45) ["_law_script","_law_k"] Km):Cal P w K mg base 4 "_law_drawn" (top 54) ["_law_script","_law_most","_law_wide"] WM:=by
 refine⟨f,J,g,?_⟩;refine fn3 g.fn sc_drawn (fun ts H Q h=>?_) (fun N A outer s H E ts H3 Q r h=>?_)
 ·obtain⟨a,q,e,b,rfl,_⟩:=h;rfl
 obtain⟨a,q,e,b,rfl,G,m,X,R,Y,S,x⟩:=h;refine⟨_,(ak (gZ (aU j r rfl (aa (v3 0) (aa (v3 1) (aa (v3 2) ao)))) (cg (n:=2) rfl (aJ (aD (i:=3) sc_drawn.nd) (aJ (aD (i:=4) sc_drawn.nd) bH))))
   (aA (aN (bG (aa (v3 3) (aa (v3 4) (aa (aU k r rfl (aa (aU d r rfl (aa (v3 0) (aa aq ao))) (aa (v3 3) (aa (v3 4) ao)))) (aa (aU d r rfl (aa (v3 0) (aa aq ao))) ao)))))))),?_⟩
 rw[show aQ yR [T.ref a,T.int e,T.int b]=[some (T.ref a),some (T.int e),some (T.int b),none,none] from rfl];walk_at "h";have z:=Box.mk x;clear x;walk_at "s";refine⟨a,q,e,b,rfl,G,m,X,R,Y,S,fun W sts F U M t p I=>?_⟩;have D:Sub3 H3 (up3 H3 p (.lst (sts.map fun (s:Nat)=>T.int (s:Int)))):=Sub3.new I;have C:up3 H3 p (.lst (sts.map fun (s:Nat)=>T.int (s:Int))) p=some (.lst (sts.map fun (s:Nat)=>T.int (s:Int))):=au;have y:=Box.mk (fun o c (v:0<=o)=>z.out W sts o c F U M t v p I);have u:=D _ _ G;try walk_at ""
 generalize up3 H3 p (.lst (sts.map fun (s:Nat)=>T.int (s:Int)))=Z at D C u y ⊢;clear z;walk_at "n";walk_at "";refine⟨trivial,a,q,14,rfl,u,m,by decide,fun O=>⟨O,W,p,sts,rfl,F,C,t.l,t.lt,fun o v=>⟨a,q,15,rfl,u,m,by decide,fun L=>?_⟩⟩⟩;try dsimp only
 exact⟨by decide,Fin3.of Sub3.refl (y.out o L v)⟩
abbrev lV:List Str:=["_law_works_here","_law_beat_here","_law_dealing","_law_place","_law_k","_law_stand","_law_name","_law_one","_law_other","_law_word_here","_law_loads_here","_law_length","_law_kinds"]
def sc_right:FnScope lV ["_law_works_here","_law_beat_here","_law_dealing"] (aC (top 56)):=bf
def G6 {f:Addr} (g:G3 K mg "_law_right" (top 56) ["_law_works_here","_law_beat_here","_law_dealing"] f fd) (B:Bl mg):Cal P w K mg base 1 "_law_right" (top 56) ["_law_works_here","_law_beat_here","_law_dealing"] Ws:=by
 refine⟨f,fd,g,?_⟩;refine fn3 g.fn sc_right (fun ts H Q h=>?_) (fun cdv A outer s H E ts H3 Q hr h=>?_)
 ·obtain⟨W,beat,D,rfl,_⟩:=h;rfl
 have G:=Room.u30 hr;have hu31:=Room.u31 hr;have j:=Room.u1 hr;obtain⟨W,beat,D,rfl,hW,hD,hR,kk⟩:=h;refine⟨_,(ak (aG (i:=3) sc_right.nd lH)
   (ak (bc F_ rfl (Df rfl B.enumerate_ (v3 2)) (cg (n:=2) rfl (aJ (aD (i:=4) sc_right.nd) (aJ (aD (i:=5) sc_right.nd) bH))) (aA (bc F_ rfl (bJ (v3 5)) (aD (i:=6) sc_right.nd) (ak (bA (mK j (v3 6) (v3 3)) (aA (aN dH)) aR)
     (aA (jA j (v3 3) (v3 6) (v3 4)))))))
   (ak (bA (aV (fX G) (aM (JC hr) rfl B.sorted_ jY (aa (v3 3) ao)) (aM Jy rfl B.sorted_ jY (aa (bO rfl (bN (n0:=(aC (top 56)).names) (N:=lV) (N':=["_law_task_here"]) (nt:=1) (cap:=[]) rfl rfl (by decide +kernel)) (bJ (aK ix3 (v3 0) aq)) (fun cl pins s H C0 fp=>⟨(aD (i:=0) (show List.Nodup [("_law_task_here":Str)] by decide +kernel)),cB,(aK ix3 (v3 0) aq)⟩)) ao))) (aA (aN dH)) aR)
   (ak (bc F_ rfl (bJ (aK ix3 (v3 0) aq)) (cg (n:=2) rfl (aJ (aD (i:=7) sc_right.nd) (aJ (aD (i:=8) sc_right.nd) bH))) (aA (bA (aV rZ (cN j (v3 3) (v3 7)) (cN j (v3 3) (v3 8))) (aA (aN dH)) aR)))
   (ak (bc F_ rfl (bJ (aK ix3 (v3 0) aq)) (cg (n:=3) rfl (aJ (aD (i:=9) sc_right.nd) (aJ (aD (i:=7) sc_right.nd) (aJ (aD (i:=8) sc_right.nd) bH)))) (aA (bA (aV (fX G) (gD (dh G) (cN j (v3 3) (v3 7)) (cN j (v3 3) (v3 8))) (gD (dh G) (v3 9) cM)) (aA (aN dH)) aR)))
   (ak (aG (i:=10) sc_right.nd (aH vV (bx (aa aq ao)) (aM cD rfl B.len_ cF (aa (v3 2) ao))))
   (ak (bc F_ rfl (bJ (aK ix3 (v3 0) aq)) (cg (n:=3) rfl (aJ (aD (i:=6) sc_right.nd) (aJ (aD (i:=11) sc_right.nd) (aJ (aD (i:=12) sc_right.nd) bH)))) (ak (bA (PW3.pt (gY (aV (fX G) (v3 12) (bG ao)) (fK (aV (mH hu31) (aK ix3 (aK ix3 (v3 0) aq) (cN j (v3 3) (v3 6))) (v3 12) rfl)))) (aA (aN dH)) aR)
    (aA (gZ (aH bB (aK ix3 (v3 10) (cN j (v3 3) (v3 6))) (v3 11)) (BJ (v3 10) (cN j (v3 3) (v3 6)) o4)))))
   (aA (aN (gD (dh G) (bO rfl (bN (n0:=(aC (top 56)).names) (N:=lV) (N':=["_law_load","_law_beat_here"]) (nt:=1) (cap:=[1]) rfl rfl (by decide +kernel)) (bV (v3 10)) (fun cl pins s H C0 fp=>⟨(aD (i:=0) (show List.Nodup [("_law_load":Str),("_law_beat_here":Str)] by decide +kernel)),(dZ (aV rZ (v3 0) (v3 1))),(v3 0)⟩)) (bx ao))))))))))),?_⟩
 rw[show aQ lV [W.enc,T.int beat,T.tup (D.map sT)]=[some (W.enc),some (T.int beat),some (T.tup (D.map sT)),none,none,none,none,none,none,none,none,none,none] from rfl];walk_at "h";have k':=Box.mk kk;clear kk;have t8:=hW.t8;have r8:=hW.r8;have Z:=hD.fl hW;have hkd:=Wr hD.nd;have hdl:=hD.rw;have U:=Box.mk hD.nd;have S:=Box.mk hW;have F:=Box.mk hD;have X:=Box.mk hR;clear hW hD hR;walk_at "s";intro p hp;walk_at "n";refine aB fun R1 hR1=>?_;walk_at "";refine z9 sT D (fun A u H=>∃(r q m:Option T),u=[some W.enc,some (.int beat),some (.tup (D.map sT)),some (.ref p),r,q,m,none,none,none,none,none,none]/\H=up3 H3 p (.dct (dN (kD A) (fD A)))) ⟨_,_,_,rfl,rfl⟩ ?_ ?_;rotate_left
 ·rintro A s B u H N e ⟨r,q,m,rfl,rfl⟩ L;have hs:A.flatten.length+s.length<=8:=by have:=W_ (fun x=>x.flatten.length) e;simp only[uh,d_] at this;omega
  have hns:=U.out;rw[e,uh] at hns;have ek:=J2 A s;have ef:=yw A s;have kl:=RB A;have hN':=Box.mk L;have ek':=Box.mk ek;have ef':=Box.mk ef;have hns':=Box.mk hns;clear L e k' hR1 ek ef hns;walk_at "t";simp only[sT];walk_at "";try walk_at "t"
  refine aW T.str s (fun C u H=>∃(m:Option T),u=[some W.enc,some (.int beat),some (.tup (D.map sT)),some (.ref p),some (.int (A.length:Int)),some (.tup (s.map T.str)),m,none,none,none,none,none,none]/\H=up3 H3 p (.dct (dN (kst (kD A) C) (j4 A.length (fD A) C)))) ⟨_,rfl,rfl⟩ ?_ ?_
  ·rintro u H ⟨m,rfl,rfl⟩;exact⟨trivial,hN'.out _ _ ⟨_,_,_,rfl,by rw[ek'.out,ef'.out]⟩⟩
  rintro C n E' u H N2 e2 ⟨m,rfl,rfl⟩ hN2;have hc:C.length<s.length:=by have:=W_ List.length e2;simp only[d_,j_] at this;omega
  have no:n∉kst (kD A) C:=by
   rw[qP,Rz];have hz:=hns'.out;rw[e2] at hz;rintro (z | z)
   ·rw[YW,Zq] at hz;exact hz.2.2 n z n (by simp) rfl
   rw[YW,Zq] at hz;have hy:=hz.2.1;try rw[YW] at hy
   rw[Zq] at hy;exact hy.2.2 n z n (by simp) rfl
  have lk:=M3 (f:=j4 A.length (fD A) C) no;have p1:=J3 (kst (kD A) C) (j4 A.length (fD A) C) n A.length;rw[<- Fz,<- FJ] at p1;have l1:=Fy (kst (kD A) C) (j4 A.length (fD A) C);have l2:=kst_len C (kD A);have hN2':=Box.mk hN2;clear hN2 hN' e2 ek' ef' no;walk_at "t";walk_at "";rw[if_neg (by rw[Option.isSome_none];exact J_)];exact⟨by omega,hN2'.out _ _ ⟨_,rfl,rfl⟩⟩
 rintro u H ⟨r,q,m,rfl,rfl⟩;walk_at "t";rw[hkd];have gp:up3 H3 p (.dct (dN D.flatten (fD D))) p=some (.dct (dN D.flatten (fD D))):=au;have sb:Sub3 H3 (up3 H3 p (.dct (dN D.flatten (fD D)))):=Sub3.new hp;generalize up3 H3 p (.dct (dN D.flatten (fD D)))=H4 at gp sb ⊢;clear hkd hp;walk_at "n";refine aB fun R2 hR2=>?_;have dl:=Fy D.flatten (fD D);have dk:=Kg D.flatten (fD D);walk_at "";refine⟨by omega,fun us j hu2 p1 hp1=>?_⟩;have g1:up3 H4 p1 (.lst (us.map T.str)) p1=some (.lst (us.map T.str)):=au;have sb1:Sub3 H3 (up3 H4 p1 (.lst (us.map T.str))):=sb.trans (Sub3.new hp1);have gp1:up3 H4 p1 (.lst (us.map T.str)) p=_ := upa gp hp1;generalize up3 H4 p1 (.lst (us.map T.str))=H5 at g1 sb1 gp1 ⊢;clear gp sb hp1 dk;walk_at "c";refine bI tkT (fun t=>T.str t.1) W.tasks [] trivial (by omega) ?c1 ?c2
 case c1 =>
  intro t ht Q' hq
  clear k' j hu2 U
  simp only[tkT]
  walk_at ""
  try exact hq
 intro pc Y;have e1:W.tasks.map (fun t=>T.str t.1)=(nm W).map T.str:=by unfold nm;rw[YC];rfl
 rw[e1];refine⟨nm W,pc,rfl,au,by rw[dX];omega,fun vs hv1 hv2 p2 V=>?_⟩;have e2:us=vs:=Kf j hu2 (hv1.trans (F.out.pm S.out).symm) hv2;subst e2;have n12:p1≠p2:=fun z=>by rw[z] at g1;rw[aF (bz g1 Y)] at V;rw[g1] at V;cases V
 have g1':up3 (up3 H5 pc (.lst ((nm W).map T.str))) p2 (.lst (us.map T.str)) p1=some (.lst (us.map T.str)):=by rw[aF n12,aF (bz g1 Y)];exact g1
 have sb2:Sub3 H3 (up3 (up3 H5 pc (.lst ((nm W).map T.str))) p2 (.lst (us.map T.str))):=sb1.trans ((Sub3.new Y).trans (Sub3.new V));have gp2:up3 (up3 H5 pc (.lst ((nm W).map T.str))) p2 (.lst (us.map T.str)) p=some (.dct (dN D.flatten (fD D))):=(Sub3.new (o:=.lst (us.map T.str)) V) _ _ ((Sub3.new (o:=.lst ((nm W).map T.str)) Y) _ _ gp1);try dsimp only
 rw[Lx,g1',au,sO];refine⟨n12,cW us,cW us,?_⟩;generalize up3 (up3 H5 pc (.lst ((nm W).map T.str))) p2 (.lst (us.map T.str))=H6 at sb2 gp2 ⊢;clear g1 sb1 gp1 g1' Y V j hu2 hv1 hv2 n12 e1;rw[lJ,gQ,if_neg (by decide)];walk_at "n";refine aB fun R3 hR3=>?_;walk_at "";refine aW orT W.orders (fun A u H=>∃(r q m J M I k d a:Option T),u=[some W.enc,some (.int beat),some (.tup (D.map sT)),some (.ref p),r,q,m,J,M,I,k,d,a]/\H=H6) ⟨_,_,_,_,_,_,_,_,_,rfl,rfl⟩ ?_ ?_;rotate_left
 ·rintro A ⟨x,y⟩ B u H N e ⟨r,q,m,J,M,I,k,d,a,rfl,rfl⟩ L;walk_at "t";have R:(x,y)∈W.orders:=by rw[e];simp
  have l1:=iM (f:=fD D) (F.out.al _ (S.out.oo _ R).2.1);have l2:=iM (f:=fD D) (F.out.al _ (S.out.oo _ R).2.2);have ho:fD D x<=fD D y:=X.out.ord _ R;have fN:Box (∀r q m I k d a,N [some W.enc,some (.int beat),some (.tup (D.map sT)),some (.ref p),r,q,m,some (.str x),some (.str y),I,k,d,a] H):=⟨fun r q m I k d a=>L _ _ ⟨_,_,_,_,_,_,_,_,_,rfl,rfl⟩⟩;clear L e k' hR3 R U Z;simp only[orT];walk_at "";walk_at "t";rw[if_neg (tL (by omega))];exact fN.out _ _ _ _ _ _ _
 rintro u H ⟨r,q,m,J,M,I,k,d,a,rfl,rfl⟩;walk_at "t";walk_at "n";refine aB fun R4 hR4=>?_;walk_at "";refine aW prT W.pairs (fun A u H'=>∃(r q m J M I k d a:Option T),u=[some W.enc,some (.int beat),some (.tup (D.map sT)),some (.ref p),r,q,m,J,M,I,k,d,a]/\H'=H) ⟨_,_,_,_,_,_,_,_,_,rfl,rfl⟩ ?_ ?_;rotate_left
 ·rintro A ⟨wd,x,y⟩ B u H' N e ⟨r,q,m,J,M,I,k,d,a,rfl,rfl⟩ L;walk_at "t";have R:(wd,x,y)∈W.pairs:=by rw[e];simp
  have l1:=iM (f:=fD D) (F.out.al _ (S.out.pp _ R).2.2.1);have l2:=iM (f:=fD D) (F.out.al _ (S.out.pp _ R).2.2.2);have ho:fD D x=fD D y↔wd="with":=X.out.pai _ R;have fN:Box (∀r q m k d a,N [some W.enc,some (.int beat),some (.tup (D.map sT)),some (.ref p),r,q,m,some (.str x),some (.str y),some (.str wd),k,d,a] H'):=⟨fun r q m k d a=>L _ _ ⟨_,_,_,_,_,_,_,_,_,rfl,rfl⟩⟩;clear L e k' hR4 R U Z;have ec:decide (((fD D x:Nat):Int)=((fD D y:Nat):Int))=decide (wd="with"):=by rw[Z4,<- ho];omega
  have ho':=Box.mk ho;clear ho;simp only[prT];walk_at "";walk_at "t";exact fN.out _ _ _ _ _ _
 rintro u H' ⟨r,q,m,J,M,I,k,d,a,rfl,rfl⟩;walk_at "t";walk_at "n";walk_at "s";refine⟨by decide,fun q1 hq1=>⟨⟨by omega,by omega,by omega⟩,fun pl O=>?_⟩⟩;try simp only[e_,Zk] at O ⊢
 rw[Kh (fD D)];have sb4:Sub3 H3 (up3 H' q1 (.lst [T.int 0])):=sb2.trans (Sub3.new hq1);have gp4:up3 H' q1 (.lst [T.int 0]) p=some (.dct (dN D.flatten (fD D))):=(Sub3.new (o:=.lst [T.int 0]) hq1) _ _ gp2;generalize up3 H' q1 (.lst [T.int 0])=H7 at sb4 gp4 O ⊢;have pl3:=cu sb4 O;have npl:p≠pl:=bz gp4 O;have sb5:Sub3 H3 (up3 H7 pl (.lst (((List.range D.length).map (ldF ([]:List (Str × Int × List Str)) (fD D))).map T.int))):=sb4.trans (Sub3.new O);have gp5:up3 H7 pl (.lst (((List.range D.length).map (ldF ([]:List (Str × Int × List Str)) (fD D))).map T.int)) p=some (.dct (dN D.flatten (fD D))):=by rw[aF npl];exact gp4
 have gl5:up3 H7 pl (.lst (((List.range D.length).map (ldF ([]:List (Str × Int × List Str)) (fD D))).map T.int)) pl=some (.lst (((List.range D.length).map (ldF ([]:List (Str × Int × List Str)) (fD D))).map T.int)):=au;generalize up3 H7 pl (.lst (((List.range D.length).map (ldF ([]:List (Str × Int × List Str)) (fD D))).map T.int))=H8 at sb5 gp5 gl5 ⊢;clear sb4 gp4 sb2 gp2 O hq1;walk_at "n";refine aB fun R6 hR6=>?_;walk_at "";refine aW tkT W.tasks (fun A u H=>∃(r q m J M I d a:Option T),u=[some W.enc,some (.int beat),some (.tup (D.map sT)),some (.ref p),r,q,m,J,M,I,some (.ref pl),d,a]/\H=up3 H8 pl (.lst (((List.range D.length).map (ldF A (fD D))).map T.int))) ⟨_,_,_,_,_,_,_,_,rfl,(Ry gl5).symm⟩ ?_ ?_;rotate_left
 ·rintro A ⟨x,ln,ks⟩ B u H N e ⟨r,q,m,J,M,I,d,a,rfl,rfl⟩ L;walk_at "t";have R:(x,ln,ks)∈W.tasks:=by rw[e];simp
  have hxn:x∈nm W:=z_.mpr ⟨_,R,rfl⟩;have l1:=iM (f:=fD D) (F.out.al _ hxn);have hgx:=F.out.lt hxn;have x0:=FP (show fD D x<W.row.length by omega);have hmay:lB ks (W.row.getD (fD D x) "")=true:=X.out.kd F.out R;have x1:atI (((List.range D.length).map (ldF A (fD D))).map T.int) ((fD D x:Nat):Int)=some (.int (ldF A (fD D) (fD D x))):=cz (by rw[y_,y_,YK hgx];rfl);have x2:ixN (((List.range D.length).map (ldF A (fD D))).map T.int).length ((fD D x:Nat):Int)=some (fD D x):=xZ (by rw[e_,e_,D_];exact hgx);have x3:(((List.range D.length).map (ldF A (fD D))).map T.int).set (fD D x) (T.int (ldF A (fD D) (fD D x)+ln))=((List.range D.length).map (ldF (A++[(x,ln,ks)]) (fD D))).map T.int:=by rw[<- List.map_set];congr 1;exact yG (t:=(x,ln,ks)) hgx
  have fin:Box (∀r q J M I,N [some W.enc,some (.int beat),some (.tup (D.map sT)),some (.ref p),r,q,some (.str x),J,M,I,some (.ref pl),some (.int ln),some (sT ks)] (up3 H8 pl (.lst ((((List.range D.length).map (ldF A (fD D))).map T.int).set (fD D x) (T.int (ldF A (fD D) (fD D x)+ln)))))):=⟨fun r q J M I=>L _ _ ⟨_,_,_,_,_,_,_,_,rfl,by rw[x3]⟩⟩;have gp8:up3 H8 pl (.lst (((List.range D.length).map (ldF A (fD D))).map T.int)) p=some (.dct (dN D.flatten (fD D))):=by rw[aF npl];exact gp5
  clear L e k' x3 R gl5 hR6 U Z;generalize ((List.range D.length).map (ldF A (fD D))).map T.int=LL at *;have i2:=cW ks;have em:=Wi (x:=W.row.getD (fD D x) "") (xs:=ks);simp only[tkT,sT] at *;unfold lB at hmay;generalize W.row.getD (fD D x) ""=kd at *;walk_at "";refine⟨trivial,by decide,trivial,rfl,?_⟩;by_cases c:ks=[]
  ·rw[if_neg (by simp [c])];exact fin.out _ _ _ _ _
  have c2:kd∈ks:=by simpa [c] using hmay
  rw[if_pos (by simp [c])];refine⟨rfl,trivial,?_⟩;rw[if_neg (by simp [c2])];exact fin.out _ _ _ _ _
 rintro u H ⟨r,q,m,J,M,I,d,a,rfl,rfl⟩;walk_at "t";walk_at "n";have e6:((List.range D.length).map (ldF W.tasks (fD D))).map T.int=(lds W (fD D) D.length).map T.int:=rfl;have hle:∀l∈lds W (fD D) D.length,l<=beat:=X.out.lds F.out;rw[e6];have gl6:up3 H8 pl (.lst ((lds W (fD D) D.length).map T.int)) pl=some (.lst ((lds W (fD D) D.length).map T.int)):=au;have sb6:Sub3 H3 (up3 H8 pl (.lst ((lds W (fD D) D.length).map T.int))):=fun b o h=>by rw[aF (bz h pl3)];exact sb5 b o h
 generalize up3 H8 pl (.lst ((lds W (fD D) D.length).map T.int))=H9 at gl6 sb6 ⊢;clear e6 gl5 gp5 sb5 Z U F X S;generalize lds W (fD D) D.length=LD at *;walk_at "";walk_at "c";refine eV T.int LD (fun A ys u H=>∃v:Option T,u=[v,some (.int beat)]/\ys=[]/\H=H9) ⟨_,rfl,rfl,rfl⟩ ?_ ?_
 ·rintro ys u H ⟨v,rfl,rfl,rfl⟩;refine⟨.inl gl6,by simp,fun q2 hq2=>⟨by decide,fun q3 hq3=>?_⟩⟩;have n23:q2≠q3:=fun z=>by rw[z,au] at hq3;cases hq3
  rw[aF n23,au,sO];exact⟨n23,rfl,rfl,Fin3.of (sb6.trans ((Sub3.new hq2).trans (Sub3.new hq3))) k'.out⟩
 rintro A l B ys u H N e ⟨v,rfl,rfl,rfl⟩ L;refine⟨.inl gl6,?_⟩;have hl:l<=beat:=hle l (by rw[e];simp);have hN':=Box.mk L;clear L e k' hle;walk_at "";rw[if_neg (tL (by omega))];exact hN'.out _ _ _ ⟨_,rfl,rfl,rfl⟩
abbrev dJ:List Str:=["_law_works_here","_law_beat_here","_law_many","_law_found","_law_names","_law_stand"]
def sc_is_dealing:FnScope dJ ["_law_works_here","_law_beat_here","_law_many","_law_found"] (aC (top 57)):=bf
def nZ {f:Addr} (g:G3 K mg "_law_is_dealing" (top 57) ["_law_works_here","_law_beat_here","_law_many","_law_found"] f fd) (B:Bl mg) (b:Cal P w K mg base 1 "_law_right" (top 56) ["_law_works_here","_law_beat_here","_law_dealing"] Ws):Cal P w K mg base 2 "_law_is_dealing" (top 57) ["_law_works_here","_law_beat_here","_law_many","_law_found"] Wu:=by
 refine⟨f,fd,g,?_⟩;refine fn3 g.fn sc_is_dealing (fun ts H Q h=>?_) (fun cdv A outer s H E ts H3 Q hr h=>?_)
 ·obtain⟨W,beat,m,D,rfl,_⟩:=h;rfl
 have j:=Room.u30 hr;have O:=Room.u31 hr;obtain⟨W,beat,m,D,rfl,hW,hm,hs,hD,hR,kk⟩:=h;refine⟨_,(ak (bA (PW3.pt (gM (dU (cI (aM ji rfl B.isinstance_ bh (aa (v3 3) (aa (kJ rfl B.tuple_ cj) ao))))) (gM (aV (fX j) (aM cD rfl B.len_ cF (aa (v3 3) ao)) (v3 2)) (gW (aV rZ (v3 2) (aM cD rfl B.len_ cF (aa (aK ix3 (v3 0) aq) ao))))))) (aA (aN dH)) aR)
   (ak (iD (i:=4) rfl sc_is_dealing.nd (bN (n0:=(aC (top 57)).names) (N:=dJ) (N':=["_law_task_here"]) (nt:=1) (cap:=[]) rfl rfl (by decide +kernel)) (bJ (aK ix3 (v3 0) aq)) (fun cl q s H C0 fp=>⟨(aD (i:=0) (show List.Nodup [("_law_task_here":Str)] by decide +kernel)),cB,(aK ix3 (v3 0) aq)⟩))
   (ak (bc F_ rfl (bJ (v3 3)) (aD (i:=5) sc_is_dealing.nd) (ak (bA (PW3.pt (gM (dU (cI (aM ji rfl B.isinstance_ bh (aa (v3 5) (aa (kJ rfl B.tuple_ cj) ao))))) (gW (aV (fX j) (bO rfl (bN (n0:=(aC (top 57)).names) (N:=dJ) (N':=["_law_name"]) (nt:=1) (cap:=[]) rfl rfl (by decide +kernel)) (bJ (v3 5)) (fun cl q s H C0 fp=>⟨(aD (i:=0) (show List.Nodup [("_law_name":Str)] by decide +kernel)),(dZ (dU (cI (aM ji rfl B.isinstance_ bh (aa (v3 0) (aa (kJ rfl B.str_ Pg) ao)))))),(v3 0)⟩)) (bx ao))))) (aA (aN dH)) aR)
    (aA (bA (aV (fX j) (bO rfl (bN (n0:=(aC (top 57)).names) (N:=dJ) (N':=["_law_name","_law_stand"]) (nt:=1) (cap:=[5]) rfl rfl (by decide +kernel)) (bV (v3 4)) (fun cl q s H C0 fp=>⟨(aD (i:=0) (show List.Nodup [("_law_name":Str),("_law_stand":Str)] by decide +kernel)),(dZ (aV (jw O) (v3 0) (v3 1) rfl)),(v3 0)⟩)) (bM qi rfl B.list_ lG (aa (v3 5) ao))) (aA (aN dH)) aR))))
   (aA (aN (aU b hr rfl (aa (v3 0) (aa (v3 1) (aa (v3 3) ao))))))))),?_⟩
 rw[show aQ dJ [W.enc,T.int beat,T.int (m:Int),T.tup (D.map sT)]=[some (W.enc),some (T.int beat),some (T.int (m:Int)),some (T.tup (D.map sT)),none,none] from rfl];walk_at "h";have k':=Box.mk kk;clear kk;subst hm;have t8:=hW.t8;have r8:=hW.r8;have hdl:=hD.rw;have S:=Box.mk hW;have hD':=Box.mk hD;have hR':=Box.mk hR;have hs':=Box.mk hs;clear hW hD hR hs;walk_at "s";rw[if_neg (tL (by omega))];walk_at "n";walk_at "s";walk_at "c";refine bI tkT (fun t=>T.str t.1) W.tasks [] trivial (by omega) ?c1 ?c2
 case c1 =>
  intro t ht Q' hq
  clear k'
  simp only[tkT]
  walk_at ""
  try exact hq
 intro u hpn;have e1:W.tasks.map (fun t=>T.str t.1)=(nm W).map T.str:=by unfold nm;rw[YC];rfl
 rw[e1];have V:Sub3 H3 (up3 H3 u (.lst ((nm W).map T.str))):=Sub3.new hpn;have R:up3 H3 u (.lst ((nm W).map T.str)) u=some (.lst ((nm W).map T.str)):=au;generalize up3 H3 u (.lst ((nm W).map T.str))=H4 at V R ⊢;clear e1;walk_at "n";refine aB fun R2 hR2=>?_;walk_at "";refine aW sT D (fun A d H=>∃(v5:Option T),d=[some W.enc,some (.int beat),some (.int (D.length:Int)),some (.tup (D.map sT)),some (.ref u),v5]/\Sub3 H3 H/\H u=some (.lst ((nm W).map T.str))) ⟨_,rfl,V,R⟩ ?_ ?_
 ·rintro d H ⟨v5,rfl,sb,gn⟩;walk_at "t";walk_at "n";walk_at "";exact⟨W,beat,D,rfl,S.out,hD'.out,hR'.out,Fin3.of sb k'.out⟩
 rintro A s B d H N e ⟨v5,rfl,sb,gn⟩ hN;walk_at "t";have M:s∈D:=by rw[e];simp
 have F:=hs'.out s M;have hsl:s.length<=8:=by rw[<- F];have:=Yy (fun n=>decide (n∈s)) (nm W);rw[dX] at this;omega
 have G:=Box.mk hN;have r:=Box.mk F;clear hN e k' hR2 hs' hD' hR' S F;simp only[sT];refine aB fun R3 hR3=>?_;walk_at "";walk_at "c";refine eV T.str s (fun A y d H'=>∃v:Option T,d=[v]/\y=[]/\H'=H) ⟨_,rfl,rfl,rfl⟩ ?_ ?_;rotate_left
 ·rintro J n B2 y d H' N2 e ⟨v,rfl,rfl,rfl⟩ a;walk_at "t";have X:=Box.mk a;clear a e G hR3;walk_at "";exact X.out _ _ _ ⟨_,rfl,rfl,rfl⟩
 rintro y d H' ⟨v,rfl,rfl,rfl⟩;refine⟨trivial,by simp,fun q2 C=>⟨by decide,fun q3 k=>?_⟩⟩;have I:q2≠q3:=fun z=>by rw[z,au] at k;cases k
 rw[aF I,au,sO];refine⟨I,rfl,rfl,?_⟩;have L:Sub3 H3 (up3 (up3 H' q2 (.lst [])) q3 (.lst [])):=sb.trans ((Sub3.new C).trans (Sub3.new k));have p:up3 (up3 H' q2 (.lst [])) q3 (.lst []) u=some (.lst ((nm W).map T.str)):=(Sub3.new (o:=.lst []) k) _ _ ((Sub3.new (o:=.lst []) C) _ _ gn);generalize up3 (up3 H' q2 (.lst [])) q3 (.lst [])=H5 at L p ⊢;rw[lJ,gQ,if_neg (by decide)];clear sb gn C k I;walk_at "n";have Y:=cW s;walk_at "";walk_at "c";refine eV T.str (nm W) (fun A y d H'=>∃v:Option T,d=[v,some (.tup (s.map T.str))]/\y=(A.filter fun n=>decide (n∈s)).map T.str/\H'=H5) ⟨_,rfl,rfl,rfl⟩ ?_ ?_;rotate_left
 ·rintro J n B2 y d H' N2 e ⟨v,rfl,rfl,rfl⟩ a;refine⟨.inl p,?_⟩;have em:=Wi (x:=n) (xs:=s);have hlA:((J.filter fun n=>decide (n∈s)).map T.str).length<=8:=by rw[e_];have h1:=Yy (fun n=>decide (n∈s)) J;have h2:=W_ List.length e;rw[dX,d_] at h2;omega
  have yes:Box (n∈s->N2 ((J.filter fun n=>decide (n∈s)).map T.str++[T.str n]) [some (.str n),some (.tup (s.map T.str))] H'):=⟨fun z=>a _ _ _ ⟨_,rfl,by rw[Zf,ZM,L_ z];simp,rfl⟩⟩;have no:Box (n∉s->N2 ((J.filter fun n=>decide (n∈s)).map T.str) [some (.str n),some (.tup (s.map T.str))] H'):=⟨fun z=>a _ _ _ ⟨_,rfl,by rw[Zf,ZM,H_ z];simp,rfl⟩⟩;clear a e G r M;generalize (J.filter fun n=>decide (n∈s)).map T.str=cur at *;walk_at "";rw[show dj false (T.str n) (s.map T.str)=decide (n∈s) from M4];refine⟨rfl,trivial,?_⟩;by_cases c:n∈s
  ·rw[if_pos (L_ c)];exact⟨by omega,yes.out c⟩
  rw[if_neg (tL c)];exact no.out c
 rintro y d H' ⟨v,rfl,rfl,rfl⟩;rw[r.out];refine⟨.inl p,by rw[e_];omega,fun q4 Z q5 l=>?_⟩;have U:q4≠q5:=fun z=>by rw[z,au] at l;cases l
 rw[aF U,au,sO];refine⟨U,Y,Y,?_⟩;rw[lJ,gQ,if_neg (by decide)];exact G.out _ _ ⟨_,rfl,L.trans ((Sub3.new Z).trans (Sub3.new l)),(Sub3.new (o:=.lst (s.map T.str)) l) _ _ ((Sub3.new (o:=.lst (s.map T.str)) Z) _ _ p)⟩
def Yv (i:Nat) {x:Str}{b a g:Pos}{k v:Expr}{tk c:TE3} (f:X.N.Nodup) (j:PE3 X k tk) (d:PE3 X v c) (l:X.N[i]?=some x) (h:Loc X.env.scope x) (e:X.fn x=true\/X.env.scope.names.lookup x=some .local):PS3 X (.Assign [.Name x a] (.Dict [some k] [v] g) b) (xK (qw tk c) (fB i)):=aG f (zM j d) l h rfl e
abbrev jR:List Str:=["works","beat","many","walk","ways","stand"]
def sc_dealing_to:FnScope jR ["works","beat","many"] (aC (top 41)):=bf
def n6 {f:Addr} (g:G3 K mg "dealing_to" (top 41) ["works","beat","many"] f fd) (B:Bl mg) (l:InsC K c ["works","beat","rules","whole"]) (C:MkC P w K mg base c 5 "Walk" ["self","works","beat"] (Wn c)) (d:Cal P w K mg base 5 "ways_behind" (top 40) ["walk","stand","ways"] (WR c)) (k:MtC P w K mg base c 2 "dealing_of" ["self","fillings"] (Wq c)):Cal P w K mg base 7 "dealing_to" (top 41) ["works","beat","many"] WT:=by
 refine⟨f,fd,g,?_⟩;refine fn3 g.fn sc_dealing_to (fun ts H Q h=>?_) (fun cdv A outer s H E ts H3 Q X h=>?_)
 ·obtain⟨W,beat,m,rfl,_⟩:=h;rfl
 have O:=Room.u1 X;obtain⟨W,beat,m,rfl,D,hm,kk⟩:=h;refine⟨_,(ak (aG (i:=3) sc_dealing_to.nd (Jw C (X.mono (by decide)) rfl (aa (v3 0) (aa (v3 1) ao))))
   (@ak _ _ _ _ _ (@Yv _ 4 _ _ _ _ _ _ _ _ sc_dealing_to.nd aq (bG ao) rfl (by first | exact Or.inl rfl | exact Or.inr rfl) (by first | exact .inl rfl | exact .inr rfl | assumption))
   (ak (bc F_ rfl (cR rfl B.range_ (aa (v3 2) ao)) (aD (i:=5) sc_dealing_to.nd) (aA (aG (i:=4) sc_dealing_to.nd (aU d X rfl (aa (v3 3) (aa (v3 5) (aa (v3 4) ao)))))))
   (ak (bA (vZ O (ie l (v3 3)) (v3 4)) (aA (aN gU)) aR)
   (aA (aN (qC k (X.mono (by decide)) (v3 3) (aa (Dz O (v3 4) (ie l (v3 3))) ao)))))))),?_⟩
 rw[show aQ jR [W.enc,T.int beat,T.int (m:Int)]=[some (W.enc),some (T.int beat),some (T.int (m:Int)),none,none,none] from rfl];walk_at "h";have Y:=Box.mk kk;clear kk;have t1:=mZ W;have r8:W.row.length<=8:=D.r8;walk_at "s";intro a ha;refine⟨a,W,beat,rfl,D,au,fun U kp F=>⟨rfl,?_⟩⟩;have n:Sub3 H3 U:=fun b u I=>kp b u (bz I ha) (by rw[aF (bz I ha)];exact I);clear kp ha;walk_at "n";walk_at "s";intro S r;refine⟨by decide,trivial,?_⟩;have e0:([(0,T.tup [])]:List (Int × T))=dI wyT (wys W beat 0):=rfl;rw[e0];have x:Sub3 H3 (up3 U S (.dci (dI wyT (wys W beat 0)))):=n.trans (Sub3.new r);have z:=F.sub (Sub3.new (o:=.dci (dI wyT (wys W beat 0))) r);have y:up3 U S (.dci (dI wyT (wys W beat 0))) S=some (.dci (dI wyT (wys W beat 0))):=au;have hq3:=cu n r;generalize up3 U S (.dci (dI wyT (wys W beat 0)))=H5 at x y z ⊢;clear e0 r n F;walk_at "n";refine aB fun R2 hR2=>?_;walk_at "";refine⟨trivial,by omega,by omega,?_⟩;rw[ug];refine aW (fun (j:Nat)=>T.int (j:Int)) (List.range m) (fun A σ H=>∃(q:Addr) (v5:Option T),σ=[some W.enc,some (.int beat),some (.int (m:Int)),some (.ref a),some (.ref q),v5]/\Sub3 H3 H/\H3 q=none/\Wlk c W beat H a/\H q=some (.dci (dI wyT (wys W beat A.length)))) ⟨S,_,rfl,x,hq3,z,y⟩ ?_ ?_
 ·rintro σ H ⟨q,v5,rfl,n,hq,F,R⟩;walk_at "t";rw[D_] at R;walk_at "n";obtain⟨pw,gw,_⟩:=F.ex;have f4:=ux (W:=W) (beat:=beat) (p:=pw);have lm:=FW (W:=W) (beat:=beat) (p:=pw) (m:="dealing_of") (by decide +kernel);have L:=qT wyT (top2 W - 1) (wys W beat m);have ec:((top2 W - 1:Nat):Int)=(top2 W:Int) - 1:=by omega
  rw[ec] at L;have G:=Y.out;unfold dtT at G;have J:=wtb (W:=W) (beat:=beat) D hm;clear x z y;refine aB fun R3 hR3=>?_;cases V:du (top2 W - 1) (wys W beat m) with
  |none=>rw[V] at L G;rw[Option.map_none] at L;have k3:=Box.mk G;clear Y G hR3 J;walk_at "";simp only[Option.isSome_none,Z9,if_true];exact Fin3.of n k3.out
  |some v =>
  obtain⟨_,M,hb3⟩:=(J.wok D).lt _ (f9 V);have hb4:v.length<=m:=M;clear M;rw[V] at L G;rw[aaL] at L;simp only[wyT] at L;have k3:=Box.mk G;clear Y G J V;generalize wys W beat m=E at *;walk_at "";simp only[Option.isSome_some,aah,C_,YG];walk_at "n";walk_at "";refine⟨by first | trivial | exact lm,a,W,beat,v,rfl,D,F,by omega,hb3,?_⟩;exact Fin3.of n k3.out
 rintro A j B σ H N e ⟨q,v5,rfl,n,hq,F,R⟩ hN;walk_at "t";have hA:A.length<m:=by have:=W_ List.length e;simp only[d_,j_,D_] at this;omega
 have hj:j=A.length:=by
  have h1:(List.range m)[A.length]?=some j:=by rw[e,Yx (l_ _)];simp
  rw[YK hA] at h1;exact (O_ h1).symm
 subst hj;have hN':=Box.mk hN;clear hN e Y hR2 x z y;walk_at "";refine⟨a,q,W,beat,A.length,A.length,wys W beat A.length,rfl,D,F,by omega,by omega,(wtb D (by omega)).wok D,R,fun o p2 t=>?_⟩;have Z:q≠p2:=bz R t;have hwf:=F.frz (o:=.dif o (dI wyT (wys W beat A.length))) R;refine hN'.out _ _ ⟨p2,_,rfl,fun b u I=>?_,cu n ?_,hwf.sub (Sub3.new (by rw[aF (Ne.symm Z)];exact t)),?_⟩
 ·rw[aF (bz (n b u I) ?_),aF (bz I hq)]
  ·exact n b u I
  exact t
 ·exact t
 rw[au,d_];rfl
abbrev jb:List Str:=["walk","stand","ways","behind","done","fillings","filling"]
def sc_ways_behind:FnScope jb ["walk","stand","ways"] (aC (top 40)):=bf
def nq {f:Addr} (g:G3 K mg "ways_behind" (top 40) ["walk","stand","ways"] f fd) (B:Bl mg) (I_Walk:InsC K c ["works","beat","rules","whole"]) (d:MtC P w K mg base c 4 "greatest_at" ["self","stand","done"] (WQ c)):Cal P w K mg base 5 "ways_behind" (top 40) ["walk","stand","ways"] (WR c):=by
 refine⟨f,fd,g,?_⟩;refine fn3 g.fn sc_ways_behind (fun ts H Q h=>?_) (fun cdv A outer s H E ts H3 Q hr h=>?_)
 ·obtain⟨a,q,W,beat,k,n,E,rfl,_⟩:=h;rfl
 obtain⟨a,q,W,beat,k,n,E,rfl,hW,hw,hk,hn,hE,hq,kk⟩:=h;refine⟨_,(ak (aG (i:=3) sc_ways_behind.nd Dw)
   (ak (bc F_ rfl (DQ (v3 2)) (cg (n:=2) rfl (aJ (aD (i:=4) sc_ways_behind.nd) (aJ (aD (i:=5) sc_ways_behind.nd) bH))) (aA (bc F_ rfl (bV (qC d (hr.mono (by decide)) (v3 0) (aa (v3 1) (aa (v3 4) ao)))) (aD (i:=6) sc_ways_behind.nd) (aA (bC (Jv (v3 3) (aH bB (v3 4) (v3 6)) (aH bB (v3 5) (bG (aa (v3 6) ao)))))))))
   (aA (aN (v3 3))))),?_⟩
 rw[show aQ jb [T.ref a,T.int (k:Int),T.ref q]=[some (T.ref a),some (T.int (k:Int)),some (T.ref q),none,none,none,none] from rfl];walk_at "h";have k':=Box.mk kk;clear kk;have t2:=qR hW;have hE':=Box.mk hE;clear hE;walk_at "s";intro l X;have y:q≠l:=bz hq X;walk_at "n";refine aB fun R1 hR1=>?_;have gq:up3 H3 l (.dci []) q=some (.dci (dI wyT E)):=by rw[aF y];exact hq
 walk_at "";intro o;rw[WN];have hw0:Wlk c W beat (up3 H3 q (.dif o (dI wyT E))) a:=hw.frz hq;have g0:up3 H3 q (.dif o (dI wyT E)) q=some (.dif o (dI wyT E)):=au;have n0:up3 H3 q (.dif o (dI wyT E)) l=none:=by rw[aF (Ne.symm y)];exact X
 have U:Kb1 l (up3 H3 q (.dif o (dI wyT E))) (up3 (up3 H3 l (.dci [])) q (.dif o (dI wyT E))):=fun b u hb h=>by
  by_cases e:b=q
  ·subst e;rw[au] at h ⊢;exact h
  rw[aF e] at h ⊢;rw[aF hb];exact h
 have O:up3 (up3 H3 l (.dci [])) q (.dif o (dI wyT E)) l=some (.dci (dI wyT [])):=by rw[aF (Ne.symm y),au];rfl
 have k2:=Box.mk (k'.out o l X);generalize up3 (up3 H3 l (.dci [])) q (.dif o (dI wyT E))=H4 at U O ⊢;generalize up3 H3 q (.dif o (dI wyT E))=H0 at *;clear k' gq hq hw;refine aW wyE E (fun A R H=>∃(v4 v5 r:Option T),R=[some (.ref a),some (.int (k:Int)),some (.ref q),some (.ref l),v4,v5,r]/\Kb1 l H0 H/\H l=some (.dci (dI wyT (A.foldl (wbF W beat k) [])))/\WOk W (n+1) (A.foldl (wbF W beat k) [])) ⟨_,_,_,rfl,U,O,⟨aam,fun _ z=>(nomatch z)⟩⟩ ?_ ?_
 ·rintro R H ⟨v4,v5,r,rfl,v,C,_⟩;refine⟨v q _ y g0,?_⟩;walk_at "n";walk_at "";refine Fin3.of (fun b u hb=>?_) k2.out;by_cases e:b=l
  ·subst e;rw[au] at hb;rw[C,<- hb];rfl
  rw[aF e] at hb;exact v b u e hb
 rintro A e B R H N eE ⟨v4,v5,r,rfl,v,C,hB⟩ hN;refine⟨v q _ y g0,?_⟩;obtain⟨ed,el,et⟩:=hE'.out.lt e (by rw[eE];simp);have j:(A++[e]).foldl (wbF W beat k) []=wbF W beat k (A.foldl (wbF W beat k) []) e:=by rw[aab];rfl
 have Y:=Box.mk hN;clear hN eE hR1 k2 U O;rw[j] at Y;generalize A.foldl (wbF W beat k) []=B0 at *;clear j;simp only[wyE];walk_at "";have L:=v.wlk n0 hw0;obtain⟨pw,gw,_⟩:=L.ex;have lm:=FW (W:=W) (beat:=beat) (p:=pw) (m:="greatest_at") (by decide +kernel);walk_at "t";try rw[gw,MF]
 refine⟨lm,a,W,beat,k,e.1,rfl,hW,L,hk,ed,fun I M=>?_⟩;have npf:l≠I:=bz C M;have flen:(gfl W beat k e.1).length<=256:=by have:=qX bT (fls W beat k e.1);have h2:(fls W beat k e.1).length<=256:=Q_ (Yy _ _) (by rw[D_];exact t2);unfold gfl;rw[ZW];omega
 have V:Kb1 l H0 (up3 H I (.lst ((gfl W beat k e.1).map bL))):=v.new M;have J:up3 H I (.lst ((gfl W beat k e.1).map bL)) l=some (.dci (dI wyT B0)):=by rw[aF npf];exact C
 have S:up3 H I (.lst ((gfl W beat k e.1).map bL)) I=some (.lst ((gfl W beat k e.1).map bL)):=au;generalize up3 H I (.lst ((gfl W beat k e.1).map bL))=H5 at V J S ⊢;clear v C L gw lm M;try walk_at ""
 refine aW bL (gfl W beat k e.1) (fun A2 R H=>∃(r:Option T),R=[some (.ref a),some (.int (k:Int)),some (.ref q),some (.ref l),some (.int (e.1:Int)),some (wyT e.2),r]/\Kb1 l H0 H/\H I=some (.lst ((gfl W beat k e.1).map bL))/\H l=some (.dci (dI wyT (A2.foldl (iW e.1 e.2) B0)))/\WOk W (n+1) (A2.foldl (iW e.1 e.2) B0)) ⟨_,rfl,V,S,J,hB⟩ ?_ ?_
 ·rintro R H ⟨r,rfl,v,gf,C,D⟩;refine⟨.inl gf,?_⟩;exact Y.out _ _ ⟨_,_,_,rfl,v,C,D⟩
 rintro A2 f B2 R H N eF ⟨r,rfl,v,gf,C,D⟩ hN2;refine⟨.inl gf,?_⟩;have hf:f∈fls W beat k e.1:=qU (by rw[eF];simp);have j:(A2++[f]).foldl (iW e.1 e.2) B0=iW e.1 e.2 (A2.foldl (iW e.1 e.2) B0) f:=by rw[aab];rfl
 have hB3:=D.stp hW ed el et hf;have hlen:=D.len;have x:=Box.mk hN2;clear hN2 eF Y V S J hB;rw[j] at x;generalize A2.foldl (iW e.1 e.2) B0=F at *;clear j;have G:Box (∀(r:Option T) (H':Hp3),Kb1 l H0 H'->H' I=some (.lst ((gfl W beat k e.1).map bL))->H' l=some (.dci (dI wyT (iW e.1 e.2 F f)))->N [some (.ref a),some (.int (k:Int)),some (.ref q),some (.ref l),some (.int (e.1:Int)),some (wyT e.2),r] H'):=⟨fun r H' h1 h2 h3=>x.out _ _ ⟨r,rfl,h1,h2,h3,hB3⟩⟩;clear x hB3;have lk:=qT wyT (e.1+f) F;have pt:=RJ wyT (e.1+f) (e.2++[f]) F;have dl:=RG wyT F;have Z:wyT (e.2++[f])=.tup (e.2.map bL++[.int (f:Int)]):=by unfold wyT;rw[x_];rfl
 have ec:((e.1+f:Nat):Int)=(e.1:Int)+(f:Int):=by push_cast;rfl
 rw[Z,ec] at pt;rw[ec] at lk;have hst:iW e.1 e.2 F f=match du (e.1+f) F with
   |none=>putN (e.1+f) (e.2++[f]) F
   |some _=>F:=rfl
 have t:=Box.mk hst;clear hst;try simp only[wyT,bL] at pt
 simp only[wyT,bL];cases el2:du (e.1+f) F with
 |none =>
  rw[el2] at lk t;rw[Option.map_none] at lk;have yes:=Box.mk (fun r=>G.out r _ v.put (by rw[aF (Ne.symm npf)];exact gf) (by rw[au,t.out,<- pt]));try simp only[wyT,bL] at yes
  clear G pt Z;walk_at "";exact⟨trivial,by omega,by omega,by omega,yes.out _⟩
 |some u =>
 rw[el2] at lk t;rw[aaL] at lk;have no:=Box.mk (fun r=>G.out r H v gf (by rw[t.out];exact C));try simp only[wyT,bL] at no
 clear G pt Z;walk_at "";exact⟨trivial,by omega,by omega,by omega,no.out _⟩
abbrev cT:List Str:=["self","stand","done"]
def nu:FnScope cT cT (aC (topm 38 2)):=bf
def nA {f:Addr} (g:GM K c "greatest_at" "Walk.greatest_at" (topm 38 2) cT f C) (B:Bl mg) (r:InsC K c ["works","beat","rules","whole"]) (i:Cal P w K mg base 2 "greatest_numbers" (top 35) ["numbers"] WP) (j:MtC P w K mg base c 3 "fillings_at" cT (Wo c)):MtC P w K mg base c 4 "greatest_at" cT (WQ c):=by
 refine⟨g.cls,f,C,g.mt,g.b,?_⟩;refine fn3 g.fn nu (fun ts H Q h=>?_) (fun F A outer s H E ts H3 Q z h=>?_)
 ·obtain⟨a,W,beat,k,d,rfl,_⟩:=h;rfl
 obtain⟨a,W,beat,k,d,rfl,x,y,D,I,u⟩:=h;refine⟨_,(aA (aN (aU i z rfl (aa (qC j (z.mono (by decide)) (v3 0) (aa (v3 1) (aa (v3 2) ao))) ao)))),?_⟩;rw[show aQ cT [T.ref a,T.int (k:Int),T.int (d:Int)]=[some (T.ref a),some (T.int (k:Int)),some (T.int (d:Int))] from rfl];walk_at "h";have N:=Box.mk u;clear u;have M:=qR x;obtain⟨G,O,_⟩:=y.ex;have J:=FW (W:=W) (beat:=beat) (p:=G) (m:="fillings_at") (by decide +kernel);walk_at "";refine⟨by first | trivial | exact J,a,W,beat,k,d,rfl,x,y,D,I,fun v t=>?_⟩;have n:(fls W beat k d).length<=256:=Q_ (Yy _ _) (by rw[D_];exact M);refine⟨v,fls W beat k d,rfl,au,n,fun p L=>?_⟩;have l:Sub3 H3 (up3 H3 v (.lst ((fls W beat k d).map bL))):=Sub3.new t;refine Fin3.of ?_ (N.out p (cu l L));intro b o q;by_cases e:b=p
 ·subst e;rw[au] at q ⊢;exact q
 rw[aF e] at q ⊢;exact l b o q
def G7:Sp3:=fun ts H Q=>∃(W:Wk) (x:T) (a:List Str),ts=[W.enc,x]/\WkOk W/\We H x a/\Q (.int (numOf (W.tasks.map (·.1)) a)) H
def Nb:Sp3:=fun ts H Q=>∃(W:Wk) (n:Int),ts=[W.enc,.int n]/\WkOk W/\0<=n/\n<2^W.tasks.length/\Q (sT (pick (W.tasks.map (·.1)) n)) H
def Nf:Sp3:=fun ts H Q=>∃(a:List Str) (k:Str),ts=[sT a,.str k]/\Q (.bl (lB a k)) H
def yS:Sp3:=fun ts H Q=>∃a b:Int,ts=[.int a,.int b]/\Q (.bl (decide (Builtin.bitAnd a b=b))) H
def Ng:Sp3:=fun ts H Q=>∃(W:Wk) (t:Str),ts=[W.enc,.str t]/\WkOk W/\∀p,H p=none->Q (.ref p) (up3 H p (.lst ((jK W t).map T.str)))
def Nh:Sp3:=fun ts H Q=>∃W:Wk,ts=[W.enc]/\WkOk W/\∀p,H p=none->Q (.ref p) (up3 H p (.lst (W.tasks.map (ruT W (W.tasks.map (·.1))))))
def Ni:Sp3:=fun ts H Q=>∃(W:Wk) (a:Addr) (beat:Int) (b:Str) (D S:List Str),ts=[.ref a,.int beat,.str b,.int (numOf (W.tasks.map (·.1)) D),.int (numOf (W.tasks.map (·.1)) S)]/\WkOk W/\H a=some (.lst (W.tasks.map (ruT W (W.tasks.map (·.1)))))/\Q (.bl (wH W beat b D S)) H
abbrev lu:List Str:=["works","tasks","number","worth","task"]
def sc_number_of:FnScope lu ["works","tasks"] (aC (top 28)):=bf
def q9 {f:Addr} (g:G3 K mg "number_of" (top 28) ["works","tasks"] f p) (B:Bl mg):Cal P w K mg base 1 "number_of" (top 28) ["works","tasks"] G7:=by
 refine⟨f,p,g,?_⟩;refine fn3 g.fn sc_number_of (fun ts H Q h=>?_) (fun r A outer s H E ts H3 Q C h=>?_)
 ·obtain⟨W,x,d,rfl,_⟩:=h;rfl
 have j:=Room.u31 C;obtain⟨⟨tk,c,prs,b⟩,x,d,rfl,u,q,k⟩:=h;refine⟨_,(ak (aG (i:=2) sc_number_of.nd aq)
   (ak (aG (i:=3) sc_number_of.nd aq)
   (ak (bc F_ rfl (bJ (aK ix3 (v3 0) aq)) (aD (i:=4) sc_number_of.nd) (ak (bA (aV (jw j) (aK ix3 (v3 4) aq) (v3 1) rfl) (aA (aG (i:=2) sc_number_of.nd (aH bB (v3 2) (v3 3)))) aR)
    (aA (aG (i:=3) sc_number_of.nd (aH di (v3 3) aq)))))
   (aA (aN (v3 2)))))),?_⟩
 rw[show aQ lu [Wk.enc ⟨tk,c,prs,b⟩,x]=[some (T.tup [T.tup (tk.map tkT),T.tup (c.map orT),T.tup (prs.map prT),T.tup (b.map T.str)]),some (x),none,none,none] from rfl];walk_at "h";have G:tk.length<=8:=u.t8;walk_at "";refine aW tkT tk (fun A l H=>∃v:Option T,H=H3/\l=[some (T.tup [T.tup (tk.map tkT),T.tup (c.map orT),T.tup (prs.map prT),T.tup (b.map T.str)]),some x,some (.int (numOf (A.map (·.1)) d)),some (.int (2^A.length)),v]) ⟨none,rfl,rfl⟩ ?_ ?_
 ·rintro l H ⟨v,rfl,rfl⟩;walk_at "t";walk_at "";exact Fin3.of Sub3.refl k
 rintro A t B l H N e ⟨v,rfl,rfl⟩ m;have y:A.length+1<=8:=by have:=W_ List.length e;simp only[d_,j_] at this;omega
 have D:0<(2:Int)^A.length/\(2:Int)^A.length<=256:=by
  have:A.length=0\/A.length=1\/A.length=2\/A.length=3\/A.length=4\/A.length=5\/A.length=6\/A.length=7:=by omega
  rcases this with e | e | e | e | e | e | e | e <;> rw[e] <;> decide
 have n:CMul (2^A.length) 2:=.inl ⟨by omega,by omega⟩;have a:∀v,N [some (T.tup [T.tup (tk.map tkT),T.tup (c.map orT),T.tup (prs.map prT),T.tup (b.map T.str)]),some x,some (.int (numOf (A.map (·.1)) d+2^A.length*(if t.1∈d then 1 else 0))),some (.int (2^A.length*2)),v] H:=fun v=>by have:=m [some (T.tup [T.tup (tk.map tkT),T.tup (c.map orT),T.tup (prs.map prT),T.tup (b.map T.str)]),some x,some (.int (numOf ((A++[t]).map (·.1)) d)),some (.int (2^(A++[t]).length)),v] H ⟨v,rfl,rfl⟩;rw[show (2:Int)^(A++[t]).length=2^A.length*2 by rw[d_,A_,aa8],x_,G_,ZF,mV,e_] at this;exact this
 replace a:=Box.mk a;obtain⟨nm,z,F⟩:=t;walk_at "t";clear m e k;simp only[tkT,sT];walk_at "";refine J1 q ?_;by_cases o:nm∈d
 ·simp only[o,ZG,if_true,C_,YG,gQ,Int.mul_one] at a ⊢;exact⟨by first | trivial | exact n,a.out _⟩
 simp only[o,Ze,if_true,C_,YG,gQ,Int.mul_zero,Int.add_zero] at a ⊢;exact⟨by first | trivial | exact n,a.out _⟩
abbrev dw:List Str:=["kinds","kind"]
def nF:FnScope dw dw (aC (top 22)):=bf
def nG {f:Addr} (g:G3 K mg "may_be_done" (top 22) dw f i) (B:Bl mg):Cal P w K mg base 1 "may_be_done" (top 22) dw Nf:=by
 refine⟨f,i,g,?_⟩;refine fn3 g.fn nF (fun ts H Q h=>?_) (fun j A outer s H E ts H3 Q e h=>?_)
 ·obtain⟨a,k,rfl,_⟩:=h;rfl
 have d:=Room.u30 e;have c:=Room.u31 e;obtain⟨a,b,rfl,k⟩:=h;refine⟨_,(aA (aN (Uk (gD (dh d) (aM cD rfl B.len_ cF (aa (v3 0) ao)) aq) (p7 (gD (jw c) (v3 1) (v3 0) rfl))))),?_⟩;rw[show aQ dw [sT a,T.str b]=[some (T.tup (a.map T.str)),some (T.str b)] from rfl];have n:pl 20 (T.str b)=true:=rfl;have l:=cW a;have m:dj false (T.str b) (a.map T.str)=decide (b∈a):=by unfold dj;have:(T.str b∈a.map T.str)↔b∈a:=fL jG;simp only[this];simp
 walk_at "";unfold lB at k;cases a with
 |nil=>simp only[ZG,Bool.true_or,Y0,if_true] at k ⊢;exact Fin3.of Sub3.refl k
 |cons y r =>
  have:¬(((r.length+1:Nat)):Int)=0:=by omega
  simp only[j_,this,Ze,C_,YG] at k ⊢
  exact⟨trivial,trivial,Fin3.of Sub3.refl (by simpa using k)⟩
abbrev gm:List Str:=["number","part"]
def wZ:FnScope gm gm (aC (top 33)):=bf
def w5 {f:Addr} (g:G3 K mg "has_all" (top 33) gm f d) (B:Bl mg):Cal P w K mg base 1 "has_all" (top 33) gm yS:=by
 refine⟨f,d,g,?_⟩;refine fn3 g.fn wZ (fun ts H Q h=>?_) (fun i A outer s H E ts H3 Q e h=>?_)
 ·obtain⟨a,b,rfl,_⟩:=h;rfl
 have c:=Room.u30 e;obtain⟨a,b,rfl,k⟩:=h;refine⟨_,(aA (aN (gD (dh c) (aH Di (v3 0) (v3 1)) (v3 1)))),?_⟩;rw[show aQ gm [T.int a,T.int b]=[some (T.int a),some (T.int b)] from rfl];walk_at "";exact Fin3.of Sub3.refl k
abbrev cZ:List Str:=["works","task"]
def oh:FnScope cZ cZ (aC (top 31)):=bf
def ou {f:Addr} (g:G3 K mg "apart_from" (top 31) cZ f D) (B:Bl mg):Cal P w K mg base 1 "apart_from" (top 31) cZ Ng:=by
 refine⟨f,D,g,?_⟩;refine fn3 g.fn oh (fun ts H Q h=>?_) (fun I A outer s H E ts H3 Q O h=>?_)
 ·obtain⟨W,t,rfl,_⟩:=h;rfl
 have c:=Room.u30 O;obtain⟨⟨tk,m,prs,l⟩,t,rfl,L,k⟩:=h;refine⟨_,(aA (aN (bO rfl (bN (n0:=(aC (top 31)).names) (N:=cZ) (N':=["word","one","other","task"]) (nt:=3) (cap:=[1]) rfl rfl (by decide +kernel)) (bJ (aK ix3 (v3 0) aq)) (fun X C s H V S=>⟨(cg (n:=3) rfl (aJ (aD (i:=0) (show List.Nodup [("word":Str),("one":Str),("other":Str),("task":Str)] by decide +kernel)) (aJ (aD (i:=1) (show List.Nodup [("word":Str),("one":Str),("other":Str),("task":Str)] by decide +kernel)) (aJ (aD (i:=2) (show List.Nodup [("word":Str),("one":Str),("other":Str),("task":Str)] by decide +kernel)) bH)))),(dZ (PW3.pt (gY (aV (dh c) (v3 0) cM) (fK (aV (dh c) (v3 1) (v3 3)))))),(v3 2)⟩)))),?_⟩;rw[show aQ cZ [Wk.enc ⟨tk,m,prs,l⟩,T.str t]=[some (T.tup [T.tup (tk.map tkT),T.tup (m.map orT),T.tup (prs.map prT),T.tup (l.map T.str)]),some (T.str t)] from rfl];walk_at "h";have F:prs.length<=12:=L.ps;walk_at "";walk_at "c";refine eV prT prs (fun A q v H=>H=H3/\q=((A.filter fun p=>decide (p.1=("apart":Str))&&decide (p.2.1=t)).map (·.2.2)).map T.str/\∃r u x:Option T,v=[r,u,x,some (.str t)]) ⟨rfl,rfl,none,none,none,rfl⟩ ?_ ?_
 ·rintro q v H ⟨rfl,rfl,r,u,x,rfl⟩;refine⟨trivial,?_,fun p M=>Fin3.of Sub3.refl (k p M)⟩;rw[e_,e_];exact Q_ (Yy _ _) (by omega)
 rintro A ⟨w,a,b⟩ B q v H N e ⟨rfl,rfl,r,u,x,rfl⟩ o;have J:A.length<=12:=by have:=W_ List.length e;simp only[d_,j_] at this;omega
 have U:((A.filter fun p=>decide (p.1=("apart":Str))&&decide (p.2.1=t)).map (·.2.2)).length<=12:=by rw[e_];exact Q_ (Yy _ _) J
 walk_at "t";have G:Box (w="apart"/\a=t->N (((A.filter fun p=>decide (p.1=("apart":Str))&&decide (p.2.1=t)).map (·.2.2)).map T.str++[T.str b]) [some (.str w),some (.str a),some (.str b),some (.str t)] H):=⟨fun h=>o _ _ _ ⟨rfl,by rw[Zf];simp [h],_,_,_,rfl⟩⟩;have y:Box (¬(w="apart"/\a=t)->N (((A.filter fun p=>decide (p.1=("apart":Str))&&decide (p.2.1=t)).map (·.2.2)).map T.str) [some (.str w),some (.str a),some (.str b),some (.str t)] H):=⟨fun h=>o _ _ _ ⟨rfl,by rw[Zf];simp [h],_,_,_,rfl⟩⟩;generalize ((A.filter fun p=>decide (p.1=("apart":Str))&&decide (p.2.1=t)).map (·.2.2))=R at *;clear o k e;simp only[prT];walk_at "";walk_at "t";by_cases d:w="apart"
 ·simp only[d,ZG,if_true];by_cases j:a=t
  ·simp only[j,ZG,if_true];have:=G.out ⟨d,j⟩;rw[d,j] at this;exact⟨by omega,this⟩
  simp only[j,Ze,C_,YG];have:=y.out fun z=>j z.2;rw[d] at this;exact this
 simp only[d,Ze,C_,YG];exact y.out fun z=>d z.1
abbrev dD:List Str:=["numbers","greatest","number"]
def sc_greatest_numbers:FnScope dD ["numbers"] (aC (top 35)):=bf
def iY {f:Addr} (g:G3 K mg "greatest_numbers" (top 35) ["numbers"] f fd) (B:Bl mg) (c:Cal P w K mg base 1 "has_all" (top 33) ["number","part"] yS):Cal P w K mg base 2 "greatest_numbers" (top 35) ["numbers"] WP:=by
 refine⟨f,fd,g,?_⟩;refine fn3 g.fn sc_greatest_numbers (fun ts H Q h=>?_) (fun cdv A outer s H E ts H3 Q hr h=>?_)
 ·obtain⟨a,fs,rfl,_⟩:=h;rfl
 obtain⟨a,fs,rfl,O,hl,k⟩:=h;refine⟨_,(ak (aG (i:=1) sc_greatest_numbers.nd (bx ao))
   (ak (bc F_ rfl (Qu rfl B.reversed_ (v3 0)) (aD (i:=2) sc_greatest_numbers.nd) (aA (bA (dU (cI (aM (Qm rfl) rfl B.any_ Pb (aa (bO rfl (bN (n0:=(aC (top 35)).names) (N:=dD) (N':=["other","number"]) (nt:=1) (cap:=[2]) rfl rfl (by decide +kernel)) (bV (v3 1)) (fun cl pins s H C0 fp=>⟨(aD (i:=0) (show List.Nodup [("other":Str),("number":Str)] by decide +kernel)),cB,(aU c hr rfl (aa (v3 0) (aa (v3 1) ao)))⟩)) ao)))) (aA (bC (dm E_ M_ N_ bj (v3 1) (aa (v3 2) ao)))) aR)))
   (aA (aN (Dp rfl rfl B.list_ rfl B.reversed_ (v3 1)))))),?_⟩
 rw[show aQ dD [T.ref a]=[some (T.ref a),none,none] from rfl];walk_at "h";walk_at "s";refine⟨by omega,fun F C=>?_⟩;walk_at "n";have m:Sub3 H3 (up3 H3 F (.lst [])):=Sub3.new C;have I:up3 H3 F (.lst []) F=some (.lst ((gre bT []).map bL)):=au;generalize up3 H3 F (.lst [])=H1 at m I;try dsimp only
 refine aB fun R1 L=>?_;have X:=m _ _ O;walk_at "";rw[<- List.map_reverse];refine aW bL fs.reverse (fun A S H=>∃(q:Addr) (v:Option T),S=[some (.ref a),some (.ref q),v]/\Sub3 H3 H/\H3 q=none/\H q=some (.lst ((gre bT A.reverse).map bL))) ⟨F,none,rfl,m,C,I⟩ ?_ ?_
 ·rintro S H ⟨q,v,rfl,x,d,D⟩;refine⟨.inl (x _ _ O),?_⟩;walk_at "n";rw[List.reverse_reverse] at D;clear I X;walk_at "";intro p Z;have R:H3 p=none:=by
   cases e:H3 p with
   |none=>rfl
   |some o=>rw[x _ _ e] at Z;cases Z
  rw[<- List.map_reverse];refine Fin3.of ?_ (k p R);intro b o j;by_cases e:b=p
  ·subst e;rw[au] at j ⊢;exact j
  rw[aF e] at j ⊢;exact x b o j
 rintro A n B S H N e ⟨q,v,rfl,x,d,D⟩ V;refine⟨.inl (x _ _ O),?_⟩;have hA:A.length+1<=256:=by have:=W_ List.length e;simp only[d_,j_,ZW] at this;omega
 have t:=Box.mk V;have y:gre bT (A++[n]).reverse=if (gre bT A.reverse).any (fun g=>bT g n) then gre bT A.reverse else gre bT A.reverse++[n]:=by rw[List.reverse_append];rfl
 have gl:=qX bT A.reverse;rw[ZW] at gl;clear V e k L I X;generalize gre bT A.reverse=G at *;walk_at "";walk_at "c";refine bI bL (fun g=>T.bl (bT g n)) G [some (bL n)] (.inl D) (by omega) (fun g hg Q' M=>?_) (fun J r=>?_)
 ·clear t;walk_at "";exact⟨(g:Int),(n:Int),rfl,M⟩
 have z:q≠J:=bz D r;have Y:(G.map fun g=>T.bl (bT g n))=(G.map fun g=>bT g n).map T.bl:=by rw[YC];rfl
 have U:up3 H J (.lst ((G.map fun g=>bT g n).map T.bl)) q=some (.lst (G.map bL)):=by rw[aF z];exact D
 have u:Sub3 H3 (up3 H J (.lst ((G.map fun g=>bT g n).map T.bl))):=x.trans (Sub3.new r);rw[Y,mJ,fG];generalize up3 H J (.lst ((G.map fun g=>bT g n).map T.bl))=H5 at U u;have W:(G.map fun g=>bT g n).any id=G.any fun g=>bT g n:=by rw[List.any_map];rfl
 rw[W];cases j:G.any fun g=>bT g n
 ·rw[j] at y;simp only[C_,YG] at y;clear W Y r z;simp only[Z9,if_true];walk_at "";refine⟨⟨trivial,trivial⟩,by omega,t.out _ _ ⟨q,_,rfl,?_,d,?_⟩⟩
  ·intro b o l;by_cases e:b=q
   ·subst e;rw[d] at l;cases l
   rw[aF e];exact u b o l
  rw[au,y,x_];rfl
 rw[j] at y;simp only[if_true] at y;simp only[aah,C_,YG];exact t.out _ _ ⟨q,_,rfl,u,d,by rw[y];exact U⟩
abbrev nH:List Str:=["self","works","beat"]
def K3:FnScope nH nH (aC (topm 38 0)):=bf
def K4 {f:Addr} (g:GI K mg c "Walk" "Walk.__init__" (topm 38 0) nH f fd) (B:Bl mg) (d:InsC K c ["works","beat","rules","whole"]) (l:Cal P w K mg base 4 "rules_of" (top 32) ["works"] Nh) (i:Cal P w K mg base 1 "number_of" (top 28) ["works","tasks"] G7) (j:Cal P w K mg base 1 "names_of" (top 24) ["tasks"] Wj):MkC P w K mg base c 5 "Walk" nH (Wn c):=by
 refine⟨g.at_,f,fd,g.mk_,g.b,?_⟩;refine fn3 g.fn K3 (fun ts H Q h=>?_) (fun cdv A outer s H E ts H3 Q V h=>?_)
 ·obtain⟨a,W,beat,rfl,_⟩:=h;rfl
 obtain⟨a,W,beat,rfl,R,ha,k⟩:=h;refine⟨_,(ak (qz d (v3 0) (v3 1))
   (ak (qz d (v3 0) (v3 2))
   (ak (qz d (v3 0) (aU l V rfl (aa (v3 1) ao)))
   (aA (qz d (v3 0) (aU i V rfl (aa (v3 1) (aa (aU j V rfl (aa (aK ix3 (v3 1) aq) ao)) ao)))))))),?_⟩
 rw[show aQ nH [T.ref a,W.enc,T.int beat]=[some (T.ref a),some (W.enc),some (T.int beat)] from rfl];walk_at "h";have k':=Box.mk k;clear k;walk_at "s";have X:up3 H3 a (.ins c (dO "works" W.enc [])) a=some (.ins c [("works",W.enc)]):=au;refine⟨by decide,?_⟩;have u:∀b o,b≠a->H3 b=some o->up3 H3 a (.ins c (dO "works" W.enc [])) b=some o:=fun b o m e=>by rw[aF m];exact e
 generalize up3 H3 a (.ins c (dO "works" W.enc []))=M at X u ⊢;walk_at "n";walk_at "s";refine⟨by decide,?_⟩;have y:dO "beat" (T.int beat) [("works",W.enc)]=[(("works":Str),W.enc),(("beat":Str),.int beat)]:=by unfold dO;rw[if_neg (by decide +kernel)];rfl
 rw[y];have C:up3 M a (.ins c [("works",W.enc),("beat",.int beat)]) a=some (.ins c [("works",W.enc),("beat",.int beat)]):=au;have n:∀b o,b≠a->H3 b=some o->up3 M a (.ins c [("works",W.enc),("beat",.int beat)]) b=some o:=fun b o m e=>by rw[aF m];exact u b o m e
 generalize up3 M a (.ins c [("works",W.enc),("beat",.int beat)])=D at C n ⊢;clear X u y;walk_at "n";walk_at "s";refine⟨W,rfl,R,fun p U=>?_⟩;have v:a≠p:=bz C U;have O:up3 D p (.lst (W.tasks.map (ruT W (W.tasks.map (·.1))))) p=some (.lst (W.tasks.map (ruT W (W.tasks.map (·.1))))):=au;have Y:up3 D p (.lst (W.tasks.map (ruT W (W.tasks.map (·.1))))) a=some (.ins c [("works",W.enc),("beat",.int beat)]):=by rw[aF v];exact C
 have t:∀b o,b≠a->H3 b=some o->up3 D p (.lst (W.tasks.map (ruT W (W.tasks.map (·.1))))) b=some o:=fun b o m e=>by rw[aF (bz (n b o m e) U)];exact n b o m e
 generalize up3 D p (.lst (W.tasks.map (ruT W (W.tasks.map (·.1)))))=F at O Y t ⊢;clear C n U;walk_at "";refine⟨by decide,?_⟩;have y:dO "rules" (T.ref p) [("works",W.enc),("beat",.int beat)]=[(("works":Str),W.enc),(("beat":Str),.int beat),(("rules":Str),.ref p)]:=by unfold dO;rw[if_neg (by decide +kernel)];unfold dO;rw[if_neg (by decide +kernel)];rfl
 rw[y];have L:up3 F a (.ins c [("works",W.enc),("beat",.int beat),("rules",.ref p)]) a=some (.ins c [("works",W.enc),("beat",.int beat),("rules",.ref p)]):=au;have I:up3 F a (.ins c [("works",W.enc),("beat",.int beat),("rules",.ref p)]) p=some (.lst (W.tasks.map (ruT W (W.tasks.map (·.1))))):=by rw[aF (Ne.symm v)];exact O
 have r:∀b o,b≠a->H3 b=some o->up3 F a (.ins c [("works",W.enc),("beat",.int beat),("rules",.ref p)]) b=some o:=fun b o m e=>by rw[aF m];exact t b o m e
 generalize up3 F a (.ins c [("works",W.enc),("beat",.int beat),("rules",.ref p)])=J at L I r ⊢;clear O Y t y;walk_at "n";walk_at "";refine⟨W.tasks,rfl,R.t8,fun q G=>?_⟩;have S:a≠q:=bz L G;have N:p≠q:=bz I G;try dsimp only
 refine⟨W,_,W.tasks.map (·.1),rfl,R,.inr ⟨q,rfl,au⟩,?_⟩;have ew:numOf (W.tasks.map (·.1)) (W.tasks.map (·.1))=(top2 W:Int) - 1:=by have h1:=j6 (W:=W) (A:=nm W) fun x hx=>hx;have h2:=mZ W;rw[cH];show ((bY (nm W) (nm W):Nat):Int)=_;rw[h1];omega
 rw[ew];have g7:up3 J q (.lst ((W.tasks.map (·.1)).map T.str)) a=some (.ins c [("works",W.enc),("beat",.int beat),("rules",.ref p)]):=by rw[aF S];exact L
 have Z:up3 J q (.lst ((W.tasks.map (·.1)).map T.str)) p=some (.lst (W.tasks.map (ruT W (W.tasks.map (·.1))))):=by rw[aF N];exact I
 have z:∀b o,b≠a->H3 b=some o->up3 J q (.lst ((W.tasks.map (·.1)).map T.str)) b=some o:=fun b o m e=>by rw[aF (bz (r b o m e) G)];exact r b o m e
 generalize up3 J q (.lst ((W.tasks.map (·.1)).map T.str))=H8 at g7 Z z ⊢;clear L I r G;walk_at "";refine⟨by decide,?_⟩;have y:dO "whole" (T.int ((top2 W:Int) - 1)) [("works",W.enc),("beat",.int beat),("rules",.ref p)]=wkF W beat p:=by unfold dO;rw[if_neg (by decide +kernel)];unfold dO;rw[if_neg (by decide +kernel)];unfold dO;rw[if_neg (by decide +kernel)];rfl
 rw[y];exact Fin3.of Sub3.refl (k'.out _ (fun b o m e=>by rw[aF m];exact z b o m e) ⟨p,au,by rw[aF (Ne.symm v)];exact Z⟩)
abbrev fV:List Str:=["self","stand","done","kind","left"]
def sc_fillings_at:FnScope fV ["self","stand","done"] (aC (topm 38 1)):=bf
def nJ {f:Addr} (g:GM K l "fillings_at" "Walk.fillings_at" (topm 38 1) ["self","stand","done"] f fd) (B:Bl mg) (j:InsC K l ["works","beat","rules","whole"]) (m:Cal P w K mg base 2 "parts_of" (top 37) ["number"] M6) (c:Cal P w K mg base 2 "is_filling_number" (top 34) ["rules","beat","kind","done","number"] Ni):MtC P w K mg base l 3 "fillings_at" ["self","stand","done"] (Wo l):=by
 refine⟨g.cls,f,fd,g.mt,g.b,?_⟩;refine fn3 g.fn sc_fillings_at (fun ts H Q h=>?_) (fun cdv A outer s H E ts H3 Q Y h=>?_)
 ·obtain⟨a,W,beat,k,d,rfl,_⟩:=h;rfl
 obtain⟨a,W,beat,k,d,rfl,y,hw,hk,U,R⟩:=h;refine⟨_,(ak (bA (aV Ul (v3 1) (aM cD rfl B.len_ cF (aa (aK ix3 (ie j (v3 0)) aq) ao))) (aA (aN (bx ao))) aR)
   (ak (aG (i:=3) sc_fillings_at.nd (aK ix3 (aK ix3 (ie j (v3 0)) aq) (v3 1)))
   (ak (aG (i:=4) sc_fillings_at.nd (aU m Y rfl (aa (aH qe (ie j (v3 0)) (v3 2)) ao)))
   (aA (aN (bO rfl (bN (n0:=(aC (topm 38 1)).names) (N:=fV) (N':=["number","kind","done","self"]) (nt:=1) (cap:=[3,2,0]) rfl rfl (by decide +kernel)) (bV (v3 4)) (fun cl X s H C0 fp=>⟨(aD (i:=0) (show List.Nodup [("number":Str),("kind":Str),("done":Str),("self":Str)] by decide +kernel)),(dZ (cI (aU c Y rfl (aa (ie j (v3 3)) (aa (ie j (v3 3)) (aa (v3 1) (aa (v3 2) (aa (v3 0) ao)))))))),(v3 0)⟩))))))),?_⟩
 rw[show aQ fV [T.ref a,T.int (k:Int),T.int (d:Int)]=[some (T.ref a),some (T.int (k:Int)),some (T.int (d:Int)),none,none] from rfl];walk_at "h";have k':=Box.mk R;clear R;have t2:=qR y;have t1:=mZ W;obtain⟨p,L,G⟩:=hw.ex;have f1:=uw (W:=W) (beat:=beat) (p:=p);have f2:=J9 (W:=W) (beat:=beat) (p:=p);have f3:=FT (W:=W) (beat:=beat) (p:=p);have f4:=ux (W:=W) (beat:=beat) (p:=p);have x1:=FP hk;have M:=Box.mk L;have O:=Box.mk G;generalize wkF W beat p=fs at *;walk_at "s";rw[H_ (by omega),if_neg J_];walk_at "n";walk_at "s";walk_at "n";walk_at "s";refine⟨top2 W - 1 - d,by rw[show ((top2 W - 1 - d:Nat):Int)=(top2 W:Int) - 1 - (d:Int) by omega],by omega,fun pl r=>?_⟩;have n1:a≠pl:=bz L r;have n2:p≠pl:=bz G r;have C:=Ac (W:=W) (beat:=beat) (k:=k) y U;have Z:(ut (top2 W - 1 - d)).length<=256:=by unfold ut;exact Q_ (Yy _ _) (by rw[D_];omega)
 have z:∀i∈ut (top2 W - 1 - d),i<top2 W:=fun i F=>by have:=YF.mp (B_.mp F).1;omega
 generalize ut (top2 W - 1 - d)=u at *;have n:Sub3 H3 (up3 H3 pl (.lst (u.map bL))):=Sub3.new r;have h1:=n _ _ M.out;have S:=n _ _ O.out;have V:up3 H3 pl (.lst (u.map bL)) pl=some (.lst (u.map bL)):=au;generalize up3 H3 pl (.lst (u.map bL))=H4 at n h1 S V ⊢;clear L G x1 f1 f4 n1 n2 r;walk_at "n";have x:=Box.mk z;have v:=Box.mk C;clear z C;walk_at "";walk_at "c";refine fC (still:=bF pl (u.map bL)) (H:=H4) bL bL (fil W beat k d) u [some (.str (W.row.getD k "")),some (.int (d:Int)),some (.ref a)] (.inl V) (by omega) ?c1 ?c2 ?c3
 case c2=>exact fun i F _ Q' t=>t
 case c1 =>
  intro i F Q' t
  have J:=x.out i F
  have I:=Box.mk t
  clear k' t
  simp only[bL]
  walk_at ""
  refine⟨W,p,beat,W.row.getD k "",pk W d,pk W i,?_,y,S,?_⟩
  ·
   rw[Wm y U,Wm y J]
  ·
   exact I.out
 case c3 =>
  intro q t
  rw[v.out]
  refine Fin3.of ?_ (k'.out q (cu n t))
  intro b o D
  by_cases e:b=q
  ·
   subst e;rw[au] at D ⊢;exact D
  ·
   rw[aF e] at D ⊢;exact n b o D
abbrev c7:List Str:=["self","fillings"]
def oA:FnScope c7 c7 (aC (topm 38 4)):=bf
def oE {f:Addr} (g:GM K c "dealing_of" "Walk.dealing_of" (topm 38 4) c7 f r) (B:Bl mg) (e:InsC K c ["works","beat","rules","whole"]) (d:Cal P w K mg base 1 "tasks_of" (top 29) ["works","number"] Nb):MtC P w K mg base c 2 "dealing_of" c7 (Wq c):=by
 refine⟨g.cls,f,r,g.mt,g.b,?_⟩;refine fn3 g.fn oA (fun ts H Q h=>?_) (fun v A outer s H E ts H3 Q z h=>?_)
 ·obtain⟨a,W,beat,fs,rfl,_⟩:=h;rfl
 obtain⟨a,W,beat,fs,rfl,x,y,L,u,k⟩:=h;refine⟨_,(aA (aN (bM cY rfl B.tuple_ cj (aa (bO rfl (bN (n0:=(aC (topm 38 4)).names) (N:=c7) (N':=["filling","self"]) (nt:=1) (cap:=[0]) rfl rfl (by decide +kernel)) (bJ (v3 1)) (fun R o s H M G=>⟨(aD (i:=0) (show List.Nodup [("filling":Str),("self":Str)] by decide +kernel)),cB,(aU d z rfl (aa (ie e (v3 1)) (aa (v3 0) ao)))⟩)) ao)))),?_⟩;rw[show aQ c7 [T.ref a,T.tup (fs.map bL)]=[some (T.ref a),some (T.tup (fs.map bL))] from rfl];walk_at "h";have t:=Box.mk k;clear k;obtain⟨p,J,D⟩:=y.ex;have I:=uw (W:=W) (beat:=beat) (p:=p);generalize wkF W beat p=O at *;walk_at "";walk_at "c";refine bI (still:=cJ) (H:=H3) bL (fun i=>sT (pk W i)) fs [some (.ref a)] trivial (by omega) ?c1 ?c2
 case c1 =>
  intro i C F l
  have n:=u i C
  have j:((2^W.tasks.length:Nat):Int)=(2:Int)^W.tasks.length:=by push_cast;rfl
  have m:=Box.mk l
  clear t l
  simp only[bL]
  walk_at ""
  exact⟨W,(i:Int),rfl,x,aaH _,by rw[<- j];exact Int.ofNat_lt.mpr n,m.out⟩
 case c2 =>
  intro q l
  have k:=t.out
  rw[YC] at k
  walk_at ""
  exact Fin3.of (Sub3.new l) k
abbrev jo:List Str:=["number","parts","worth"]
def sc_parts_of:FnScope jo ["number"] (aC (top 37)):=bf
def uM {f:Addr} (g:G3 K mg "parts_of" (top 37) ["number"] f fd) (B:Bl mg) (c:Cal P w K mg base 1 "has_all" (top 33) ["number","part"] yS):Cal P w K mg base 2 "parts_of" (top 37) ["number"] M6:=by
 refine⟨f,fd,g,?_⟩;refine fn3 g.fn sc_parts_of (fun ts H Q h=>?_) (fun cdv A outer s H E ts H3 Q hr h=>?_)
 ·obtain⟨N,rfl,_⟩:=h;rfl
 obtain⟨N,rfl,hN,k⟩:=h;refine⟨_,(ak (aG (i:=1) sc_parts_of.nd (bx (aa aq ao)))
   (ak (aG (i:=2) sc_parts_of.nd aq)
   (ak (ju F_ (aV xR (v3 2) (v3 0)) (ak (bA (cI (aU c hr rfl (aa (v3 0) (aa (v3 2) ao)))) (aA (aG (i:=1) sc_parts_of.nd (aH bB (v3 1) (bO rfl (bN (n0:=(aC (top 37)).names) (N:=jo) (N':=["part","worth"]) (nt:=1) (cap:=[2]) rfl rfl (by decide +kernel)) (bV (v3 1)) (fun cl pins s H C0 fp=>⟨(aD (i:=0) (show List.Nodup [("part":Str),("worth":Str)] by decide +kernel)),cB,(aH bB (v3 0) (v3 1))⟩))))) aR)
    (aA (aG (i:=2) sc_parts_of.nd (aH di (v3 2) aq)))))
   (aA (aN (v3 1)))))),?_⟩
 rw[show aQ jo [T.int (N:Int)]=[some (T.int (N:Int)),none,none] from rfl];walk_at "h";have k':=Box.mk k;clear k;walk_at "s";refine⟨by decide,fun J G=>?_⟩;have y:Sub3 H3 (up3 H3 J (.lst [T.int 0])):=Sub3.new G;have V:up3 H3 J (.lst [T.int 0]) J=some (.lst (((List.range (2^0)).filter (bT N)).map bL)):=by
  have h0:bT N 0=true:=by rw[fZ];exact Nat.and_zero N
  rw[au,show (List.range (2^0))=[0] from rfl,ZM,h0];rfl
 generalize up3 H3 J (.lst [T.int 0])=H4 at y V ⊢;walk_at "n";walk_at "s";walk_at "n";refine aB fun R2 X=>?_;refine⟨fun m σ H=>∃(j:Nat) (q:Addr),σ=[some (.int (N:Int)),some (.ref q),some (.int ((2^j:Nat):Int))]/\Sub3 H3 H/\H3 q=none/\H q=some (.lst (((List.range (2^j)).filter (bT N)).map bL))/\m=512 - 2^j/\(∀i,i+1=j->2^i<=N),⟨_,0,J,rfl,y,G,V,rfl,(fun i h=>by omega)⟩,?_⟩;rintro m σ H ⟨j,q,rfl,S,D,t,rfl,hj⟩;have Y:2^j<=256:=by
  cases j with
  |zero=>decide
  |succ i =>
   have h1:=hj i rfl
   have h2:i<8:=by
    rcases aaU i 8 with z | z
    ·
     exact z
    ·
     have:=Nat.pow_le_pow_right (n:=2) (by decide) z
     omega
   exact Q_ (Nat.pow_le_pow_right (by decide) (show i+1<=8 by omega)) (by decide)
 have hp:=Nat.pow_pos (n:=j) (show 0<2 by decide);walk_at "";by_cases u:2^j<=N
 ·have d:decide (((2^j:Nat):Int)<=(N:Int))=true:=L_ (Int.ofNat_le.mpr u);rw[d,if_pos rfl];have hlen:(((List.range (2^j)).filter (bT N))).length<=256:=Q_ (Yy _ _) (by rw[D_];exact Y);have l:=FQ (N:=N) (k:=j);have e2:((2^j:Nat):Int)*2=((2^(j+1):Nat):Int):=by rw[Nat.pow_succ];push_cast;rfl
  have cm:CMul ((2^j:Nat):Int) 2:=.inl ⟨by omega,by omega⟩;have L:2^(j+1)=2^j*2:=by rw[Nat.pow_succ]
  have v:Box (∀(I:Addr) (H':Hp3),Sub3 H3 H'->H3 I=none->H' I=some (.lst (((List.range (2^(j+1))).filter (bT N)).map bL))->∃m',m'<512 - 2^j/\∃(R:Nat) (q:Addr),([some (.int (N:Int)),some (.ref I),some (.int (((2^j:Nat):Int)*2))]:St3)=[some (.int (N:Int)),some (.ref q),some (.int ((2^R:Nat):Int))]/\Sub3 H3 H'/\H3 q=none/\H' q=some (.lst (((List.range (2^R)).filter (bT N)).map bL))/\m'=512 - 2^R/\(∀i,i+1=R->2^i<=N)):=⟨fun I H' s1 s2 s3=>⟨_,by omega,j+1,I,by rw[e2],s1,s2,s3,rfl,fun i hi=>by rw[show i=j by omega];exact u⟩⟩;clear hj X k' V y e2 d L;generalize (List.range (2^(j+1))).filter (bT N)=nx at *;generalize hcur:(List.range (2^j)).filter (bT N)=a at *;refine⟨(N:Int),((2^j:Nat):Int),rfl,?_⟩;rw[show decide (Builtin.bitAnd (N:Int) ((2^j:Nat):Int)=((2^j:Nat):Int))=bT N (2^j) from rfl];generalize 2^j=p at *;cases x:bT N p with
  |false=>rw[x] at l;simp only[C_,YG,S_] at l;simp only[gQ,C_,YG];rw[<- l] at t;exact⟨by first | trivial | exact cm,v.out q _ S D t⟩
  |true =>
  rw[x] at l;simp only[if_true] at l;try simp only[gQ,if_true]
  walk_at "c";rw[t,xY];refine bI bL (fun i=>bL (i+p)) a [some (.int (p:Int))] (.inl t) (by omega) (fun i hi Q' r=>?_) (fun O C=>?_)
  ·simp only[bL] at r ⊢;rw[show ((i+p:Nat):Int)=(i:Int)+(p:Int) by push_cast;rfl] at r;have W:=Box.mk r;clear r v;walk_at "";exact W.out
  have U:q≠O:=bz t C;rw[aF U,t,jX];refine⟨by rw[e_,e_];omega,fun pq F=>?_⟩;have M:Sub3 H3 (up3 (up3 H O (.lst (a.map fun i=>bL (i+p)))) pq (.lst (a.map bL++a.map fun i=>bL (i+p)))):=(S.trans (Sub3.new C)).trans (Sub3.new F);have Z:H3 pq=none:=cu (S.trans (Sub3.new C)) F;have gq:up3 (up3 H O (.lst (a.map fun i=>bL (i+p)))) pq (.lst (a.map bL++a.map fun i=>bL (i+p))) pq=some (.lst (nx.map bL)):=by rw[au,l,x_,YC];rfl
  generalize up3 (up3 H O (.lst (a.map fun i=>bL (i+p)))) pq (.lst (a.map bL++a.map fun i=>bL (i+p)))=H5 at M gq ⊢;exact⟨by first | trivial | exact cm,v.out pq _ M Z gq⟩
 have d:decide (((2^j:Nat):Int)<=(N:Int))=false:=H_ (fun z=>u (Int.ofNat_le.mp z));rw[d,if_neg J_];rw[yD (by omega)] at t;walk_at "n";walk_at "";refine Fin3.of ?_ (k'.out q D);intro b o x;by_cases e:b=q
 ·subst e;rw[au] at x;rw[t,x]
 rw[aF e] at x;exact S b o x
def uN:FnScope ["tasks"] ["tasks"] (aC (top 24)):=bf
def uO {f:Addr} (g:G3 K mg "names_of" (top 24) ["tasks"] f b) (B:Bl mg):Cal P w K mg base 1 "names_of" (top 24) ["tasks"] Wj:=by
 refine⟨f,b,g,?_⟩;refine fn3 g.fn uN (fun ts H Q h=>?_) (fun e A outer s H E ts H3 Q m h=>?_)
 ·obtain⟨tk,rfl,_⟩:=h;rfl
 obtain⟨tk,rfl,u,k⟩:=h;refine⟨_,(aA (aN (bO rfl (bN (n0:=(aC (top 24)).names) (N:=["tasks"]) (N':=["task"]) (nt:=1) (cap:=[]) rfl rfl (by decide +kernel)) (bJ (v3 0)) (fun q c s H p o=>⟨(aD (i:=0) (show List.Nodup [("task":Str)] by decide +kernel)),cB,(aK ix3 (v3 0) aq)⟩)))),?_⟩;rw[show aQ ["tasks"] [T.tup (tk.map tkT)]=[some (T.tup (tk.map tkT))] from rfl];walk_at "h";have d:=Box.mk k;clear k;walk_at "";walk_at "c";refine bI tkT (fun t=>T.str t.1) tk [] trivial (by omega) (fun t r n l=>?_) (fun j a=>?_)
 ·clear d;simp only[tkT];walk_at "";try exact l
 have:=d.out j a;rw[YC] at this;exact Fin3.of Sub3.refl this
abbrev nM:List Str:=["works","rules","name","length","kinds","own","group","ahead","apart"]
def sc_rules_of:FnScope nM ["works"] (aC (top 32)):=bf
def uP {f:Addr} (g:G3 K mg "rules_of" (top 32) ["works"] f Y) (B:Bl mg) (d:Cal P w K mg base 1 "number_of" (top 28) ["works","tasks"] G7) (j:Cal P w K mg base 1 "apart_from" (top 31) ["works","task"] Ng) (m:Cal P w K mg base 3 "ahead_of" (top 10) ["works","task"] Xa) (l:Cal P w K mg base 3 "group_of" (top 8) ["works","task"] S5):Cal P w K mg base 4 "rules_of" (top 32) ["works"] Nh:=by
 refine⟨f,Y,g,?_⟩;refine fn3 g.fn sc_rules_of (fun ts H Q h=>?_) (fun Z A outer s H E ts H3 Q t h=>?_)
 ·obtain⟨W,rfl,_⟩:=h;rfl
 obtain⟨⟨tk,c,prs,b⟩,rfl,r,k⟩:=h;refine⟨_,(ak (aG (i:=1) sc_rules_of.nd (bx ao))
   (ak (bc F_ rfl (bJ (aK ix3 (v3 0) aq)) (cg (n:=3) rfl (aJ (aD (i:=2) sc_rules_of.nd) (aJ (aD (i:=3) sc_rules_of.nd) (aJ (aD (i:=4) sc_rules_of.nd) bH)))) (ak (aG (i:=5) sc_rules_of.nd (aU d t rfl (aa (v3 0) (aa (bG (aa (v3 2) ao)) ao))))
    (ak (aG (i:=6) sc_rules_of.nd (aU d t rfl (aa (v3 0) (aa (aU l t rfl (aa (v3 0) (aa (v3 2) ao))) ao))))
    (ak (aG (i:=7) sc_rules_of.nd (aU d t rfl (aa (v3 0) (aa (aU m t rfl (aa (v3 0) (aa (v3 2) ao))) ao))))
    (ak (aG (i:=8) sc_rules_of.nd (aU d t rfl (aa (v3 0) (aa (aU j t rfl (aa (v3 0) (aa (v3 2) ao))) ao))))
    (aA (bC (dm E_ M_ N_ bj (v3 1) (aa (bG (aa (v3 5) (aa (v3 3) (aa (v3 4) (aa (v3 6) (aa (v3 7) (aa (v3 8) ao))))))) ao)))))))))
   (aA (aN (v3 1))))),?_⟩
 rw[show aQ nM [Wk.enc ⟨tk,c,prs,b⟩]=[some (T.tup [T.tup (tk.map tkT),T.tup (c.map orT),T.tup (prs.map prT),T.tup (b.map T.str)]),none,none,none,none,none,none,none,none] from rfl];walk_at "h";have t8:tk.length<=8:=r.t8;walk_at "";refine⟨by omega,fun p G=>?_⟩;refine aW tkT tk (fun A L H=>∃(R v3 J F S C O:Option T) (u:Hp3),L=[some (T.tup [T.tup (tk.map tkT),T.tup (c.map orT),T.tup (prs.map prT),T.tup (b.map T.str)]),some (.ref p),R,v3,J,F,S,C,O]/\H=up3 u p (.lst (A.map (ruT ⟨tk,c,prs,b⟩ (tk.map (·.1)))))/\Sub3 H3 u/\H3 p=none) ⟨none,none,none,none,none,none,none,H3,rfl,rfl,Sub3.refl,G⟩ ?_ ?_
 ·rintro L H ⟨R,v3,J,F,S,C,O,u,rfl,rfl,I,_⟩;walk_at "t";walk_at "";refine Fin3.of (fun a o e=>?_) (k p G);by_cases h:a=p
  ·subst h;rw[au] at e ⊢;exact e
  rw[aF h] at e ⊢;exact I _ _ e
 rintro A ⟨nm,y,V⟩ B L H N e ⟨R,v3,J,F,S,C,O,u,rfl,rfl,I,_⟩ U;have X:A.length<=8:=by have:=W_ List.length e;simp only[d_,j_] at this;omega
 walk_at "t";have x:Box (∀q,up3 u p (.lst (A.map (ruT ⟨tk,c,prs,b⟩ (tk.map (·.1))))) q=none->N [some (T.tup [T.tup (tk.map tkT),T.tup (c.map orT),T.tup (prs.map prT),T.tup (b.map T.str)]),some (.ref p),some (.str nm),some (.int y),some (sT V),some (.int (numOf (tk.map (·.1)) [nm])),some (.int (numOf (tk.map (·.1)) (bu ⟨tk,c,prs,b⟩ nm))),some (.int (numOf (tk.map (·.1)) (jm ⟨tk,c,prs,b⟩ nm))),some (.int (numOf (tk.map (·.1)) (jK ⟨tk,c,prs,b⟩ nm)))] (up3 (up3 (up3 u p (.lst (A.map (ruT ⟨tk,c,prs,b⟩ (tk.map (·.1)))))) q (.lst ((jK ⟨tk,c,prs,b⟩ nm).map T.str))) p (.lst (A.map (ruT ⟨tk,c,prs,b⟩ (tk.map (·.1)))++[ruT ⟨tk,c,prs,b⟩ (tk.map (·.1)) (nm,y,V)])))):=⟨fun q z=>by
  obtain⟨M,v⟩:=cL z
  refine U _ _ ⟨_,_,_,_,_,_,_,up3 u q (.lst ((jK ⟨tk,c,prs,b⟩ nm).map T.str)),rfl,?_,I.trans (Sub3.new v),G⟩
  rw[x_,Cw (Ne.symm M),pY]
  rfl⟩
 have D:(A.map (ruT ⟨tk,c,prs,b⟩ (tk.map (·.1)))).length<=8:=by rw[e_];exact X
 generalize A.map (ruT ⟨tk,c,prs,b⟩ (tk.map (·.1)))=cur at x D;clear U e k X;simp only[tkT];walk_at "";refine⟨trivial,by omega,⟨tk,c,prs,b⟩,_,[nm],rfl,r,.inl rfl,?_⟩;walk_at "";refine⟨⟨tk,c,prs,b⟩,nm,rfl,r,?_⟩;try dsimp only
 refine⟨⟨tk,c,prs,b⟩,_,bu ⟨tk,c,prs,b⟩ nm,rfl,r,.inl rfl,?_⟩;walk_at "";refine⟨⟨tk,c,prs,b⟩,nm,rfl,r,?_⟩;try dsimp only
 refine⟨⟨tk,c,prs,b⟩,_,jm ⟨tk,c,prs,b⟩ nm,rfl,r,.inl rfl,?_⟩;walk_at "";refine⟨⟨tk,c,prs,b⟩,nm,rfl,r,fun q z=>?_⟩;obtain⟨M,v⟩:=cL z;have n1':=Ne.symm M;try dsimp only
 refine⟨⟨tk,c,prs,b⟩,_,jK ⟨tk,c,prs,b⟩ nm,rfl,r,.inr ⟨q,rfl,au⟩,?_⟩;walk_at "";exact⟨⟨trivial,trivial⟩,by omega,by omega,x.out q z⟩
abbrev eQ:List Str:=["rules","beat","kind","done","number","load","own","length","kinds","group","ahead","apart"]
def sc_is_filling_number:FnScope eQ ["rules","beat","kind","done","number"] (aC (top 34)):=bf
def iy {f:Addr} (g:G3 K mg "is_filling_number" (top 34) ["rules","beat","kind","done","number"] f fd) (B:Bl mg) (b:Cal P w K mg base 1 "has_all" (top 33) ["number","part"] yS) (d:Cal P w K mg base 1 "may_be_done" (top 22) ["kinds","kind"] Nf):Cal P w K mg base 2 "is_filling_number" (top 34) ["rules","beat","kind","done","number"] Ni:=by
 refine⟨f,fd,g,?_⟩;refine fn3 g.fn sc_is_filling_number (fun ts H Q h=>?_) (fun cdv A outer s H E ts H3 Q M h=>?_)
 ·obtain⟨W,a,beat,c,D,S,rfl,_⟩:=h;rfl
 have O:=Room.u30 M;obtain⟨W,a,beat,c,D,S,rfl,hW,ha,k⟩:=h;refine⟨_,(ak (aG (i:=5) sc_is_filling_number.nd aq)
   (ak (bc F_ rfl (bV (v3 0)) (cg (n:=6) rfl (aJ (aD (i:=6) sc_is_filling_number.nd) (aJ (aD (i:=7) sc_is_filling_number.nd) (aJ (aD (i:=8) sc_is_filling_number.nd) (aJ (aD (i:=9) sc_is_filling_number.nd) (aJ (aD (i:=10) sc_is_filling_number.nd) (aJ (aD (i:=11) sc_is_filling_number.nd) bH))))))) (aA (bA (cI (aU b M rfl (aa (v3 4) (aa (v3 6) ao)))) (ak (bA (PW3.pt (gM (cI (aU b M rfl (aa (v3 3) (aa (v3 6) ao)))) (gW (dU (cI (aU d M rfl (aa (v3 8) (aa (v3 2) ao)))))))) (aA (aN dH)) aR)
     (ak (bA (PW3.pt (gM (dU (cI (aU b M rfl (aa (v3 4) (aa (v3 9) ao))))) (gW (dU (cI (aU b M rfl (aa (aH Vp (v3 4) (v3 3)) (aa (v3 10) ao)))))))) (aA (aN dH)) aR)
     (ak (bA (aV (fX O) (aH Di (v3 4) (v3 11)) aq) (aA (aN dH)) aR)
     (aA (aG (i:=5) sc_is_filling_number.nd (aH bB (v3 5) (v3 7))))))) aR)))
   (aA (aN (gD xR (v3 5) (v3 1)))))),?_⟩
 rw[show aQ eQ [T.ref a,T.int beat,T.str c,T.int (numOf (W.tasks.map (·.1)) D),T.int (numOf (W.tasks.map (·.1)) S)]=[some (T.ref a),some (T.int beat),some (T.str c),some (T.int (numOf (W.tasks.map (·.1)) D)),some (T.int (numOf (W.tasks.map (·.1)) S)),none,none,none,none,none,none,none] from rfl];walk_at "h";walk_at "";refine aW (ruT W (W.tasks.map (·.1))) W.tasks (fun A Y H=>∃(J y I C m l:Option T),Y=[some (.ref a),some (.int beat),some (.str c),some (.int (numOf (W.tasks.map (·.1)) D)),some (.int (numOf (W.tasks.map (·.1)) S)),some (.int (aX A S)),J,y,I,C,m,l]/\H=H3/\(A.all fun t=>!decide (t.1∈S)||okT W c D S t)=true) ⟨none,none,none,none,none,none,rfl,rfl,rfl⟩ ?_ ?_
 ·rintro Y H ⟨J,y,I,C,m,l,rfl,rfl,o⟩;refine⟨.inl ha,?_⟩;walk_at "";refine Fin3.of Sub3.refl ?_;unfold wH at k;rw[o,aaX] at k;exact k
 rintro A t B Y H N e ⟨J,y,I,C,m,l,rfl,rfl,o⟩ hN;refine⟨.inl ha,?_⟩;have G:t∈W.tasks:=by rw[e];simp
 have F:t.1∈W.tasks.map (·.1):=z_.mpr ⟨t,G,rfl⟩;have r:∀x∈bu W t.1,x∈W.tasks.map (·.1):=fun x j=>(B_.mp j).1;have u:∀x∈jm W t.1,x∈W.tasks.map (·.1):=fun x j=>(B_.mp j).1;have v:∀x∈jK W t.1,x∈W.tasks.map (·.1):=fun x j=>by obtain⟨p,hp,rfl⟩:=z_.mp j;exact (hW.pp p (B_.mp hp).1).2.2.2
 have b1:decide (Builtin.bitAnd (numOf (W.tasks.map (·.1)) S) (numOf (W.tasks.map (·.1)) [t.1])=numOf (W.tasks.map (·.1)) [t.1])=decide (t.1∈S):=by rw[YH,m_,m_];exact yu F
 have b2:decide (Builtin.bitAnd (numOf (W.tasks.map (·.1)) D) (numOf (W.tasks.map (·.1)) [t.1])=numOf (W.tasks.map (·.1)) [t.1])=decide (t.1∈D):=by rw[YH,m_,m_];exact yu F
 have b3:decide (Builtin.bitAnd (numOf (W.tasks.map (·.1)) S) (numOf (W.tasks.map (·.1)) (bu W t.1))=numOf (W.tasks.map (·.1)) (bu W t.1))=@decide (∀x∈bu W t.1,x∈S) (Classical.propDecidable _):=by rw[YH,m_,@m_ _ (Classical.propDecidable _),fM];exact⟨fun h x j=>h x (r x j) j,fun h x _ j=>h x j⟩
 have b4:decide (Builtin.bitAnd (Builtin.bitOr (numOf (W.tasks.map (·.1)) S) (numOf (W.tasks.map (·.1)) D)) (numOf (W.tasks.map (·.1)) (jm W t.1))=numOf (W.tasks.map (·.1)) (jm W t.1))=@decide (∀x∈jm W t.1,x∈S++D) (Classical.propDecidable _):=by rw[YH,m_,@m_ _ (Classical.propDecidable _),Rk,fM];exact⟨fun h x j=>h x (u x j) j,fun h x _ j=>h x j⟩
 have b5:decide (Builtin.bitAnd (numOf (W.tasks.map (·.1)) S) (numOf (W.tasks.map (·.1)) (jK W t.1))=0)=@decide (∀x∈jK W t.1,x∉S) (Classical.propDecidable _):=by rw[YH,m_,@m_ _ (Classical.propDecidable _),qM];exact⟨fun h x j hs=>h x (v x j) ⟨hs,j⟩,fun h x _ z=>h x z.2 z.1⟩
 have q:Box (t.1∈S->okT W c D S t=false->Fin3 Q (.bl false) H):=⟨fun h1 h2=>by
  refine Fin3.of Sub3.refl ?_
  have e0:wH W beat c D S=false:=by
   unfold wH
   rw[Bool.and_eq_false_iff]
   refine .inl ?_
   rw[List.all_eq_false]
   exact⟨t,G,by simp [h1,h2]⟩
  rw[e0] at k
  exact k⟩
 have L:Box (∀(J y I C m l:Option T),(t.1∈S->okT W c D S t=true)->N [some (.ref a),some (.int beat),some (.str c),some (.int (numOf (W.tasks.map (·.1)) D)),some (.int (numOf (W.tasks.map (·.1)) S)),some (.int (aX A S+if t.1∈S then t.2.1 else 0)),J,y,I,C,m,l] H):=⟨fun J y I C m l h=>hN _ _ ⟨J,y,I,C,m,l,by rw[wI],rfl,by
  rw[List.all_append,o]
  by_cases z:t.1∈S
  ·
   simp [h z]
  ·
   simp [z]⟩⟩
 clear hN o k e r u v F G;obtain⟨nm,len,ks⟩:=t;dsimp only at *;generalize numOf (W.tasks.map (·.1)) D=nD at *;generalize numOf (W.tasks.map (·.1)) S=R at *;simp only[ruT];generalize numOf (W.tasks.map (·.1)) [nm]=n1 at *;generalize numOf (W.tasks.map (·.1)) (bu W nm)=n2 at *;generalize numOf (W.tasks.map (·.1)) (jm W nm)=n3 at *;generalize numOf (W.tasks.map (·.1)) (jK W nm)=n4 at *;unfold okT at q L;dsimp only at q L;generalize V:decide (nm∈D)=c1 at *;generalize X:@decide (∀x∈bu W nm,x∈S) (Classical.propDecidable _)=c3 at *;generalize U:@decide (∀x∈jm W nm,x∈S++D) (Classical.propDecidable _)=c4 at *;generalize Z:@decide (∀x∈jK W nm,x∉S) (Classical.propDecidable _)=c5 at *;clear V X U Z;walk_at "";refine⟨trivial,R,n1,rfl,?_⟩;rw[b1];by_cases hS:nm∈S
 ·simp only[hS,ZG,if_true,gQ,true_implies] at q L ⊢;refine⟨nD,n1,rfl,?_⟩;rw[b2];cases c1 with
  |true =>
   try simp only[gQ,if_true]
   exact q.out (by simp)
  |false =>
  simp only[gQ,C_,YG];refine⟨ks,c,rfl,?_⟩;generalize lB ks c=c2 at *;cases c2 with
  |false=>simp only[gQ,Z9,if_true];exact q.out (by simp)
  |true =>
  simp only[gQ,aah,C_,YG];refine⟨R,n2,rfl,?_⟩;rw[b3];cases c3 with
  |false=>simp only[gQ,Z9,if_true];exact q.out (by simp)
  |true =>
  simp only[gQ,aah,C_,YG];refine⟨Builtin.bitOr R nD,n3,rfl,?_⟩;rw[b4];cases c4 with
  |false=>simp only[gQ,Z9,if_true];exact q.out (by simp)
  |true =>
  simp only[gQ,aah,C_,YG];try rw[b5]
  cases c5 with
  |false=>simp only[Z9,if_true];exact q.out (by simp)
  |true =>
  simp only[aah,C_,YG];exact L.out _ _ _ _ _ _ (by simp)
 simp only[hS,Ze,C_,YG,gQ,Int.add_zero,false_implies] at q L ⊢;exact L.out _ _ _ _ _ _ (by first | trivial | simp)
abbrev nO:List Str:=["works","number","tasks","left","task"]
def sc_tasks_of:FnScope nO ["works","number"] (aC (top 29)):=bf
def uQ {f:Addr} (g:G3 K mg "tasks_of" (top 29) ["works","number"] f C) (B:Bl mg):Cal P w K mg base 1 "tasks_of" (top 29) ["works","number"] Nb:=by
 refine⟨f,C,g,?_⟩;refine fn3 g.fn sc_tasks_of (fun ts H Q h=>?_) (fun F A outer s H E ts H3 Q O h=>?_)
 ·obtain⟨W,n,rfl,_⟩:=h;rfl
 have m:=Room.u30 O;obtain⟨⟨tk,c,prs,b⟩,n,rfl,J,n0,R,k⟩:=h;refine⟨_,(ak (aG (i:=2) sc_tasks_of.nd (bx ao))
   (ak (aG (i:=3) sc_tasks_of.nd (v3 1))
   (ak (bc F_ rfl (bJ (aK ix3 (v3 0) aq)) (aD (i:=4) sc_tasks_of.nd) (ak (bA (aV (dh m) (aH aZ (v3 3) aq) aq) (aA (bC (dm E_ M_ N_ bj (v3 2) (aa (aK ix3 (v3 4) aq) ao)))) aR)
    (aA (aG (i:=3) sc_tasks_of.nd (aH bD (v3 3) aq)))))
   (aA (aN (bM cY rfl B.tuple_ cj (aa (v3 2) ao))))))),?_⟩
 rw[show aQ nO [Wk.enc ⟨tk,c,prs,b⟩,T.int n]=[some (T.tup [T.tup (tk.map tkT),T.tup (c.map orT),T.tup (prs.map prT),T.tup (b.map T.str)]),some (T.int n),none,none,none] from rfl];walk_at "h";have S:tk.length<=8:=J.t8;walk_at "";refine⟨by omega,fun p M=>?_⟩;refine iG (fun r u H=>∃(A B:List (Str × Int × List Str)) (v:Option T),tk=A++B/\r=B.map tkT/\H=up3 H3 p (.lst ((pick (A.map (·.1)) n).map T.str))/\u=[some (T.tup [T.tup (tk.map tkT),T.tup (c.map orT),T.tup (prs.map prT),T.tup (b.map T.str)]),some (.int n),some (.ref p),some (.int (n / 2^A.length)),v]) ⟨[],tk,none,rfl,rfl,rfl,by simp⟩ ?_ ?_
 ·rintro u H ⟨A,B,v,e,j,rfl,rfl⟩;have I:B=[]:=aag.mp j.symm;subst I;rw[S_] at e;subst e;clear j;walk_at "t";walk_at "";exact Fin3.of (Sub3.new M) k
 rintro x r u H N ⟨A,B,v,e,j,rfl,rfl⟩ y;cases B with
 |nil=>cases j
 |cons t B =>
 rw[G_,List.cons.injEq] at j;obtain⟨rfl,rfl⟩:=j;have L:A.length+1<=8:=by have:=W_ List.length e;simp only[d_,j_] at this;omega
 have d:=t7 (A.map (·.1)) [t.1] n;simp only[pick,e_] at d;have o:=yC (A.map (·.1)) n;rw[e_] at o;have l:n / 2^A.length / 2=n / 2^(A++[t]).length:=by rw[d_,A_,aa8,Int.ediv_ediv_of_nonneg (Int.le_of_lt (Int.pow_pos (by decide)))]
 have a:∀v,N [some (T.tup [T.tup (tk.map tkT),T.tup (c.map orT),T.tup (prs.map prT),T.tup (b.map T.str)]),some (.int n),some (.ref p),some (.int (n / 2^A.length / 2)),v] (up3 H3 p (.lst ((pick (A.map (·.1)++[t.1]) n).map T.str))):=fun v=>by rw[l];exact y _ _ ⟨A++[t],B,v,by rw[e];simp,rfl,by simp,rfl⟩
 rw[d] at a;replace a:=Box.mk a;obtain⟨nm,q,G⟩:=t;walk_at "t";clear y e k d l;simp only[tkT,sT];walk_at "";try simp only[true_and]
 refine⟨by decide,?_⟩;by_cases z:n / 2^A.length%2=1
 ·simp only[z,if_true,ZG] at a ⊢;refine⟨by omega,?_⟩;have D:=a.out (some (T.tup [T.str nm,T.int q,T.tup (G.map T.str)]));rw[x_] at D;exact⟨⟨by decide,by decide +kernel⟩,D⟩
 simp only[z,YG,Ze,C_,S_] at a ⊢;exact⟨⟨by decide,by decide +kernel⟩,a.out _⟩
end
def G8 (K:Frag):Bool:=K.all fun p=>!(p.2.cls==.type "list")
def G9 {K:Frag} (e:K.lookup a=some o):(a,o)∈K:=by
 induction K with
 |nil=>cases e
 |cons p r c =>
 obtain⟨b,u⟩:=p;rw[Zh] at e;split at e
 ·rename_i h;rw[eq_of_beq h,O_ e];exact k_
 exact q_ _ (c e)
def Al {K:Frag} (h:G8 K=true) (e:K.lookup a=some o):o.cls≠.type "list":=fun z=>by
 have b:(a,o)∈K:=G9 e;have q:=Zx.mp h (a,o) b;rw[z] at q;simp at q
def uc (h:us.length=n+1):∃(a:Value) (r:List Value),us=a::r/\r.length=n:=by
 cases us with
 |nil=>exact nomatch h
 |cons a r=>exact⟨a,r,rfl,Nat.succ.inj h⟩
def uz {us:List Value}(h:us.length=0):us=[]:=Zz h
def ub1 (h:∀a:Value,bindArgs b ⟨[a],[]⟩=pure ([c].zip [a])) (us:List Value) (e:us.length=1):bindArgs b ⟨us,[]⟩=pure ([c].zip us):=by
 obtain⟨a,g,d,f⟩:=uc e;rw[d,uz f];exact h a
def ub2 {f d:Str} (h:∀a b:Value,bindArgs c ⟨[a,b],[]⟩=pure ([f,d].zip [a,b])) (us:List Value) (e:us.length=2):bindArgs c ⟨us,[]⟩=pure ([f,d].zip us):=by
 obtain⟨a,m,g,k⟩:=uc e;obtain⟨b,l,j,i⟩:=uc k;rw[g,j,uz i];exact h a b
def ub3 {i g f:Str} (h:∀a b c:Value,bindArgs d ⟨[a,b,c],[]⟩=pure ([i,g,f].zip [a,b,c])) (us:List Value) (e:us.length=3):bindArgs d ⟨us,[]⟩=pure ([i,g,f].zip us):=by
 obtain⟨a,r,k,o⟩:=uc e;obtain⟨b,q,n,l⟩:=uc o;obtain⟨c,p,j,m⟩:=uc l;rw[k,n,j,uz m];exact h a b c
def ub4 {f k g i:Str} (h:∀d c b a:Value,bindArgs j ⟨[d,c,b,a],[]⟩=pure ([f,k,g,i].zip [d,c,b,a])) (us:List Value) (e:us.length=4):bindArgs j ⟨us,[]⟩=pure ([f,k,g,i].zip us):=by
 obtain⟨d,t,r,m⟩:=uc e;obtain⟨c,u,n,q⟩:=uc m;obtain⟨b,w,o,s⟩:=uc q;obtain⟨a,v,l,p⟩:=uc s;rw[r,n,o,l,uz p];exact h d c b a
def ub5 (h:∀f d c a b:Value,bindArgs l ⟨[f,d,c,a,b],[]⟩=pure ([g,m,i,k,j].zip [f,d,c,a,b])) (us:List Value) (e:us.length=5):bindArgs l ⟨us,[]⟩=pure ([g,m,i,k,j].zip us):=by
 obtain⟨f,x,v,p⟩:=uc e;obtain⟨d,y,q,u⟩:=uc p;obtain⟨c,B,r,w⟩:=uc u;obtain⟨a,A,n,s⟩:=uc w;obtain⟨b,z,t,o⟩:=uc s;rw[v,q,r,n,t,uz o];exact h f d c a b
def ub6 (h:∀g d c a b f:Value,bindArgs n ⟨[g,d,c,a,b,f],[]⟩=pure ([i,o,k,m,l,j].zip [g,d,c,a,b,f])) (us:List Value) (e:us.length=6):bindArgs n ⟨us,[]⟩=pure ([i,o,k,m,l,j].zip us):=by
 obtain⟨g,B,z,t⟩:=uc e;obtain⟨d,C,u,y⟩:=uc t;obtain⟨c,F,v,A⟩:=uc y;obtain⟨a,E,p,w⟩:=uc A;obtain⟨b,D,x,q⟩:=uc w;obtain⟨f,G,s,r⟩:=uc q;rw[z,u,v,p,x,s,uz r];exact h g d c a b f
def Yw {K:Frag}{st:Stmt}{f:Addr}{kV d g b i:Value} (X:K.In h) (G:h.Ns mainGlobals n) (a:nsIn K mainGlobals x=some (some (.ref f))) (l:K.lookup f=some ⟨o,od,.func (fnOf x x (cV st) (cA st) (aC st) .none kV d g e b i),j⟩) (c:codeIn K b x=true) (k:keepIn K (.ref f)=true) (p:∀(kV d g:Value) (e:Option Addr) (b i:Value) (us:List Value),us.length=m.length->bindArgs (fnOf x x (cV st) (cA st) (aC st) .none kV d g e b i) ⟨us,[]⟩=pure (m.zip us)):
  G3 K n x st m f (fnOf x x (cV st) (cA st) (aC st) .none kV d g e b i) :=
 have F:=Bo (st:=st) l c k
 ⟨F,F.binds p,mg_of X G a⟩
def cG (i:Nat) (b:List Str) (x:Str) (f:Addr) (m:Str) (t c:Nat) {K:Frag} (X:K.In h) (G:h.Ns mainGlobals d) (g:∀(kV doc pm:Value) (an:Option Addr) (cdv ct:Value) (us:List Value),us.length=b.length->bindArgs (fnOf x x (cV (top i)) (cA (top i)) (aC (top i)) .none kV doc pm an cdv ct) ⟨us,[]⟩=pure (b.zip us):=by first | exact fun _ _ _ _ _ _=>ub1 fun _=>rfl | exact fun _ _ _ _ _ _=>ub2 fun _ _=>rfl | exact fun _ _ _ _ _ _=>ub3 fun _ _ _=>rfl | exact fun _ _ _ _ _ _=>ub4 fun _ _ _ _=>rfl | exact fun _ _ _ _ _ _=>ub5 fun _ _ _ _ _=>rfl | exact fun _ _ _ _ _ _=>ub6 fun _ _ _ _ _ _=>rfl) (a:nsIn K mainGlobals x=some (some (.ref f)):=by kernel_rfl) (l:K.lookup f=some (fO i x m t c):=by kernel_rfl) (e:codeIn K (.ref c) x=true:=by kernel_rfl) (k:keepIn K (.ref f)=true:=by kernel_rfl):
  G3 K d x (top i) b f (fnOf x x (cV (top i)) (cA (top i)) (aC (top i)) .none .none .none (.str m t) none (.ref c) .none) :=
 Yw X G a l e k g
def Xb:Stmt->Pos->Pos
 |.FunctionDef _ _ _ _ _ _ _ _ _ p,_=>p
 |_,p=>p
def dv:DefRec:=⟨"law",cV (top 62),cA (top 62),aC (top 62),Xb (top 62) default⟩
def uR {K:Frag}(n q:Str) (st:Stmt) (f:Addr) (m:Str) (t c:Nat) (l:K.lookup f=some (fQ st n q m t c):=by kernel_rfl) (e:codeIn K (.ref c) q=true:=by kernel_rfl) (k:keepIn K (.ref f)=true:=by kernel_rfl):Fun K n q st f (fnOf n q (cV st) (cA st) (aC st) .none .none .none (.str m t) none (.ref c) .none):=Bo l e k
def all_ok {l:PySem.W.OpenLaw} (X:(KK w.params).In h) (G:h.Ns mainGlobals mg) (hfa:mg "law"=some (.ref fa)):
  ∃fd:FuncData,(∀(s:Shared) (v:Value),BindsTo s fd ⟨[v],[]⟩ [("_law_script",v)])/\∀base:Heap,(KK w.params).In base->base.Ns mainGlobals mg->kI l.prog w (KK w.params) mg base 10 fa fd ["_law_script"] yP:=by
 have t:∀{n:Str} {v:Value},nsIn (KK w.params) mainGlobals n=some (some v)->mg n=some v:=fun e=>mg_of X G e;have no_:∀{n:Str},nsIn (KK w.params) mainGlobals n=some none->mg n=none:=fun e=>PySem.W.mg_none_of X G e;have e:=hfa.symm.trans (t (v:=.ref 486) (by kernel_rfl));cases e;have B:Bl mg:=by constructor <;> exact no_ (by kernel_rfl)
 have g__wall:=cG 0 ["k"] "_wall" 21 "__main__" 164 20 X G;have g_links_of:=cG 2 ["works"] "links_of" 28 "stationrow.chains" 194 27 X G;have g_reached:=cG 3 ["links","start"] "reached" 35 "stationrow.chains" 194 34 X G;have g_led_to:=cG 4 ["works","task"] "led_to" 42 "stationrow.chains" 194 41 X G;have g_led_from:=cG 5 ["works","task"] "led_from" 47 "stationrow.chains" 194 46 X G;have g_in_both:=cG 6 ["works","found","other"] "in_both" 52 "stationrow.chains" 194 51 X G;have o:=cG 7 ["works","found","other"] "in_first_alone" 57 "stationrow.chains" 194 56 X G;have g_group_of:=cG 8 ["works","task"] "group_of" 64 "stationrow.chains" 194 63 X G;have g_groups_of:=cG 9 ["works"] "groups_of" 71 "stationrow.chains" 194 70 X G;have g_ahead_of:=cG 10 ["works","task"] "ahead_of" 78 "stationrow.chains" 194 77 X G;have R:=cG 22 ["kinds","kind"] "may_be_done" 243 "stationrow.checks" 486 242 X G;have g_names_of:=cG 24 ["tasks"] "names_of" 248 "stationrow.texts" 496 247 X G;have g_load_of:=cG 26 ["works","tasks"] "load_of" 253 "stationrow.dealings" 504 252 X G;have g_number_of:=cG 28 ["works","tasks"] "number_of" 260 "stationrow.sets" 512 259 X G;have g_tasks_of:=cG 29 ["works","number"] "tasks_of" 267 "stationrow.sets" 512 266 X G;have T:=cG 31 ["works","task"] "apart_from" 272 "stationrow.fillings" 536 271 X G;have g_rules_of:=cG 32 ["works"] "rules_of" 279 "stationrow.fillings" 536 278 X G;have g_has_all:=cG 33 ["number","part"] "has_all" 286 "stationrow.fillings" 536 285 X G;have c:=cG 34 ["rules","beat","kind","done","number"] "is_filling_number" 293 "stationrow.fillings" 536 292 X G;have k:=cG 35 ["numbers"] "greatest_numbers" 298 "stationrow.fillings" 536 297 X G;have g_parts_of:=cG 37 ["number"] "parts_of" 303 "stationrow.walks" 591 302 X G;have F:=cG 40 ["walk","stand","ways"] "ways_behind" 355 "stationrow.dealt" 661 354 X G;have V:=cG 41 ["works","beat","many"] "dealing_to" 362 "stationrow.dealt" 661 361 X G;have E:=cG 42 ["works","beat"] "check_groups" 369 "stationrow.dealt" 661 368 X G;have x:=cG 43 ["works","beat"] "fewest_stands" 376 "stationrow.dealt" 661 375 X G;have g_cell:=cG 45 ["_law_script","_law_k"] "_law_cell" 383 mlw 708 382 X G;have g_word:=cG 46 ["_law_cell_here"] "_law_word" 390 mlw 708 389 X G;have g_unlike:=cG 47 ["_law_words"] "_law_unlike" 397 mlw 708 396 X G;have g_pool:=cG 48 ["_law_cell_here"] "_law_pool" 404 mlw 708 403 X G;have g_task:=cG 49 ["_law_cell_here","_law_row","_law_pool_here","_law_unit"] "_law_task" 411 mlw 708 410 X G;have g_links:=cG 50 ["_law_script","_law_names","_law_some"] "_law_links" 416 mlw 708 415 X G;have g_works:=cG 51 ["_law_script","_law_most","_law_wide"] "_law_works" 421 mlw 708 420 X G;have g_loads:=cG 52 ["_law_works_here","_law_stands"] "_law_loads" 428 mlw 708 427 X G;have g_beat:=cG 53 ["_law_cell_here","_law_works_here","_law_stands"] "_law_beat" 433 mlw 708 432 X G;have g_drawn:=cG 54 ["_law_script","_law_most","_law_wide"] "_law_drawn" 440 mlw 708 439 X G;have g_whole:=cG 55 ["_law_found"] "_law_whole" 447 mlw 708 446 X G;have g_right:=cG 56 ["_law_works_here","_law_beat_here","_law_dealing"] "_law_right" 452 mlw 708 451 X G;have Z:=cG 57 ["_law_works_here","_law_beat_here","_law_many","_law_found"] "_law_is_dealing" 457 mlw 708 456 X G;have g_chained:=cG 58 ["_law_works_here"] "_law_chained" 462 mlw 708 461 X G;have g_groups:=cG 59 ["_law_works_here"] "_law_groups" 467 mlw 708 466 X G;have g_told:=cG 60 ["_law_works_here","_law_beat_here"] "_law_told" 474 mlw 708 473 X G;have g_is_pair:=cG 61 ["_law_works_here","_law_beat_here","_law_most","_law_found"] "_law_is_pair" 481 mlw 708 480 X G;have g_law:=cG 62 ["_law_script"] "law" 486 mlw 708 485 X G;refine⟨fnOf "law" "law" (cV (top 62)) (cA (top 62)) (aC (top 62)) .none .none .none (.str mlw 708) none (.ref 485) .none,fun s v=>.of_eq rfl,fun base _ _=>?_⟩;have i:Cls (KK w.params) 344:=⟨by kernel_rfl,by kernel_rfl,by kernel_rfl,by kernel_rfl⟩;have NF_Walk:∀n∈(["works","beat","rules","whole"]:List Str),findIn (KK w.params) (.ref 344) n=some none:=fun n hn=>by simp only[u_,YB,ZV] at hn;rcases hn with rfl | rfl | rfl | rfl <;> kernel_rfl
 have g:InsC (KK w.params) 344 ["works","beat","rules","whole"]:=⟨i,NF_Walk⟩;have r:=uR (K:=KK w.params) "__init__" "Walk.__init__" (topm 38 0) 317 "stationrow.walks" 591 316;have g_Walk:GI (KK w.params) mg 344 "Walk" "Walk.__init__" (topm 38 0) ["self","works","beat"] 317 _:=⟨⟨by kernel_rfl,by kernel_rfl,by kernel_rfl,by kernel_rfl⟩,r,r.binds fun _ _ _ _ _ _=>ub3 fun _ _ _=>rfl,t (v:=.ref 344) (by kernel_rfl)⟩;have a:=uR (K:=KK w.params) "fillings_at" "Walk.fillings_at" (topm 38 1) 322 "stationrow.walks" 591 321;have N:GM (KK w.params) 344 "fillings_at" "Walk.fillings_at" (topm 38 1) ["self","stand","done"] 322 _:=⟨i,a,a.binds fun _ _ _ _ _ _=>ub3 fun _ _ _=>rfl,⟨by kernel_rfl,by kernel_rfl,by kernel_rfl⟩⟩;have b:=uR (K:=KK w.params) "greatest_at" "Walk.greatest_at" (topm 38 2) 329 "stationrow.walks" 591 328;have H:GM (KK w.params) 344 "greatest_at" "Walk.greatest_at" (topm 38 2) ["self","stand","done"] 329 _:=⟨i,b,b.binds fun _ _ _ _ _ _=>ub3 fun _ _ _=>rfl,⟨by kernel_rfl,by kernel_rfl,by kernel_rfl⟩⟩;have d:=uR (K:=KK w.params) "dealing_of" "Walk.dealing_of" (topm 38 4) 341 "stationrow.walks" 591 340;have g_dealing_of:GM (KK w.params) 344 "dealing_of" "Walk.dealing_of" (topm 38 4) ["self","fillings"] 341 _:=⟨i,d,d.binds fun _ _ _ _ _ _=>ub2 fun _ _=>rfl,⟨by kernel_rfl,by kernel_rfl,by kernel_rfl⟩⟩;have O:=uR (K:=KK w.params) "__init__" "TooLong.__init__" (topm 19 0) 219 "stationrow.errors" 271 218;obtain⟨cd_TooLong,S_TooLong⟩:=JR (K:=KK w.params) (C:=222) (by kernel_rfl) (by kernel_rfl) (by kernel_rfl);have NF_TooLong:∀n∈(["tasks","length"]:List Str),findIn (KK w.params) (.ref 222) n=some none:=fun n hn=>by simp only[u_,YB,ZV] at hn;rcases hn with rfl | rfl <;> kernel_rfl
 have X_TooLong:ExcC l.prog w (KK w.params) mg base "TooLong" 222 ["tasks","length"]:=⟨t (v:=.ref 222) (by kernel_rfl),⟨219,_,["self","tasks","length"],cd_TooLong,⟨by kernel_rfl,by kernel_rfl,by kernel_rfl⟩,S_TooLong,wX O,O.binds fun _ _ _ _ _ _=>ub3 fun _ _ _=>rfl⟩,NF_TooLong,by decide,nofun⟩;have X_NoRoom:ExcN (KK w.params) mg "NoRoom" 234:=⟨t (v:=.ref 234) (by kernel_rfl),⟨by kernel_rfl,by kernel_rfl⟩⟩;have F_cell:=KQ (P:=l.prog) (w:=w) (base:=base) g_cell B;have F_word:=KR (P:=l.prog) (w:=w) (base:=base) g_word B;have F_unlike:=Ak (P:=l.prog) (w:=w) (base:=base) g_unlike B;have F_pool:=KY g_pool B F_word F_unlike;have F_task:=KZ g_task B F_word;have F_links:=GX g_links B F_cell;have F_works:=GZ g_works B F_cell F_pool F_task F_unlike F_links;have F_loads:=G4 (P:=l.prog) (w:=w) (base:=base) g_loads B;have F_beat:=K1 g_beat B F_loads;have F_drawn:=G5 g_drawn B F_works F_beat F_cell;have F_chained:=wV (P:=l.prog) (w:=w) (base:=base) g_chained B;have F_groups:=Aj g_groups B F_chained;have q:=q9 (P:=l.prog) (w:=w) (base:=base) g_number_of B;have U:=ou (P:=l.prog) (w:=w) (base:=base) T B;have p:=jO (P:=l.prog) (w:=w) (base:=base) o B;have I:=wQ (P:=l.prog) (w:=w) (base:=base) g_reached B;have y:=uE (P:=l.prog) (w:=w) (base:=base) g_links_of B;have z:=uG g_led_from B I y;have F_led_to:=Ai g_led_to B I y;have F_ahead_of:=uK g_ahead_of B p z F_led_to;have F_in_both:=wU (P:=l.prog) (w:=w) (base:=base) g_in_both B;have A:=uI g_group_of B F_in_both F_led_to z
 have F_rules_of:=uP g_rules_of B q U F_ahead_of A;have F_names_of:=uO (P:=l.prog) (w:=w) (base:=base) g_names_of B;have M_Walk:=K4 g_Walk B g F_rules_of q F_names_of;have m:=w5 (P:=l.prog) (w:=w) (base:=base) g_has_all B;have j:=iY k B m;have F_parts_of:=uM g_parts_of B m;have Q:=nG (P:=l.prog) (w:=w) (base:=base) R B;have f:=iy c B m Q;have L:=nJ N B g F_parts_of f;have J:=nA H B g j L
 have M:=nq F B g J
 have F_tasks_of:=uQ (P:=l.prog) (w:=w) (base:=base) g_tasks_of B;have M_dealing_of:=oE g_dealing_of B g F_tasks_of;have Y:=n6 V B g M_Walk M M_dealing_of;have F_groups_of:=qZ g_groups_of B A;have F_load_of:=wO (P:=l.prog) (w:=w) (base:=base) g_load_of B;have D:=lD E B X_TooLong F_groups_of F_load_of;have u:=j8 x B X_NoRoom Y D;have F_told:=KJ (C_RowError:=88) (C_TooLong:=222) (C_NoRoom:=234) (C_NoRow:=108) (C_NoStand:=203) (C_NoTask:=146) (C_Ring:=165) (C_Torn:=184) (C_Twice:=127) g_told B ⟨t (v:=.ref 88) (by kernel_rfl),⟨by kernel_rfl,by kernel_rfl⟩⟩ (t (v:=.ref 222) (by kernel_rfl)) (t (v:=.ref 234) (by kernel_rfl)) (t (v:=.ref 108) (by kernel_rfl)) (t (v:=.ref 203) (by kernel_rfl)) (t (v:=.ref 146) (by kernel_rfl)) (t (v:=.ref 165) (by kernel_rfl)) (t (v:=.ref 184) (by kernel_rfl)) (t (v:=.ref 127) (by kernel_rfl)) (no_ (by kernel_rfl)) ⟨⟨by kernel_rfl,by kernel_rfl,by kernel_rfl,by kernel_rfl⟩,by kernel_rfl,by kernel_rfl,by kernel_rfl,by kernel_rfl⟩ (by kernel_rfl) (by kernel_rfl) (by kernel_rfl) (by kernel_rfl) (by kernel_rfl) ⟨⟨by kernel_rfl,by kernel_rfl,by kernel_rfl,by kernel_rfl⟩,by kernel_rfl,by kernel_rfl,by kernel_rfl,by kernel_rfl⟩ (by kernel_rfl) (by kernel_rfl) (by kernel_rfl) (by kernel_rfl) (by kernel_rfl) (by kernel_rfl) (by kernel_rfl) u;have F_whole:=GF (P:=l.prog) (w:=w) (base:=base) g_whole B;have F_right:=G6 (P:=l.prog) (w:=w) (base:=base) g_right B;have S:=nZ Z B F_right;have F_is_pair:=wM g_is_pair B F_whole S;exact Sy g_law B F_drawn F_groups F_told F_whole F_is_pair F_loads
def walk {l:PySem.W.OpenLaw}{K:Params->Frag} (G:l.most=some 63) (i:d.params.defaults=[]) (B:∀(w:World) (h:Heap),YP w h->(K w.params).In h) (p:∀w:World,G8 (K w.params)=true) (F:∀(w:World) (mg:Str->Option Value) (fa:Addr) (h:Heap),(K w.params).In h->h.Ns mainGlobals mg->mg d.name=some (.ref fa) ->
   ∃fd:FuncData,(∀(s:Shared) (u:Value),BindsTo s fd ⟨[u],[]⟩ [("_law_script",u)])/\∀base:Heap,(K w.params).In base->base.Ns mainGlobals mg->kI l.prog w (K w.params) mg base 10 fa fd ["_law_script"] yP):
  PySem.W.WalkO q loose XP YP l.row.toRowW d [] (fun f vs=>PySem.call f vs):=by
 refine L2.walk_of (n:=63) (k:=10) (x:="_law_script") (CX:=fun _=>CX0) (sp:=fun w=>rW (K w.params) yP) G (by decide) i ⟨rfl,by decide,by decide,rfl⟩ B F (fun w H a ns E J g=>?_) fun _ _ _ _ _ z=>z;refine⟨[.ref a],fun b=>if b=a then some (.rol (ns.map T.int)) else none,fun t _=>t=.bl true,.cons .ofRef .nil,fun b o e=>?_,⟨a,ns,rfl,if_pos rfl,E,fun _=>rfl⟩,fun v H' t I _ _ r q=>?_⟩
 ·dsimp only at e;by_cases j:b=a
  ·rw[if_pos j] at e;cases e;subst j;rcases g with g | ⟨o,y,n,D,C,_⟩
   ·refine⟨_,g,?_⟩;have:∀c:List Int,Reps (K w.params) H (c.map T.int) (c.map V.int):=fun c=>by
     induction c with
     |nil=>exact .nil
     |cons m r A=>exact .cons .ofInt A
    exact this ns
   exact absurd C (Al (p w) D)
  rw[if_neg j] at e;cases e
 subst q;exact r.bl
end M
open PySem PySem.W PyProof.Rows
set_option maxRecDepth 100000 in
set_option maxHeartbeats 0 in
theorem PySem.Challenge.cw_stationrow_k43_tasks_beyond_the_beat_holds : PySem.Challenge.rw_stationrow_k43_tasks_beyond_the_beat.Holds := by
 refine holds_law (by kernel_rfl) fun said=>?_;refine holds_open (d:=M.dv) (kwd:=[]) (q:=M.qv) (loose:=[]) (Xt:=fun s=>xlAt M.qv [] s&&recOk (RowW.records (OpenLaw.row PySem.Challenge.rw_stationrow_k43_tasks_beyond_the_beat).toRowW) s) (XP:=XL M.qv []) (Yf:=Hook.obs M.HK) (Ya:=Hook.val M.HK) (YP:=Hook.says M.HK) (N:=7840) M.left (Hook.of M.HK) (Hook.keeps M.HK) (fun s e=>xl_of s (Bool.and_eq_true_iff.mp e).1) XL.keeps (by kernel_rfl) (by kernel_rfl) (by kernel_rfl) (fun s e=>recFacts_of (Bool.and_eq_true_iff.mp e).2) (by kernel_rfl) (by first | assumption | kernel_rfl) (by kernel_rfl) ⟨rfl,rfl,rfl,rfl,rfl,by decide +kernel⟩ ?hw ?hc
 case hw=>w_witness2
 case hc=>exact M.walk (l:=PySem.Challenge.rw_stationrow_k43_tasks_beyond_the_beat) rfl rfl (fun w h Y=>kIn_of Y) (fun w=>by kernel_rfl) fun w mg fa h KX G hmg=>M.all_ok KX G hmg
#print axioms PySem.Challenge.cw_stationrow_k43_tasks_beyond_the_beat_holds
