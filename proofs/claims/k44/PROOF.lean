import PyProof.Rows.All
import PyProof.EqAt
import PyProof.EqKinds
import PyProof.TupleCall
import PyProof.NeKinds
import PyProof.StrWalks
import PyProof.Rows.SetFrom
import PyProof.WalksMore
import KE.KIntText
import PyProof.EnumMake
import PyProof.WalkInts
import PyProof.ReprRoads
import PyProof.ReprLen
import KE.KRevIter
import KE.KRevSl
import PyProof.StrCalls
import PyProof.Rows.StrFit
import KE.KDictOf
import PyProof.AttrMissHeap
import PyProof.DictItems
import KE.KDictLaws
import KE.KSortTup
import KE.KDictList
import PyProof.ExcClass3
import PyProof.ExcInit
import PyProof.StationsW
import OpenK.KOwn
import PyProof.RulesAs
import PyProof.RulesDel
import PyProof.InstStoreFacts
import PyProof.ExcBaseAll.ValueError
import PyProof.StrLawsTight
import PyProof.StrLawsNeg
import Open.Tree
import Wide.Line
import KE.KFromBytes
import KE.KItem
import KE.KIsAll
import PySem.Challenge.RW_stationrow_k44_whole_more_room
abbrev a_:=@PySem.wpAny_bind
abbrev b_:=@PySem.Heap.get?_push_of_some
abbrev d_:=@List.length_map
abbrev e_:=@List.getElem?_eq_getElem
abbrev g_:=@List.length_append
abbrev h_:=@PySem.wpAny_pure
abbrev i_:=@List.getD_eq_getElem?_getD
abbrev j_:=@PySem.Heap.get?_push_size
abbrev k_:=@Nat.le_refl
abbrev l_:=@List.mem_cons_self
abbrev m_:=@PySem.Heap.lt_size
abbrev n_:=@List.mem_cons
abbrev o_:=@List.mem_cons_of_mem
abbrev p_:=@List.length_cons
abbrev q_:=@decide_eq_true_iff
abbrev t_:=@List.mem_singleton
abbrev u_:=@List.mem_map
abbrev v_:=@List.size_toArray
abbrev x_:=@List.getElem?_map
abbrev y_:=@List.map_append
abbrev z_:=@List.length_range
abbrev A_:=@List.mem_filter
abbrev B_:=@Bool.false_ne_true
abbrev C_:=@Bool.false_eq_true
abbrev D_:=@Option.some.inj
abbrev E_:=@decide_eq_false
abbrev F_:=@List.mem_append
abbrev G_:=@Nat.ne_of_lt
abbrev H_:=@List.map_cons
abbrev I_:=@PySem.PassesOwn.never
abbrev J_:=@Nat.lt_of_lt_of_le
abbrev K_:=@List.length_singleton
abbrev L_:=@List.not_mem_nil
abbrev M_:=@Int.emod_lt_of_pos
abbrev N_:=@decide_eq_true
abbrev O_:=@List.getElem?_eq_none
abbrev P_:=@Nat.le_trans
abbrev Q_:=@List.length_reverse
abbrev R_:=@PySem.F.plainAttrs_list
abbrev S_:=@Int.emod_nonneg
abbrev T_:=@PySem.wpAny_field
abbrev U_:=@List.map_map
abbrev V_:=@List.getElem?_append_right
abbrev W_:=@List.append_nil
abbrev X_:=@List.mem_range
abbrev Y_:=@PySem.Heap.get?_update_other
abbrev Ze:=@Nat.ne_of_gt
abbrev Zf:=@PySem.F.slot_list_append
abbrev Zg:=@PySem.F.type_list_append
abbrev Zh:=@List.mem_of_getElem?
abbrev Zi:=@List.mem_append_right
abbrev Zj:=@PyProof.Rows.callWith_type1
abbrev Zk:=@congrArg
abbrev Zm:=@Nat.lt_irrefl
abbrev Zn:=@Bool.eq_iff_iff
abbrev Zo:=@List.mem_append_left
abbrev Zq:=@Bool.and_eq_true
abbrev Zr:=@List.length_filter_le
abbrev Zt:=@Array.getElem?_eq_some_iff
abbrev Zu:=@PyProof.Rows.slot_tuple_getitem
abbrev Zv:=@if_false
abbrev Zw:=@PySem.wpAny_newObj_type
abbrev Zx:=@List.getElem?_append_left
abbrev Zy:=@List.getElem?_range
abbrev Zz:=@PySem.wpAny_callSpecial?_slot
abbrev ZC:=@List.getElem?_eq_some_iff
abbrev ZD:=@Nat.lt_trans
abbrev ZF:=@PySem.wpAny_Call_Name_kw
abbrev ZG:=@PySem.wpAny_call_entry
abbrev ZJ:=@List.nodup_cons
abbrev ZK:=@Nat.lt_succ_self
abbrev ZL:=@PySem.Heap.get?_update_self
abbrev ZM:=@beq_eq_false_iff_ne
abbrev ZP:=@PySem.wpAny_holding
abbrev ZQ:=@List.length_nil
abbrev ZR:=@PySem.builtinLookup_eq_fast
abbrev ZS:=@Nat.zero_le
abbrev ZV:=@Int.toNat_natCast
abbrev ZW:=@Nat.lt_succ_of_lt
abbrev ZX:=@PySem.wpAny_mono
abbrev ZZ:=@List.sum_cons
abbrev Z0:=@List.length_replicate
abbrev Z9:=@List.replicate_succ
abbrev Z_:=@List.getElem_mem
abbrev aaa:=@or_false
abbrev aab:=@Array.getElem?_eq_getElem
abbrev aac:=@PySem.Calls.spliced_cons
abbrev aad:=@PySem.Heap.size_push
abbrev aae:=@List.mem_flatten
abbrev aaf:=@beq_iff_eq
abbrev aag:=@List.flatten_cons
abbrev aah:=@List.append_assoc
abbrev aai:=@decide_eq_false_iff_not
abbrev aaj:=@PySem.W.Looks.here
abbrev aak:=@PySem.wpAny_seqItems
abbrev aal:=@List.filter_append
abbrev aam:=@List.length_take
abbrev aan:=@List.lookup_cons
abbrev aao:=@List.any_eq_true
abbrev aap:=@decide_false
abbrev aaq:=@List.map_reverse
abbrev aar:=@List.map_congr_left
abbrev aas:=@PySem.Calls.spliced_nil
abbrev aat:=@of_decide_eq_true
abbrev aau:=@List.eq_nil_of_length_eq_zero
abbrev aav:=@List.filter_congr
abbrev aaw:=@Nat.le_of_lt
abbrev aax:=@PySem.typeLookup_type
abbrev aay:=@List.all_eq_true
abbrev aaz:=@List.mem_reverse
abbrev aaA:=@Array.getD_eq_getD_getElem?
abbrev aaB:=@List.map_nil
abbrev aaC:=@PySem.Heap.get?_update_ne
abbrev aaD:=@List.flatten_append
abbrev aaE:=@Nat.le_succ
abbrev aaF:=@decide_true
abbrev aaG:=@List.pairwise_iff_getElem
abbrev aaH:=@PySem.Obj.data_mapFields
abbrev aaI:=@PySem.wpAny_setField_rec
abbrev aaJ:=@List.getElem_map
abbrev aaK:=@decide_eq_decide
abbrev aaL:=@Nat.lt_of_le_of_lt
abbrev aaM:=@Nat.le_of_eq
abbrev aaN:=@PySem.AutoSeq1.wpAny_loadPart'
abbrev aaO:=@PySem.wpAny_of_eq
abbrev aaP:=@Bool.not_false
abbrev aaQ:=@List.getElem?_cons_succ
abbrev aaR:=@PySem.wpAny_loadPart_at
abbrev aaS:=@List.getElem?_cons_zero
abbrev aaT:=@List.foldl_append
abbrev aaU:=@List.nodup_append
abbrev aaV:=@Option.bind_eq_some_iff
abbrev aaW:=@PySem.wpAny_specialOf
abbrev aaX:=@PySem.codeAny_builtin
abbrev aaY:=@PySem.F.slot_zip_next
abbrev aaZ:=@PyProof.Rows.KeyOrd.kle_refl
abbrev aa0:=@List.dropLast_concat_getLast
abbrev aa1:=@Array.length_toList
abbrev aa2:=@List.getElem?_set_self
abbrev aa3:=@PySem.wpAny_typeOf
abbrev aa4:=@Bool.not_true
abbrev aa5:=@List.filter_cons
abbrev aa6:=@Nat.log2_le_self
abbrev aa7:=@PySem.isSubtype_type
abbrev aa8:=@PySem.F.slot_tuple_iterator_next
abbrev aa9:=@PySem.F.excBase_ValueError
abbrev aa_:=@List.nodup_nil
abbrev aba:=@List.getElem?_reverse
abbrev abb:=@PySem.wpAny_passesOwn
abbrev abd:=@Option.map_some
abbrev abe:=@List.getElem?_set_ne
abbrev abf:=@PySem.wpAny_truthy_bool
abbrev abg:=@PySem.codeAny_mono
abbrev abh:=@List.ext_getElem?
abbrev abi:=@List.reverse_perm
abbrev abj:=@PySem.Paired.length
abbrev abk:=@Option.isSome_iff_exists
abbrev abl:=@PySem.wpAny_attempt
abbrev abm:=@Prod.mk.injEq
abbrev abn:=@PySem.plainObj_wpAny_Assign_Attribute
abbrev abo:=@List.filterMap_cons
abbrev abp:=@List.map_eq_nil_iff
abbrev abq:=@List.getElem?_replicate
abbrev abr:=@List.length_drop
abbrev abt:=@List.cons_append
abbrev abu:=@PySem.wpAny_getItem_str_slice
abbrev abv:=@PySem.wpAny_isInstance
abbrev abw:=@PySem.wpAny_setField
abbrev abx:=@List.length_eq_zero_iff
abbrev aby:=@PySem.sizeLine_eq
abbrev abz:=@List.take_append_of_le_length
abbrev abA:=@PySem.wpAny_pyIter_tuple
abbrev abB:=@PySem.Calls.callWith_builtin
abbrev abC:=@Option.map_eq_some_iff
abbrev abD:=@Int.natCast_nonneg
abbrev abE:=@List.of_mem_zip
abbrev abF:=@List.find?_cons
abbrev abG:=@List.forIn_cons
abbrev abH:=@PyProof.Rows.get?_update_seq
abbrev abI:=@PySem.wpAny_standAt
abbrev abJ:=@PySem.Obj.isFreed_of_fields
abbrev abK:=@PyProof.Rows.KeyOrd.kle_of_klt
abbrev abL:=@Bool.not_eq_true'
abbrev abM:=@PySem.Around.under_plainId
abbrev abN:=@List.getElem?_of_mem
abbrev abO:=@Nat.lt_or_ge
abbrev abP:=@PySem.F.args_tuple_add_2
abbrev abQ:=@List.any_cons
abbrev abR:=@PySem.plainId_quiet
abbrev abS:=@PySem.wpAny_execs_nil
abbrev abT:=@List.nil_append
abbrev abU:=@PySem.tupleKind_room_in1
abbrev abV:=@Nat.not_lt
abbrev abW:=@PySem.SeqAt.EqAt.int_int
abbrev abX:=@PySem.Code.quiet_builtin
abbrev abY:=@List.forIn_nil
abbrev abZ:=@PySem.F.args_zip_next_1
abbrev ab0:=@decide_eq_true_eq
abbrev ab1:=@Option.some.injEq
abbrev ab2:=@Int.pow_succ
abbrev ab3:=@PySem.call_meets
abbrev ab4:=@PySem.wpAny_rule
abbrev ab5:=@PySem.wpAny_newList
abbrev ab6:=@Bool.true_and
abbrev ab7:=@List.map_take
abbrev ab8:=@Prod.ext
open PySem.W (Frag InstAt LeftO SharedT absHeap any_some callWith_K cellsFrom_some clsGoodW clsIn codeIn emptyDict findIn fnOf handedIn hasDictIn instObj isFn kHook keepIn kia_one kitOne kitx_dict kitx_list kitx_tuple lookIn looks_clsIn looks_findIn looks_mroIn looseW makesIn methodObj mg_of mroIn nsIn nsOkIn openEnds osa_eq plainGet plainGet_of plainOver recOk set_plain stepOk stepT tailIn takerIn topRun typeIn wideGood xlAt)
noncomputable section
open PySem PySem.Spec PyProof.Rows
set_option Elab.async false
set_option linter.all false
set_option maxRecDepth 100000
namespace L2
def cN (s:Stmt):Arguments:=match s with
 |.FunctionDef _ a _ _ _ _ _ _ _ _=>a
 |_=>{ posonlyargs:=[],args:=[],vararg:=none,kwonlyargs:=[],kw_defaults:=[],kwarg:=none,defaults:=[]}
def cj (s:Stmt):List Stmt:=match s with
 |.FunctionDef _ _ b _ _ _ _ _ _ _=>b
 |_=>[]
def aB (s:Stmt):Scope:=match s with
 |.FunctionDef _ _ _ _ _ _ a _ _ _=>a
 |_=>{ kind:=.function,names:=[],isGenerator:=false,isCoroutine:=false}
def bmV:List Value:=[.type "ValueError",.type "Exception",.type "BaseException",.type "object"]
end L2
namespace M
open L2
def acI (ns:List Str) (f:Str->Nat) (m:Nat):List (List Str):=(List.range m).map fun k=>ns.filter fun n=>decide (f n=k)
def top (i:Nat):Stmt:=PySem.Challenge.pw_stationrow_k44_whole_more_room.main.body.getD i (.Pass ⟨0,0,0,0⟩)
def Mf:Stmt->List Stmt
 |.ClassDef _ _ _ a _ _ _ _ _ _ _=>a
 |_=>[]
def ack (i j:Nat):Stmt:=(Mf (top i)).getD j (.Pass ⟨0,0,0,0⟩)
def qv:Program:={ PySem.Challenge.pw_stationrow_k44_whole_more_room with main:={ PySem.Challenge.pw_stationrow_k44_whole_more_room.main with body:=([0,2,3,4,5,6,7,8,9,10,12,13,14,16,18,20,22,24,25,27,28,29,30,31,33,34,36,37,38,39,41,42,43,44,45,46,47,48,49,50,51,52,53,54,55,56]:List Nat).map top}}
def en (P:Params) (n:Str) (t:Nat) (v:Value):DictEntry:=⟨PyData.keyHash P n,.str n t,v⟩
def cO (n:Str) (c:Nat) (b:Bool) (a j l k:Nat):Obj:=⟨.type "code",none,.fields #[.str n a,.str n (a+1),.str "/claim/cut.py" (a+2),.int l 0,.int k 0,.int 0 0,.int 0 0,.int 3 0,.ref (c - (bif b then 5 else 3)),.bool true,.int 181 0,.ref (c - (bif b then 4 else 2)),.none,bif b then .ref (c - 3) else .none,bif b then .ref (c - 2) else .none,.ref (c - 1),.int j 0,.int l 0,.str "/claim/cut.py" (j+1)],#[]⟩
def fO (i:Nat) (n m:Str) (t c:Nat):Obj:=⟨.type "function",none,.func (fnOf n n (cN (top i)) (cj (top i)) (aB (top i)) .none .none .none (.str m t) none (.ref c) .none),#[]⟩
abbrev mlw:Str := "law_stationrow_k44_whole_more_room"
def fx (i:Nat) (n m:Str) (t c:Nat) (b:Bool) (a j l k:Nat):(Params->DictEntry) × Frag:=(fun P=>en P n (j+2) (.ref (c+1)),[(c,cO n c b a j l k),(c+1,fO i n m t c)])
def TB:List ((Params->DictEntry) × Frag):=[fx 0 "_wall" "__main__" 164 20 true 187 191 1 1,
 fx 2 "links_of" "stationrow.chains" 194 27 true 196 204 5 1,
 fx 3 "reached" "stationrow.chains" 194 34 true 207 216 12 2,
 fx 4 "led_to" "stationrow.chains" 194 41 true 219 224 22 2,
 fx 5 "led_from" "stationrow.chains" 194 46 false 227 230 24 2,
 fx 6 "in_both" "stationrow.chains" 194 51 false 233 236 26 3,
 fx 7 "in_first_alone" "stationrow.chains" 194 56 false 239 242 28 3,
 fx 8 "group_of" "stationrow.chains" 194 63 true 245 250 30 2,
 fx 9 "groups_of" "stationrow.chains" 194 70 true 253 260 32 1,
 fx 10 "ahead_of" "stationrow.chains" 194 77 true 263 268 39 2,
 (fun P=>en P "RowError" 290 (.ref 88),[]),
 (fun P=>en P "TooLong" 317 (.ref 108),[]),
 (fun P=>en P "NoRoom" 333 (.ref 120),[]),
 fx 16 "may_be_done" "stationrow.checks" 334 128 true 336 341 52 2,
 fx 18 "turned_about" "stationrow.works" 344 133 false 346 349 55 1,
 fx 20 "names_of" "stationrow.texts" 352 138 false 354 357 60 1,
 fx 22 "load_of" "stationrow.dealings" 360 143 false 362 365 63 2,
 fx 24 "number_of" "stationrow.sets" 368 150 true 370 378 66 2,
 fx 25 "tasks_of" "stationrow.sets" 368 157 true 381 389 74 2,
 fx 27 "apart_from" "stationrow.fillings" 392 162 false 394 397 83 2,
 fx 28 "rules_of" "stationrow.fillings" 392 169 true 400 412 85 1,
 fx 29 "has_all" "stationrow.fillings" 392 176 true 415 420 94 2,
 fx 30 "is_filling_number" "stationrow.fillings" 392 183 true 423 438 96 5,
 fx 31 "greatest_numbers" "stationrow.fillings" 392 188 false 441 444 108 1,
 fx 33 "parts_of" "stationrow.walks" 447 193 false 449 452 115 1,
 (fun P=>en P "Walk" 516 (.ref 235),[]),
 fx 36 "ways_behind" "stationrow.dealt" 517 245 true 519 529 147 3,
 fx 37 "dealing_to" "stationrow.dealt" 517 252 true 532 541 153 3,
 fx 38 "check_groups" "stationrow.dealt" 517 259 true 544 551 161 2,
 fx 39 "fewest_stands" "stationrow.dealt" 517 266 true 554 561 166 2,
 fx 41 "_law_cell" mlw 564 273 true 566 576 174 2,
 fx 42 "_law_word" mlw 564 280 true 579 587 186 1,
 fx 43 "_law_unlike" mlw 564 287 true 590 597 194 1,
 fx 44 "_law_pool" mlw 564 294 true 600 606 202 1,
 fx 45 "_law_task" mlw 564 301 true 609 625 208 4,
 fx 46 "_law_links" mlw 564 306 false 628 631 227 3,
 fx 47 "_law_works" mlw 564 311 false 634 637 252 3,
 fx 48 "_law_loads" mlw 564 318 true 640 648 269 2,
 fx 49 "_law_beat" mlw 564 323 false 651 654 274 3,
 fx 50 "_law_drawn" mlw 564 330 true 657 665 281 3,
 fx 51 "_law_moved" mlw 564 337 true 668 675 284 2,
 fx 52 "_law_right" mlw 564 342 false 678 681 292 3,
 fx 53 "_law_is_dealing" mlw 564 347 false 684 687 313 4,
 fx 54 "_law_otherwise" mlw 564 352 false 690 693 323 2,
 fx 55 "_law_fewest" mlw 564 359 true 696 702 332 2,
 fx 56 "law" mlw 564 364 false 705 708 339 1]
def wcO (C N t u:Nat):Obj:=⟨.type "type",none,.cls { name:="Walk",bases:=[.type "object"],mro:=[.ref C,.type "object"],ns:=N,qualname:="Walk"},#[none,none,some (.str "Walk" t),some (.str "Walk" u),some (.builtin "object.__new__"),some (.bool true)]⟩
def nsO (P:Params) (a:List (Str × Nat × Value)) (k:Nat):Obj:=⟨.type "dict",none,.dict (a.map fun e=>en P e.1 e.2.1 e.2.2).toArray k,#[]⟩
def xcO (C N:Nat) (n:Str) (c mro b:List Value) (a t u:Nat):Obj:=⟨.type "type",none,.cls { name:=n,bases:=c,mro:=.ref C::mro,ns:=N,qualname:=n,subclasses:=b},#[some (.ref a),none,some (.str n t),some (.str n u),some (.builtin "ValueError.__new__"),some (.bool true)]⟩
def cQ (n q:Str) (c:Nat) (b:Bool) (a j l k:Nat):Obj:=⟨.type "code",none,.fields #[.str n a,.str q (a+1),.str "/claim/cut.py" (a+2),.int l 0,.int k 0,.int 0 0,.int 0 0,.int 3 0,.ref (c - (bif b then 5 else 3)),.bool true,.int 181 0,.ref (c - (bif b then 4 else 2)),.none,bif b then .ref (c - 3) else .none,bif b then .ref (c - 2) else .none,.ref (c - 1),.int j 0,.int l 0,.str "/claim/cut.py" (j+1)],#[]⟩
def fQ (st:Stmt) (n q m:Str) (t c:Nat):Obj:=⟨.type "function",none,.func (fnOf n q (cN st) (cj st) (aB st) .none .none .none (.str m t) none (.ref c) .none),#[]⟩
def KC (P:Params):Frag:=[(87,nsO P [("__module__",280,.str "stationrow.errors" 271),("__firstlineno__",284,.int 42 283),("__static_attributes__",285,.ref 86),("__weakref__",287,.ref 89),("__doc__",288,.none)] 3),
 (88,xcO 88 87 "RowError" [.type "ValueError"] bmV [.ref 108,.ref 120] 79 273 281),
 (104,cQ "__init__" "TooLong.__init__" 104 true 303 309 46 3),
 (105,fQ (ack 13 0) "__init__" "TooLong.__init__" "stationrow.errors" 271 104),
 (107,nsO P [("__module__",298,.str "stationrow.errors" 271),("__firstlineno__",302,.int 44 301),("__init__",311,.ref 105),("__static_attributes__",314,.ref 106),("__doc__",315,.none)] 2),
 (108,xcO 108 107 "TooLong" [.ref 88] [.ref 88,.type "ValueError",.type "Exception",.type "BaseException",.type "object"] [] 92 291 299),
 (119,nsO P [("__module__",325,.str "stationrow.errors" 271),("__firstlineno__",329,.int 49 328),("__static_attributes__",330,.ref 118),("__doc__",331,.none)] 2),
 (120,xcO 120 119 "NoRoom" [.ref 88] [.ref 88,.type "ValueError",.type "Exception",.type "BaseException",.type "object"] [] 111 318 326),
 (207,cQ "__init__" "Walk.__init__" 207 true 467 473 125 3),
 (208,fQ (ack 34 0) "__init__" "Walk.__init__" "stationrow.walks" 447 207),
 (212,cQ "fillings_at" "Walk.fillings_at" 212 false 476 479 131 3),
 (213,fQ (ack 34 1) "fillings_at" "Walk.fillings_at" "stationrow.walks" 447 212),
 (219,cQ "greatest_at" "Walk.greatest_at" 219 true 482 488 138 3),
 (220,fQ (ack 34 2) "greatest_at" "Walk.greatest_at" "stationrow.walks" 447 219),
 (231,cQ "dealing_of" "Walk.dealing_of" 231 false 499 502 144 2),
 (232,fQ (ack 34 4) "dealing_of" "Walk.dealing_of" "stationrow.walks" 447 231),
 (234,nsO P [("__module__",462,.str "stationrow.walks" 447),("__firstlineno__",466,.int 123 465),("__init__",475,.ref 208),("fillings_at",481,.ref 213),("greatest_at",490,.ref 220),("load_at",498,.ref 227),("dealing_of",504,.ref 232),("__static_attributes__",509,.ref 233),("__dict__",511,.ref 236),("__weakref__",513,.ref 237),("__doc__",514,.none)] 4),
 (235,wcO 235 234 455 463)]
def KK (P:Params):Frag:=(3,⟨.type "dict",none,.dict ([en P "__name__" 165 (.str mlw 564),
 en P "__doc__" 166 .none,
 en P "__package__" 167 .none,
 en P "__loader__" 168 (.builtin "__main__.__loader__#opaque"),
 en P "__spec__" 169 .none,
 en P "__annotations__" 170 (.ref 6),
 en P "__builtins__" 171 (.ref 4),
 en P "__file__" 173 (.str "/claim/cut.py" 172),
 en P "__cached__" 174 .none]++TB.map fun r=>r.1 P).toArray 55,#[]⟩)::(TB.map fun r=>r.2).flatten++KC P
def HK:PySem.W.Hook:=kHook KK [3,20,21,27,28,34,35,41,42,46,47,51,52,56,57,63,64,70,71,77,78,128,129,133,134,138,139,143,144,150,151,157,158,162,163,169,170,176,177,183,184,188,189,193,194,245,246,252,253,259,260,266,267,273,274,280,281,287,288,294,295,301,302,306,307,311,312,318,319,323,324,330,331,337,338,342,343,347,348,352,353,359,360,364,365,87,88,104,105,107,108,119,120,207,208,212,213,219,220,231,232,234,235] (fun _=>by kernel_rfl)
def zqR (tb:String->Option Builtin) (p:Program) (w:World) (n:Nat) (a:Option Value):Nat->W.SharedT->Thread->Option W.SharedT
 |0,_,_=>none
 |m+1,s,t=>match W.through t with
  |true=>some s
  |false=>match W.stepOk n a t with
   |false=>none
   |true=>match W.stepT (denote tb) p w s t with
    |some (s',t')=>zqR tb p w n a m s' t'
    |none=>none
def zqT {tb:String->Option Builtin}{p:Program}{w:World}{k:Nat}{a:Option Value}:∀{n:Nat}{s s':W.SharedT}{t:Thread},zqR tb p w k a n s t=some s'->W.topRun tb p w k a n s.abs t=some s'.abs
 |0,_,_,_,h=>by cases h
 |n+1,s,s',t,h=>by
  unfold zqR at h
  unfold W.topRun
  cases he:W.through t with
  |true=>rw[he] at h;cases h;rfl
  |false=>
   rw[he] at h
   cases hk:W.stepOk k a t with
   |false=>rw[hk] at h;cases h
   |true=>
    rw[hk] at h
    cases hs:W.stepT (denote tb) p w s t with
    |none=>rw[hs] at h;cases h
    |some r=>obtain⟨s₂,t₂⟩:=r;rw[hs] at h;rw[W.stepT_spec hs];exact zqT h
def zqb:List Obj->W.BT->Nat->Option W.BT
 |[],t,_=>some t
 |o::l,t,n=>match ((t.ins n o).get n).isSome with
  |true=>zqb l (t.ins n o) (n+1)
  |false=>none
def zqc {f:Life}:∀{l:List Obj}{t t':W.BT}{n:Nat},zqb l t n=some t'->(W.absHeap t' (n+l.length) f).objs.toList=(W.absHeap t n f).objs.toList++l
 |[],_,_,_,h=>by cases h;simp
 |o::l,t,t',n,h=>by
  unfold zqb at h
  cases e:((t.ins n o).get n).isSome with
  |false=>rw[e] at h;cases h
  |true=>
   rw[e] at h
   have k:=zqc (f:=f) h
   rw[W.absHeap_ins e] at k
   rw[List.length_cons,show n+(l.length+1)=n+1+l.length by omega,k]
   simp [Heap.push]
def zqd {s:Shared}{t:W.BT}(h:zqb s.heap.objs.toList .nil 0=some t):(⟨t,s.heap.objs.size,s.heap.life,s.gens,s.drawn,s.toks,s.os⟩:W.SharedT).abs=s:=by
 obtain⟨⟨o,f⟩,g,d,k,z⟩:=s
 have e:=zqc (f:=f) h
 have q:(W.absHeap t o.size f).objs=o:=Array.toList_inj.mp (by rw[show o.size=0+o.toList.length by simp];exact e.trans (by simp [W.absHeap,W.BT.list]))
 show Shared.mk ⟨(W.absHeap t o.size f).objs,f⟩ g d k z=_
 rw[q]
def zqE (p:Program) (w:World) (N:Nat):Option W.SharedT:=(W.fencedOpening treeTable p w N).bind fun s=>match s.heap.isNs mainGlobals&&s.gens.size==0 with
 |true=>(zqb s.heap.objs.toList .nil 0).bind fun t=>(zqR treeTable p w s.heap.objs.size (s.heap.nsMap mainGlobals "__annotations__") N ⟨t,s.heap.objs.size,s.heap.life,s.gens,s.drawn,s.toks,s.os⟩ (W.topStub p)).bind fun z=>match W.staticsOk (importedModules p.main.body) s.heap z.abs.heap&&W.namesBound p z.abs.heap&&W.gensDone z.abs&&W.laidKept s.heap z.abs.heap with
  |true=>some z
  |false=>none
 |false=>none
def zqF {p:Program}{w:World}{N:Nat}{z:W.SharedT}(h:zqE p w N=some z):W.openEnds treeTable p w N=some z.abs:=by
 obtain⟨s,a,h⟩:=Option.bind_eq_some_iff.mp h
 refine Option.bind_eq_some_iff.mpr ⟨s,a,?_⟩
 unfold W.topFrom
 split at h
 ·rename_i q
  obtain⟨t,b,h⟩:=Option.bind_eq_some_iff.mp h
  obtain⟨x,c,h⟩:=Option.bind_eq_some_iff.mp h
  have c:=zqT c
  rw[zqd b] at c
  rw[q]
  refine Option.bind_eq_some_iff.mpr ⟨x.abs,c,?_⟩
  split at h
  ·rename_i y
   cases h
   rw[y]
  ·cases h
 ·cases h
def zqL {p:Program}{w:World}{N:Nat}{α:Type}{f:Shared->α}{a:α}(h:(zqE p w N).map (fun z=>f z.abs)=some a):(W.openEnds treeTable p w N).map f=some a:=by
 obtain⟨s,a,h⟩:=Option.map_eq_some_iff.mp h
 rw[zqF a]
 exact congrArg some h
def lO (w:World):=W.openEnds treeTable (PySem.W.OpenLaw.row PySem.Challenge.rw_stationrow_k44_whole_more_room).prog w 4852
abbrev lX (s:Shared):Bool:=W.xlAt qv [] s&&W.recOk (W.RowW.records (PySem.W.OpenLaw.row PySem.Challenge.rw_stationrow_k44_whole_more_room).toRowW) s
def lS (s:Shared):=W.openSeen qv [] (importedModules (PySem.W.OpenLaw.row PySem.Challenge.rw_stationrow_k44_whole_more_room).prog.main.body) (fun s=>lX s) true s
def ah1 {b h c e:Type}{o:Option b}{f:b->h × c}{g:b->e}{a:h}{a2:c}{d:e}(i:o.map (fun s=>(f s).1)=some a) (k:o.map (fun s=>(f s).2)=some a2) (j:o.map g=some d):o.map (fun s=>(f s,g s))=some ((a,a2),d):=by
 cases o with
 |none=>cases i
 |some s=>exact congrArg some (Prod.ext (Prod.ext (Option.some.inj i) (Option.some.inj k)) (Option.some.inj j))
theorem agx (w:World):(lO w).map (fun s=>(lS s).1)=some (expectedOf qv):=zqL (by kernel_rfl)
theorem agD (w:World):(lO w).map (fun s=>(lS s).2)=some (bltViewBooted,true,true,pinGoodD (drecsOf qv),plainGoodE qv (W.looseW qv []),plainGoodD qv [],W.wideGood qv,W.clsGoodW qv []):=zqL (by kernel_rfl)
theorem agI (w:World):(lO w).map (W.Hook.obs HK)=some (W.Hook.val HK w):=zqL (by kernel_rfl)
theorem left:W.LeftO (PySem.W.OpenLaw.row PySem.Challenge.rw_stationrow_k44_whole_more_room).prog qv [] (fun s=>lX s) (W.Hook.obs HK) (W.Hook.val HK) 4852:=fun w=>ah1 (o:=lO w) (f:=lS) (g:=W.Hook.obs HK) (agx w) (agD w) (agI w)
end M
namespace L2
abbrev Key:=Sum Int Str
def oH:Key->Value->Bool
 |.inl k,v=>Value.isInt k v
 |.inr x,v=>Value.isStrOf x v
def XX (w:World):Key->Int
 |.inl k=>hashInt k
 |.inr x=>hashStr w x
def bJ:∀{k:Key}{v:Value},oH k v=true->(∃i t,k=Sum.inl i/\v=Value.int i t)\/(∃x t,k=Sum.inr x/\v=Value.str x t)
 |.inl i,v,h=>by
  obtain⟨t,e⟩:=Value.isInt_shape (k:=i) (v:=v) h
  exact .inl ⟨i,t,rfl,e⟩
 |.inr x,v,h=>by
  obtain⟨t,e⟩:=Value.isStrOf_shape (x:=x) (v:=v) h
  exact .inr ⟨x,t,rfl,e⟩
def zA (i:Int) (t:Tok):oH (.inl i) (.int i t)=true:=by simp [oH,Value.isInt]
def zB (x:Str) (t:Tok):oH (.inr x) (.str x t)=true:=by simp [oH,Value.isStrOf]
def Ox (a b:Int):decide ((Sum.inl a:Key)=Sum.inl b)=(a==b):=by
 by_cases e:a=b
 ·subst e;simp
 have h:¬(Sum.inl a:Key)=Sum.inl b:=fun q=>e (Sum.inl.inj q);rw[E_ h];exact (ZM.mpr e).symm
def Oz (a b:Str):decide ((Sum.inr a:Key)=Sum.inr b)=decide (a=b):=by
 by_cases e:a=b
 ·subst e;simp
 have h:¬(Sum.inr a:Key)=Sum.inr b:=fun q=>e (Sum.inr.inj q);rw[E_ h,E_ e]
def OD (a:Int) (b:Str):decide ((Sum.inl a:Key)=Sum.inr b)=false:=E_ (fun q=>nomatch q)
def OJ (a:Str) (b:Int):decide ((Sum.inr a:Key)=Sum.inl b)=false:=E_ (fun q=>nomatch q)
def bu (prog:Program) (w:World):PySem.KeyKind prog w Key where
 is:=oH
 hash:=XX w
 inj:=fun v a b f d=>by
  rcases bJ f with ⟨i,t,rfl,rfl⟩ | ⟨x,t,rfl,rfl⟩
  ·
   rcases bJ d with ⟨j,u,rfl,e⟩ | ⟨y,u,rfl,e⟩
   ·
    injection e with e1 _;rw[e1]
   ·
    exact nomatch e
  ·
   rcases bJ d with ⟨j,u,rfl,e⟩ | ⟨y,u,rfl,e⟩
   ·
    exact nomatch e
   ·
    injection e with e1 _;rw[e1]
 byValue:=fun k v h=>by
  rcases bJ h with ⟨i,t,rfl,rfl⟩ | ⟨x,t,rfl,rfl⟩ <;> rfl
 pyHash:=fun c h=>by
  rcases bJ c with ⟨i,t,rfl,rfl⟩ | ⟨x,t,rfl,rfl⟩
  ·
   exact wpAny_pyHash_int h
  ·
   exact wpAny_pyHash_str h
 eqBool:=fun g c h=>by
  rcases bJ g with ⟨i,t,rfl,rfl⟩ | ⟨x,t,rfl,rfl⟩
  ·
   rcases bJ c with ⟨j,u,rfl,rfl⟩ | ⟨y,u,rfl,rfl⟩
   ·
    rw[Ox] at h;exact wpAny_eqBool_int h
   ·
    rw[OD] at h;exact SeqAt.EqAt.int_str i t y u _ _ _ _ h
  ·
   rcases bJ c with ⟨j,u,rfl,rfl⟩ | ⟨y,u,rfl,rfl⟩
   ·
    rw[OJ] at h;exact SeqAt.EqAt.str_int x t j u _ _ _ _ h
   ·
    rw[Oz] at h;exact wpAny_eqBool_str h
 «strs»:=fun k x t v h=>by
  rcases bJ h with ⟨i,u,rfl,e⟩ | ⟨y,u,rfl,e⟩
  ·
   exact nomatch e
  ·
   injection e with e1 _
   subst e1
   cases v <;> rfl
def rH (prog:Program) (w:World) (i:Int) (t:Tok):(bu prog w).is (.inl i) (.int i t)=true:=zA i t
def rJ (prog:Program) (w:World) (x:Str) (t:Tok):(bu prog w).is (.inr x) (.str x t)=true:=zB x t
inductive V where
 |non | bl (b:Bool) | int (i:Int) | str (x:Str) | byt (b:Array UInt8) | flt (b:UInt64) | ref (a:Addr) | ty (n:String)
 deriving DecidableEq
def RelV:V->Value->Prop
 |.non,u=>u=Value.none
 |.bl b,u=>u=Value.bool b
 |.int i,u=>∃t,u=Value.int i t
 |.str x,u=>∃t,u=Value.str x t
 |.byt b,u=>∃t,u=Value.bytes b t
 |.flt b,u=>∃t,u=Value.float b t
 |.ref a,u=>u=Value.ref a
 |.ty n,u=>u=Value.type n
abbrev Vals:List V->List Value->Prop:=Paired RelV
def Vals.length (r:Vals xs us):xs.length=us.length:=abj r
def Vals.get:∀{xs:List V}{us:List Value}{i:Nat}{x:V},Vals xs us->xs[i]?=some x->∃u,us[i]?=some u/\RelV x u
 |_,_,_,_,.nil,e=>by simp at e
 |_,_,0,_,.cons r _,e=>by simp at e;subst e;exact⟨_,rfl,r⟩
 |_,_,i+1,x,.cons _ t,e=>by
  obtain⟨u,b,a⟩:=Vals.get (i:=i) (x:=x) t (by simpa using e)
  exact⟨u,by simpa using b,a⟩
def Vals.set (r:RelV x u):∀{xs:List V}{us:List Value}(i:Nat),Vals xs us->Vals (xs.set i x) (us.set i u)
 |_,_,_,.nil=>.nil
 |_,_,0,.cons _ t=>.cons r t
 |_,_,i+1,.cons q t=>.cons q (Vals.set r i t)
def Vals.append:∀{xs ys:List V}{us ws:List Value},Vals xs us->Vals ys ws->Vals (xs++ys) (us++ws)
 |_,_,_,_,.nil,s=>s
 |_,_,_,_,.cons r t,s=>.cons r (Vals.append t s)
def Vals.take:∀{xs:List V}{us:List Value}(n:Nat),Vals xs us->Vals (xs.take n) (us.take n)
 |_,_,0,_=>.nil
 |_,_,_+1,.nil=>.nil
 |_,_,n+1,.cons r t=>.cons r (Vals.take n t)
def Vals.drop:∀{xs:List V}{us:List Value}(n:Nat),Vals xs us->Vals (xs.drop n) (us.drop n)
 |_,_,0,r=>r
 |_,_,_+1,.nil=>.nil
 |_,_,n+1,.cons _ t=>Vals.drop n t
def acG:Option V->Option Value->Prop
 |some v,some u=>RelV v u
 |none,none=>True
 |_,_=>False
def KV {κ:Type}:List (κ × V)->List (κ × Value)->Prop:=Paired fun (p:κ × V) (q:κ × Value)=>p.1=q.1/\RelV p.2 q.2
def kV:Key->V
 |.inl i=>.int i
 |.inr x=>.str x
inductive HO where
 |lst (xs:List V)
 |tup (xs:List V)
 |dK (kvs:List (Key × V)) | dT (kvs:List (List Key × V))
 |set (S:Int->Bool) (n:Nat)
 |ins (C dx:Addr) (fs:List (Str × V))
 |own (x:Addr)
 |xd (fs:List (Str × V))
 |met (f x:Addr)
 |rng (lo hi:Int)
 |frz (o:Obj) (u:HO)
 |tbl (ps:Array Value)
 |ext (φ:Heap->Prop)
abbrev Hp:=Addr->Option HO
def upd (H:Hp) (a:Addr) (o:HO):Hp:=fun b=>if b=a then some o else H b
def aY:upd H a o a=some o:=by unfold upd;rw[if_pos rfl]
def aM (h:b≠a):upd H a o b=H b:=by unfold upd;rw[if_neg h]
def HX:upd (upd H a o) a u=upd H a u:=by
 funext b;unfold upd;split <;> rfl
def Ua {H:Hp} (h:H a=some o) (h':H b=some u) (d:o≠u):a≠b:=by
 intro e;subst e;rw[h] at h';exact d (D_ h')
def cz {H:Hp} (h:H a=some o) (h':H b=none):a≠b:=by
 intro e;subst e;rw[h] at h';cases h'
def ac6 (h:Heap) (a:Addr) (b:Array Value):Prop:=∃o,h.get? a=some o/\o.cls=.type "tuple"/\∃n,o.data=.seq b n/\o.dict=none
def ac6.is (x:ac6 h a b):IsTup h a b:=by
 obtain⟨o,d,c,n,e,_⟩:=x;exact⟨o,d,c,n,e⟩
def ac6.new (h:Heap) (a:Array Value):ac6 (h.push { cls:=.type "tuple",data:=.seq a}) h.objs.size a:=⟨_,j_ _ rfl,rfl,_,rfl,rfl⟩
section
variable (P:Program)(w:World)
def vy (H:Hp) (h:Heap) (a:Addr):HO->Prop
 |.lst xs=>xs.length<=sizeLine/\∃(b:List Value) (n:Nat),Vals xs b/\h.get? a=some { cls:=.type "list",data:=.seq b.toArray n}
 |.tup xs=>xs.length<=sizeLine/\∃b:List Value,Vals xs b/\ac6 h a b.toArray
 |.dK kvs=>kvs.length<=sizeLine/\(a==sysModules)=false/\∃vs,KV kvs vs/\h.DictOf (bu P w) a vs
 |.dT kvs=>kvs.length<=sizeLine/\(a==sysModules)=false/\∃xs:List (List Key × Addr × Value),
   Paired (fun (p:List Key × V) (q:List Key × Addr × Value)=>p.1=q.1/\H q.2.1=some (.tup (p.1.map kV))/\RelV p.2 q.2.2) kvs xs /\
   ∃o g ep,h.get? a=some o/\o.ExactDict/\o.data=.dict g ep/\g.toList=xs.map (entryOfKey (tupleKind (bu P w)))/\(xs.map (·.1)).Nodup
 |.set S n=>h.SetOf (intKind P w) a S n
 |.ins C c fs=>H c=some (.own a)/\fs.length<=1000/\c≠a/\h.get? a=some (instObj C c) /\
   ∃mA,h.Ns1 c mA/\(∀f,acG (fs.lookup f) (mA f))/\PySem.Within mA (fs.map (·.1))
 |.own _=>∃o,h.get? a=some o
 |.xd fs=>∃mA,h.Ns1 a mA/\∀f,acG (fs.lookup f) (mA f)
 |.rng j k=>∃t u v,h.get? a=some { cls:=.type "range",data:=.fields #[.int j t,.int k u,.int 1 v]}
 |.frz o u=>h.get? a=some o/\vy H h a u
 |.tbl ps=>h.get? a=some { cls:=.none,data:=.fields ps}
 |.met f x=>h.get? a=some (methodObj (.ref f) (.ref x))
 |.ext d=>d h/\(∃o,h.get? a=some o)/\∀i e:Heap,d i->(∀o,i.get? a=some o->e.get? a=some o)->d e
def HOk (H:Hp) (h:Heap):Prop:=∀a o,H a=some o->vy P w H h a o
end
section
variable {P:Program}{w:World}{a:Addr}
def vy.lt (x:vy P w H h a o):a<h.objs.size:=by
 cases o with
 |lst xs=>obtain⟨_,_,_,_,e⟩:=x;exact m_ e
 |tup xs=>obtain⟨_,_,_,p⟩:=x;exact p.is.lt
 |dK kvs=>obtain⟨_,_,_,_,o,_,_,e,_⟩:=x;exact m_ e
 |dT kvs=>obtain⟨_,_,_,_,o,_,_,e,_⟩:=x;exact m_ e
 |set S n=>obtain⟨o,_,_,_,e,_⟩:=x;exact m_ e
 |ins C g fs=>obtain⟨_,_,_,e,_⟩:=x;exact m_ e
 |own y=>obtain⟨_,e⟩:=x;exact m_ e
 |xd fs=>obtain⟨_,⟨_,_,_,e,_⟩,_⟩:=x;exact m_ e
 |rng c d=>obtain⟨_,_,_,e⟩:=x;exact m_ e
 |frz b u=>obtain⟨e,_⟩:=x;exact m_ e
 |tbl ps=>exact m_ (show h.get? a=some _ from x)
 |met f y=>exact m_ (show h.get? a=some _ from x)
 |ext i=>obtain⟨_,⟨_,e⟩,_⟩:=x;exact m_ e
def Paired.mapP:∀{l₁:List d}{l₂:List c},Paired F l₁ l₂->(∀a b,F a b->G a b)->Paired G l₁ l₂
 |_,_,.nil,_=>.nil
 |_,_,.cons r t,f=>.cons (f _ _ r) (Paired.mapP t f)
def vy.stay (x:vy P w H h a o) (k:∀b u,(b=a\/H b=some (.own a))->h.get? b=some u->h'.get? b=some u)
  (B:∀b,H b=some (.own a)->H' b=some (.own a)) (A:∀b xs,H b=some (.tup xs)->H' b=some (.tup xs)):vy P w H' h' a o:=by
 induction o with
 |lst xs=>obtain⟨z,j,n,r,e⟩:=x;exact⟨z,j,n,r,k _ _ (.inl rfl) e⟩
 |tup xs=>obtain⟨z,j,r,g,e,c⟩:=x;exact⟨z,j,r,g,k _ _ (.inl rfl) e,c⟩
 |dK kvs=>obtain⟨z,y,vs,r,g,i,ep,e,c⟩:=x;exact⟨z,y,vs,r,g,i,ep,k _ _ (.inl rfl) e,c⟩
 |dT kvs=>obtain⟨z,y,xs,r,g,i,ep,e,c⟩:=x;exact⟨z,y,xs,Paired.mapP r fun p q z=>⟨z.1,A _ _ z.2.1,z.2.2⟩,g,i,ep,k _ _ (.inl rfl) e,c⟩
 |set S n=>obtain⟨g,i,ep,t,e,c⟩:=x;exact⟨g,i,ep,t,k _ _ (.inl rfl) e,c⟩
 |ins C F fs=>obtain⟨d,z,l,e,mA,⟨od,i,ep,m,c⟩,r⟩:=x;exact⟨B _ d,z,l,k _ _ (.inl rfl) e,mA,⟨od,i,ep,k _ _ (.inr d) m,c⟩,r⟩
 |own y=>obtain⟨g,e⟩:=x;exact⟨g,k _ _ (.inl rfl) e⟩
 |xd fs=>obtain⟨mA,⟨od,i,ep,e,c⟩,r⟩:=x;exact⟨mA,⟨od,i,ep,k _ _ (.inl rfl) e,c⟩,r⟩
 |rng D E=>obtain⟨t,u,v,e⟩:=x;exact⟨t,u,v,k _ _ (.inl rfl) e⟩
 |frz g u s=>obtain⟨e,q⟩:=x;exact⟨k _ _ (.inl rfl) e,s q⟩
 |tbl ps =>
  have e:h.get? a=some { cls:=.none,data:=.fields ps}:=x
  show h'.get? a=some { cls:=.none,data:=.fields ps}
  exact k a _ (.inl rfl) e
 |met f y =>
  have e:h.get? a=some (methodObj (.ref f) (.ref y)):=x
  show h'.get? a=some (methodObj (.ref f) (.ref y))
  exact k a _ (.inl rfl) e
 |ext G=>obtain⟨p,⟨o,e⟩,st⟩:=x;exact⟨st _ _ p fun o q=>k _ _ (.inl rfl) q,⟨o,k _ _ (.inl rfl) e⟩,st⟩
def HOk.lt (x:HOk P w H h) (e:H a=some o):a<h.objs.size:=(x a o e).lt
def HOk.fresh (x:HOk P w H h) (e:h.objs.size<=a):H a=none:=by
 cases q:H a with
 |none=>rfl
 |some u=>exact absurd (J_ (x.lt q) e) (Zm _)
def HOk.kept (x:HOk P w H h) (k:∀b u,h.get? b=some u->h'.get? b=some u):HOk P w H h':=fun a o e =>
 (x a o e).stay (fun b u _ q=>k b u q) (fun _ q=>q) fun _ _ q=>q
def HOk.laid (x:HOk P w H h) (k:∀b u,h.get? b=some u->h'.get? b=some u) (i:h.objs.size<=a) (d:vy P w (upd H a o) h' a o):HOk P w (upd H a o) h':=fun b u e=>by
 have g:=x.fresh i;by_cases f:b=a
 ·subst f;rw[aY] at e;cases e;exact d
 rw[aM f] at e;exact (x b u e).stay (fun c v _ q=>k c v q) (fun c q=>by rw[aM (cz q g)];exact q) fun c xs q=>by rw[aM (cz q g)];exact q
end
def Rd (H:Hp) (a:Addr) (u:HO):Prop:=H a=some u\/∃o,H a=some (.frz o u)
def Rd.ok (r:Rd H a u) (x:HOk P w H h):vy P w H h a u:=by
 rcases r with r | ⟨o,r⟩
 ·exact x a u r
 obtain⟨_,q⟩:=x a _ r;exact q
def Mut:Option HO->Prop
 |some (.lst _)=>True
 |some (.dK _)=>True
 |some (.dT _)=>True
 |some (.set _ _)=>True
 |some (.ins _ _ _)=>True
 |some (.ext _)=>True
 |_=>False
section
variable {P:Program}{w:World}
def HOk.write (p:HOk P w H h) (mu:Mut (H x)) (m:e=x\/H e=some (.own x)) (k:∀b u,b≠e->h.get? b=some u->h'.get? b=some u) (j:∃u,h'.get? e=some u)
  (l:vy P w (upd H x o') h' x o'):HOk P w (upd H x o') h':=fun b u q=>by
 have d:∀c y,H c=some (.own y)->c≠x:=fun c y r z=>by subst z;rw[r] at mu;exact mu
 have f:∀c xs,H c=some (.tup xs)->c≠x:=fun c xs r z=>by subst z;rw[r] at mu;exact mu
 by_cases i:b=x
 ·subst i;rw[aY] at q;cases q;exact l
 rw[aM i] at q;by_cases a:b=e
 ·have n:H b=some (.own x):=by
   rcases m with z | z
   ·exact absurd (a.trans z) i
   rw[a];exact z
  rw[q] at n;cases n;obtain⟨v,o⟩:=j;exact⟨v,by rw[a];exact o⟩
 refine (p b u q).stay (fun c v g r=>k c v ?_ r) (fun c r=>by rw[aM (d c b r)];exact r) fun c xs r=>by rw[aM (f c xs r)];exact r
 rcases g with rfl | g
 ·exact a
 rintro rfl;rcases m with z | z
 ·exact d c b g z
 rw[g] at z;cases z;exact i rfl
end
structure Un (fs ex:List Addr) (H H':Hp) (h h':Heap):Prop where
 keep:∀b o,h.get? b=some o->H b=none->b∉fs->b∉ex->h'.get? b=some o
 slot:∀b o,h.get? b=some o->H b=none->b∈fs->b∉ex->∃sl,h'.get? b=some { o with slots:=sl}
 free:∀b o,h.get? b=some o->H b=none->b∉ex->H' b=none
 there:∀b o,h.get? b=some o->b∉ex->∃o',h'.get? b=some o'
 tups:∀b xs,H b=some (.tup xs)->H' b=some (.tup xs)
 frzs:∀b o u,H b=some (.frz o u)->H' b=some (.frz o u)
 tbls:∀b ps,H b=some (.tbl ps)->∃more,H' b=some (.tbl (ps++more))
section
variable {h h1 h2 h':Heap}{a x e:Addr}
def Un.any (u:Un fs ex H H1 h h1) (q:h.get? b=some ob) (n:H b=none) (c:b∉ex):∃d,h1.get? b=some { ob with slots:=d}:=by
 by_cases a:b∈fs
 ·exact u.slot b ob q n a c
 exact⟨ob.slots,u.keep b ob q n a c⟩
def Un.kept (k:∀b u,h.get? b=some u->h'.get? b=some u):Un fs ex H H h h' :=
 ⟨fun b a q _ _ _=>k b a q,fun b a q _ _ _=>⟨a.slots,k b a q⟩,fun _ _ _ n _=>n,fun b a q _=>⟨a,k b a q⟩,fun _ _ q=>q,fun _ _ _ q=>q,fun _ ps q=>⟨#[],by rw[q];simp⟩⟩
def Un.refl:Un fs ex H H h h:=Un.kept fun _ _ q=>q
def Un.laid (k:∀b u,h.get? b=some u->h'.get? b=some u) (d:h.objs.size<=a) (c:H a=none):Un fs ex H (upd H a o) h h' where
 keep:=fun b u q _ _ _=>k b u q
 slot:=fun b u q _ _ _=>⟨u.slots,k b u q⟩
 free:=fun b u q n _=>by rw[aM (G_ (J_ (m_ q) d))];exact n
 there:=fun b u q _=>⟨u,k b u q⟩
 tups:=fun b xs q=>by rw[aM (cz q c)];exact q
 frzs:=fun b u xs q=>by rw[aM (cz q c)];exact q
 tbls:=fun b ps q=>⟨#[],by rw[aM (cz q c),q];simp⟩
def Un.write (mu:Mut (H x)) (i:e=x\/H e=some (.own x)) (k:∀b u,b≠e->h.get? b=some u->h'.get? b=some u) (c:∃u,h'.get? e=some u):Un fs ex H (upd H x o) h h':=by
 have g:∀b,H b=none->b≠x:=fun b n z=>by subst z;rw[n] at mu;exact mu
 have f:∀b,H b=none->b≠e:=fun b n z=>by
  subst z;rcases i with r | r
  ·exact g b n r
  rw[n] at r;cases r
 have d:∀b u,H b=some u->¬Mut (some u)->b≠x:=fun b u q nm z=>by subst z;rw[q] at mu;exact nm mu
 refine⟨fun b u q n _ _=>k b u (f b n) q,fun b u q n _ _=>⟨u.slots,k b u (f b n) q⟩,fun b u q n _=>by rw[aM (g b n)];exact n,fun b u q _=>?_,
  fun b xs q=>by rw[aM (d b _ q fun z=>z)];exact q,fun b u xs q=>by rw[aM (d b _ q fun z=>z)];exact q,fun b ps q=>⟨#[],by rw[aM (d b _ q fun z=>z),q];simp⟩⟩
 by_cases a:b=e
 ·subst a;exact c
 exact⟨u,k b u a q⟩
end
def trk (h:Heap) (H:Hp):List Addr:=(List.range h.objs.size).filter fun a=>(H a).isSome
def pU (h:Heap) (H:Hp):Heap:=PySem.W.hideAll h (trk h H)
def zE (h:Heap) (H:Hp):(pU h H).objs.size=h.objs.size:=PySem.W.hideAll_size _ _
def Bt (e:h.get? b=some o) (n:H b=none):(pU h H).get? b=some o :=
 PySem.W.hideAll_get _ e fun a=>by
  have q:(H b).isSome=true:=(A_.mp a).2;rw[n] at q;simp at q
def HY (e:(pU h H).get? b=some o):h.get? b=some o/\H b=none:=by
 have a:h.get? b=some o:=PySem.W.of_hideAll (trk h H) e;refine⟨a,?_⟩;cases q:H b with
 |none=>rfl
 |some x =>
  have c:b∈trk h H:=A_.mpr ⟨X_.mpr (m_ a),by simp [q]⟩
  have z:(pU h H).get? b=none:=PySem.W.hideAll_none (trk h H) c
  rw[z] at e;cases e
def Ia (g h : Heap) (L : Addr) : List (Addr × Obj):=(List.range h.objs.size).filterMap fun a => if a = L \/ (g.get? a).isSome = true then none else (h.get? a).map fun o => (a,o)
def rest (g h:Heap) (L d:Addr):List (Addr × Obj):=(Ia g h L).filter fun p=>decide (p.1≠d)
structure Mod (K:Frag) (mg:Str->Option Value) (base:Heap):Prop where
 kin:K.In base
 glob:base.Ns mainGlobals mg
 blt:∃mb,base.Ns builtinsNs mb/\∀x:Str,x≠"__name__"->mb x=bootBuiltins x
 nolimit:base.NoLimit
structure Cx where
 prog:Program
 w:World
 K:Frag
 mg:Str->Option Value
 base:Heap
 A:Around
 N:List Str
 s₀:Shared
 H₀:Hp
 env:Env
 outer:List Env
 stack:List Env
 ex:List Addr
 fn:Str->Bool
 calm:Bool
 pn:List (Addr × Obj)
 xe:Value->Shared->Prop
def frs (l : List Env) : List Addr:=l.filterMap (·.frame)
abbrev Cx.fs (X:Cx):List Addr:=frs X.outer
def Vis (a:Scope) (x:Str):Prop:=a.names.lookup x=some .local\/a.names.lookup x=some .cell\/a.names.lookup x=some .free
def Loc (a:Scope) (x:Str):Prop:=a.names.lookup x=some .local\/a.names.lookup x=some .cell
def Look (env:Env) (h:Heap) (m:Str->Option Value) (x:Str) (u:Value):Prop :=
 (env.kindOf x=some .local/\m x=some u)\/((env.kindOf x=some .cell\/env.kindOf x=some .free)/\∃c,env.cells.lookup x=some c/\h.IsCell c (some u))
structure Cx.Ok (X:Cx):Prop where
 mod:Mod X.K X.mg X.base
 kind:X.env.scope.kind=.function
 glob:X.env.globals=mainGlobals
 blt:X.env.builtins=builtinsNs
 above:X.s₀.heap.objs.size<=X.env.locals
 inj:∀x y c,X.env.cells.lookup x=some c->X.env.cells.lookup y=some c->x=y
 has:∀x,(X.env.kindOf x=some .cell\/X.env.kindOf x=some .free)->∃c,X.env.cells.lookup x=some c
 cab:∀x c,X.fn x=true->X.env.cells.lookup x=some c->X.s₀.heap.objs.size<=c
 hd:X.calm=true->X.A.handled=none
 frames:X.A.frames=some X.stack
 stk:X.stack=X.outer\/(X.stack=X.env::X.outer/\X.env.frame=some X.env.locals)
 exf:∀b∈X.ex,b≠X.env.locals/\∀x c,X.env.cells.lookup x=some c->c≠b
 bs:∀b o,X.base.get? b=some o->X.s₀.heap.get? b=some o/\X.H₀ b=none
 bsz:X.base.objs.size<=X.s₀.heap.objs.size
 noex:∀b o,X.base.get? b=some o->b∉X.ex
 exfs:∀b∈X.ex,b∉X.fs
 funs:X.s₀.heap.FunFrames X.base X.outer
 frf:∀b∈X.fs,X.H₀ b=none
structure Inv (X:Cx) (pins:List (Addr × Obj)) (Z:List (Option V)) (H:Hp) (s:Shared):Prop where
 ok:X.Ok
 os:s.os=X.s₀.os
 bare:AllBare s.gens
 base:Un X.fs X.ex X.H₀ H X.s₀.heap s.heap
 loc:∃m,s.heap.Ns X.env.locals m/\∀(i:Nat) (x:Str) (v:V),X.N[i]?=some x->Z[i]?=some (some v)->Vis X.env.scope x->∃u,RelV v u/\Look X.env s.heap m x u
 cell:∀x c,X.env.cells.lookup x=some c->∃v,s.heap.IsCell c v
 free:H X.env.locals=none
 freeC:∀x c,X.env.cells.lookup x=some c->H c=none
 pin:∀p∈X.pn++pins,s.heap.get? p.1=some p.2/\H p.1=none/\p.1≠X.env.locals/\p.1∉X.fs/\∀v,p.2.data≠.cell v
 hok:HOk X.prog X.w H s.heap
 len:Z.length=X.N.length
section
variable {X:Cx}{pins:List (Addr × Obj)}
def Cx.Ok.nofr (c:X.Ok) (e:X.base.get? b=some o):b∉X.fs:=fun a=>by
 have:=(c.funs.mem a).1;rw[e] at this;cases this
def Inv.bs (I:Inv X pins Z H s):∀b o,X.base.get? b=some o->s.heap.get? b=some o/\H b=none:=fun b o e =>
 ⟨I.base.keep b o (I.ok.bs b o e).1 (I.ok.bs b o e).2 (I.ok.nofr e) (I.ok.noex b o e),I.base.free b o (I.ok.bs b o e).1 (I.ok.bs b o e).2 (I.ok.noex b o e)⟩
def Inv.bk (I:Inv X pins Z H s):∀b o,X.base.get? b=some o->s.heap.get? b=some o:=fun b o e=>(I.bs b o e).1
def Inv.mod (I:Inv X pins Z H s):Mod X.K X.mg X.base:=I.ok.mod
def Inv.kIn (I:Inv X pins Z H s):X.K.In s.heap:=I.ok.mod.kin.keeps I.bk
def Inv.lt (I:Inv X pins Z H s):X.env.locals<s.heap.objs.size:=let ⟨_,hn,_⟩:=I.loc;hn.lt
def Inv.sz (I:Inv X pins Z H s):X.s₀.heap.objs.size<=s.heap.objs.size:=P_ I.ok.above (aaw I.lt)
def Inv.nofs (I:Inv X pins Z H s) {a:Addr}(h:s.heap.objs.size<=a):a∉X.fs:=fun b=>by
 obtain⟨_,o,c,_⟩:=I.ok.funs.mem b;exact absurd (J_ (m_ c) (P_ I.sz h)) (Zm _)
def Inv.cne (I:Inv X pins Z H s):∀x c,X.env.cells.lookup x=some c->c≠X.env.locals:=fun x c e z=>by
 obtain⟨v,o,d,f⟩:=I.cell x c e;obtain⟨m,⟨g,h,ep,b,a,_⟩,_⟩:=I.loc;rw[z,b] at d;cases d;rw[a] at f;cases f
def Inv.funs (I:Inv X pins Z H s):s.heap.FunFrames X.base X.outer:=by
 have f:∀(l:List Env),(∀b∈frs l,b∈X.fs)->X.s₀.heap.FunFrames X.base l->s.heap.FunFrames X.base l:=by
  intro l;induction l with
  |nil=>intro _ _;trivial
  |cons env r k =>
  intro g j;obtain ⟨i,⟨L,o,d,n,h,p⟩,m⟩:=j;have c : L ∈ X.fs:=g L (by unfold frs; rw [abo,d]; exact l_);obtain ⟨q,e⟩:=I.base.slot L o h (I.ok.frf L c) c fun z => I.ok.exfs L z c;exact ⟨i,⟨L,_,d,n,e,p⟩,k (fun b a => g b (by unfold frs; rw [abo,d]; exact o_ _ a)) m⟩
 exact f X.outer (fun _ a=>a) I.ok.funs
def Inv.stack (I:Inv X pins Z H s):s.heap.FunFrames X.base X.stack:=by
 rcases I.ok.stk with e | ⟨e,b⟩
 ·rw[e];exact I.funs
 rw[e];obtain⟨m,a,_⟩:=I.loc;refine .cons (by rw[I.ok.kind];decide) b a ?_ I.funs;exact Heap.get?_none_of_le (P_ I.ok.bsz I.ok.above)
def Inv.stkSub (I:Inv X pins Z H s):∀b∈frs X.stack,b∈X.env.locals::X.fs:=fun b a=>by
 rcases I.ok.stk with e | ⟨e,c⟩
 ·rw[e] at a;exact o_ _ a
 rw [e] at a;unfold frs at a;rw [abo,c] at a;exact a
def Inv.stkFree (I:Inv X pins Z H s):∀b∈frs X.stack,H b=none:=fun b a=>by
 rcases n_.mp (I.stkSub b a) with e | a
 ·rw[e];exact I.free
 obtain⟨_,o,c,_⟩:=I.ok.funs.mem a;exact I.base.free b o c (I.ok.frf b a) fun z=>I.ok.exfs b z a
def Inv.step {ch:List Addr} (I:Inv X pins Z H s) (t:∀b∈ch,(b∈X.ex\/X.s₀.heap.objs.size<=b)/\b≠X.env.locals/\(∀x c,X.env.cells.lookup x=some c->c≠b)/\∀p∈X.pn++pins,p.1≠b) (j:∀b o,b≠X.env.locals->b∉X.fs->b∉ch->s.heap.get? b=some o->H b=none->h'.get? b=some o) (B:∀b o,b≠X.env.locals->b∈X.fs->b∉ch->s.heap.get? b=some o->H b=none->∃Q,h'.get? b=some { o with slots:=Q}) (f:∀b o,b∉ch->s.heap.get? b=some o->H b=none->H' b=none) (C:∀b o,b∉ch->s.heap.get? b=some o->∃K,h'.get? b=some K) (G:∀b xs,H b=some (.tup xs)->H' b=some (.tup xs)) (F:∀b o u,H b=some (.frz o u)->H' b=some (.frz o u)) (L:∀b ps,H b=some (.tbl ps)->∃more,H' b=some (.tbl (ps++more))) (ns:∀m,s.heap.Ns X.env.locals m->h'.Ns X.env.locals m) (N:HOk X.prog X.w H' h') (V:AllBare g'):
  Inv X pins Z H' { s with heap:=h',gens:=g',drawn:=d',toks:=t'}:=by
 have M:∀b o,X.s₀.heap.get? b=some o->b≠X.env.locals:=fun b o e=>G_ (J_ (m_ e) I.ok.above);have y:∀b o,X.s₀.heap.get? b=some o->b∉X.ex->b∉ch:=fun b o e a D=>by
  rcases (t b D).1 with z | z
  ·exact a z
  exact absurd (J_ (m_ e) z) (Zm _)
 have h:∀x c,X.env.cells.lookup x=some c->∀v,s.heap.IsCell c v->h'.IsCell c v:=fun x c e v ⟨o,E,P⟩=>by
  have g:c∉ch:=fun z=>(t c z).2.2.1 x c e rfl;by_cases T:c∈X.fs
  ·obtain⟨Q,q⟩:=B c o (I.cne x c e) T g E (I.freeC x c e);exact⟨_,q,P⟩
  exact⟨o,j c o (I.cne x c e) T g E (I.freeC x c e),P⟩
 refine⟨I.ok,I.os,V,⟨fun b o e n D a=>?_,fun b o e n D a=>?_,fun b o e n a=>?_,fun b o e a=>?_,fun b xs e=>G b xs (I.base.tups b xs e),fun b o xs e=>F b o xs (I.base.frzs b o xs e),fun b ps e=>?_⟩,?_,fun x c e=>?_,?_,fun x c e=>?_,fun p U=>?_,N,I.len⟩
 ·exact j b o (M b o e) D (y b o e a) (I.base.keep b o e n D a) (I.base.free b o e n a)
 ·obtain⟨Q,A⟩:=I.base.slot b o e n D a;obtain⟨O,J⟩:=B b _ (M b o e) D (y b o e a) A (I.base.free b o e n a);exact⟨O,J⟩
 ·obtain⟨K,A⟩:=I.base.there b o e a;exact f b K (y b o e a) A (I.base.free b o e n a)
 ·obtain⟨K,A⟩:=I.base.there b o e a;exact C b K (y b o e a) A
 ·obtain⟨m1,A⟩:=I.base.tbls b ps e;obtain⟨Y,J⟩:=L b _ A;exact⟨m1++Y,by rw[J,Array.append_assoc]⟩
 ·obtain⟨m,hn,W⟩:=I.loc;refine⟨m,ns m hn,fun i x v A J e3=>?_⟩;obtain⟨u,r,l⟩:=W i x v A J e3;refine⟨u,r,?_⟩;rcases l with l | ⟨k,c,e,z⟩
  ·exact .inl l
  exact .inr ⟨k,c,e,h x c e _ z⟩
 ·obtain⟨v,z⟩:=I.cell x c e;exact⟨v,h x c e v z⟩
 ·obtain⟨m,⟨o,_,_,E,_⟩,_⟩:=I.loc;exact f _ o (fun z=>(t _ z).2.1 rfl) E I.free
 ·obtain⟨v,o,E,P⟩:=I.cell x c e;exact f c o (fun z=>(t c z).2.2.1 x c e rfl) E (I.freeC x c e)
 obtain⟨e,n,S,R,d⟩:=I.pin p U;have g:p.1∉ch:=fun z=>(t p.1 z).2.2.2 p U rfl;exact⟨j p.1 p.2 S R g e n,f p.1 p.2 g e n,S,R,d⟩
def Inv.un (I:Inv X pins Z H s) (u:Un X.fs [] H H' s.heap h') (d:HOk X.prog X.w H' h'):Inv X pins Z H' { s with heap:=h',toks:=t'}:=by
 obtain⟨m,⟨o,t,ep,h,r⟩,_⟩:=id I.loc;obtain⟨l,j⟩:=u.any h I.free (by simp);exact I.step (g':=s.gens) (d':=s.drawn) (ch:=[]) (fun _ z=>nomatch z) (fun b o _ c _ e n=>u.keep b o e n c (by simp)) (fun b o _ c _ e n=>u.slot b o e n c (by simp)) (fun b o _ e n=>u.free b o e n (by simp)) (fun b o _ e=>u.there b o e (by simp)) u.tups u.frzs u.tbls (fun q k=>by
  obtain⟨p,g,f,a,i⟩:=k
  rw[h] at a;cases a
  exact⟨_,g,f,j,i⟩) d I.bare
def Inv.call (I:Inv X pins Z H s) (u:Un (frs X.stack) ch H H' s.heap h') (h:HOk X.prog X.w H' h') (l:AllBare g') (d:∀b∈ch,(b∈X.ex\/X.s₀.heap.objs.size<=b)/\b≠X.env.locals/\(∀x c,X.env.cells.lookup x=some c->c≠b)/\∀p∈X.pn++pins,p.1≠b):
  Inv X pins Z H' { s with heap:=h',gens:=g',drawn:=d',toks:=t'}:=by
 obtain⟨m,⟨o,C,ep,k,r⟩,_⟩:=id I.loc;obtain⟨y,g⟩:=u.any k I.free fun z=>(d _ z).2.1 rfl;exact I.step (ch:=ch) d (fun b o g q a e n=>u.keep b o e n (fun z=>(n_.mp (I.stkSub b z)).elim g q) a) (fun b o _ _ a e n=>u.any e n a) (fun b o a e n=>u.free b o e n a) (fun b o a e=>u.there b o e a) u.tups u.frzs u.tbls (fun B v=>by
  obtain⟨A,j,i,f,t⟩:=v
  rw[k] at f;cases f
  exact⟨_,j,i,g,t⟩) h l
def Inv.turned (I:Inv X pins Z H s) (k:∀b o,b≠it->s.heap.get? b=some o->h'.get? b=some o) (w:H it=none) (f:it≠X.env.locals) (y:it∈X.ex\/X.s₀.heap.objs.size<=it) (i:∀x c,X.env.cells.lookup x=some c->c≠it) (j:∀p∈X.pn++pins,p.1≠it):Inv X pins Z H { s with heap:=h',toks:=t'}:=by
 have d:∀b u,H b=some u->b≠it:=fun b u e z=>by rw[z,w] at e;cases e
 refine I.step (g':=s.gens) (d':=s.drawn) (ch:=[it]) (fun b g=>?_) (fun b o _ _ a e _=>k b o (fun z=>a (by simp [z])) e) (fun b o _ _ a e _=>⟨o.slots,k b o (fun z=>a (by simp [z])) e⟩) (fun _ _ _ _ n=>n)
  (fun b o a e=>⟨o,k b o (fun z=>a (by simp [z])) e⟩) (fun _ _ e=>e) (fun _ _ _ e=>e) (fun b ps e=>⟨#[],by rw[e];simp⟩) (fun m l=>?_) (fun b u e=>?_) I.bare
 ·have e:b=it:=by simpa using g
  subst e;exact⟨y,f,i,j⟩
 ·obtain⟨o,t,ep,h,r⟩:=l;exact⟨o,t,ep,k _ o (Ne.symm f) h,r⟩
 refine (I.hok b u e).stay (fun c v a q=>k c v ?_ q) (fun _ q=>q) fun _ _ q=>q;rcases a with z | z
 ·rw[z];exact d b u e
 exact d c _ z
def Inv.tok (I:Inv X pins Z H s) (t:Nat):Inv X pins Z H { s with toks:=t}:=I.un (h':=s.heap) (t':=t) Un.refl I.hok
def Inv.kept (I:Inv X pins Z H s) (k:∀b u,s.heap.get? b=some u->h'.get? b=some u):Inv X pins Z H { s with heap:=h',toks:=t'}:=I.un (Un.kept k) (I.hok.kept k)
def Inv.laid {a:Addr} (I:Inv X pins Z H s) (k:∀b u,s.heap.get? b=some u->h'.get? b=some u) (c:s.heap.objs.size<=a) (d:vy X.prog X.w (upd H a o) h' a o):
  Inv X pins Z (upd H a o) { s with heap:=h',toks:=t'}:=I.un (Un.laid k c (I.hok.fresh c)) (I.hok.laid k c d)
def Inv.write (I:Inv X pins Z H s) (mu:Mut (H x)) (d:e=x\/H e=some (.own x)) (k:∀b u,b≠e->s.heap.get? b=some u->h'.get? b=some u) (a:∃u,h'.get? e=some u) (c:vy X.prog X.w (upd H x o) h' x o):Inv X pins Z (upd H x o) { s with heap:=h',toks:=t'}:=I.un (Un.write mu d k a) (I.hok.write mu d k a c)
def Inv.pins_of (I:Inv X pins Z H s) (h:∀p∈pins',s.heap.get? p.1=some p.2/\H p.1=none/\p.1≠X.env.locals/\p.1∉X.fs/\∀v,p.2.data≠.cell v):Inv X pins' Z H s :=
 ⟨I.ok,I.os,I.bare,I.base,I.loc,I.cell,I.free,I.freeC,fun p a=>(F_.mp a).elim (fun z=>I.pin p (Zo _ z)) (h p),I.hok,I.len⟩
def rK {N:List Str} (e:N.Nodup) {i j:Nat} (a:N[i]?=some x) (b:N[j]?=some x):i=j:=by
 obtain⟨g,d⟩:=ZC.mp a;obtain⟨f,c⟩:=ZC.mp b;exact (List.getElem_inj e).mp (d.trans c.symm)
def oJ (I:Inv X pins Z H s) (hN:X.N.Nodup) (P:X.N[i]?=some x) (B:Loc X.env.scope x) (r:RelV v u) (h:∀s',Inv X pins (Z.set i (some v)) H s'->(∃a,Heap.SameBut a s.heap s'.heap/\(a=X.env.locals\/X.env.cells.lookup x=some a))->Q () s') (hf:X.fn x=true\/X.env.scope.names.lookup x=some .local:=by first | exact .inl rfl | exact .inr rfl | assumption):wpAny M A (storeName X.env x u) Q E s:=by
 obtain⟨m,hn,hl⟩:=id I.loc;have R:(X.env.scope.kind==.class||(X.env.scope.kind==.module&&X.env.locals != X.env.globals))=false:=by rw[I.ok.kind];rfl
 have T:i<Z.length:=by rw[I.len];exact (ZC.mp P).1
 have J:=I.cne;have g:∀{a:Addr} {h':Heap},(∃o,s.heap.get? a=some o/\H a=none)->Heap.SameBut a s.heap h'->HOk X.prog X.w H h':=fun {a h'} ha f b ob e=>by
  obtain⟨_,_,C⟩:=ha;refine (I.hok b ob e).stay (fun c w' t q=>(f.2 c ?_).trans q) (fun _ q=>q) fun _ _ q=>q;rintro rfl;rcases t with rfl | t
  ·rw[C] at e;cases e
  rw[C] at t;cases t
 rcases B with F | F
 ·refine wpAny_storeName_local F hn (fun h' hn' f=>?_) R;obtain⟨oL,_,_,hoL,_⟩:=id hn;refine h _ ⟨I.ok,I.os,I.bare,⟨fun b o e n K B=>?_,fun b o e n K B=>?_,I.base.free,fun b o e B=>?_,I.base.tups,I.base.frzs,I.base.tbls⟩,⟨_,hn',fun j y v' l D e3=>?_⟩,fun y c e=>?_,I.free,I.freeC,fun p hp=>?_,g ⟨oL,hoL,I.free⟩ f,by simpa using I.len⟩ ⟨_,f,.inl rfl⟩
  ·exact (f.2 b (G_ (J_ (m_ e) I.ok.above))).trans (I.base.keep b o e n K B)
  ·obtain⟨sl,l⟩:=I.base.slot b o e n K B;exact⟨sl,(f.2 b (G_ (J_ (m_ e) I.ok.above))).trans l⟩
  ·obtain⟨o',l⟩:=I.base.there b o e B;exact⟨o',(f.2 b (G_ (J_ (m_ e) I.ok.above))).trans l⟩
  ·by_cases G:j=i
   ·subst G;rw[P] at l;cases l;rw[aa2 T] at D;cases D;exact⟨u,r,.inl ⟨F,by simp⟩⟩
   rw[abe (Ne.symm G)] at D;obtain⟨u',r',q⟩:=hl j y v' l D e3;refine⟨u',r',?_⟩;rcases q with ⟨k,e⟩ | ⟨k,c,e,z⟩
   ·refine .inl ⟨k,?_⟩;have:y≠x:=fun e=>G (rK hN l (e▸P));simp [this,e]
   exact .inr ⟨k,c,e,z.sameBut f (J y c e)⟩
  ·obtain⟨w',z⟩:=I.cell y c e;exact⟨w',z.sameBut f (J y c e)⟩
  obtain⟨e,n,ne,nf,d⟩:=I.pin p hp;exact⟨(f.2 p.1 ne).trans e,n,ne,nf,d⟩
 have L:X.fn x=true:=by
  rcases hf with z | z
  ·exact z
  rw[z] at F;cases F
 obtain⟨c,t⟩:=I.ok.has x (.inl F);obtain⟨w',z⟩:=I.cell x c t;refine wpAny_storeName_cell I.ok.kind F t z (fun h' U f=>?_);obtain⟨oc,O,S⟩:=id z;refine h { s with heap:=h'} ⟨I.ok,I.os,I.bare,⟨fun b o e n K B=>?_,fun b o e n K B=>?_,I.base.free,fun b o e B=>?_,I.base.tups,I.base.frzs,I.base.tbls⟩,⟨m,hn.sameBut f (Ne.symm (J x c t)),fun j y v' l D e3=>?_⟩,fun y Y e=>?_,I.free,I.freeC,fun p hp=>?_,g ⟨oc,O,I.freeC x c t⟩ f,by simpa using I.len⟩ ⟨c,f,.inr t⟩
 ·exact (f.2 b (G_ (J_ (m_ e) (I.ok.cab x c L t)))).trans (I.base.keep b o e n K B)
 ·obtain⟨sl,l⟩:=I.base.slot b o e n K B;exact⟨sl,(f.2 b (G_ (J_ (m_ e) (I.ok.cab x c L t)))).trans l⟩
 ·obtain⟨o',l⟩:=I.base.there b o e B;exact⟨o',(f.2 b (G_ (J_ (m_ e) (I.ok.cab x c L t)))).trans l⟩
 ·by_cases G:j=i
  ·subst G;rw[P] at l;cases l;rw[aa2 T] at D;cases D;exact⟨u,r,.inr ⟨.inl F,c,t,U⟩⟩
  rw[abe (Ne.symm G)] at D;obtain⟨u',r',q⟩:=hl j y v' l D e3;refine⟨u',r',?_⟩;rcases q with q | ⟨k,Y,e,z'⟩
  ·exact .inl q
  refine .inr ⟨k,Y,e,z'.sameBut f ?_⟩;rintro rfl;exact G (rK hN l (I.ok.inj _ _ _ e t▸P))
 ·by_cases W:Y=c
  ·subst W;exact⟨_,U⟩
  obtain⟨w2,z2⟩:=I.cell y Y e;exact⟨w2,z2.sameBut f W⟩
 obtain⟨e,n,ne,nf,d⟩:=I.pin p hp;refine⟨(f.2 p.1 ?_).trans e,n,ne,nf,d⟩;intro q;rw[q,O] at e;have q':oc=p.2:=D_ e;exact d w' (by rw[<- q'];exact S)
def rM (I:Inv X pins Z H s) (e:X.N.Nodup) (a:X.N[i]?=some x) (c:Loc X.env.scope x) (r:RelV v u) (h:∀s',Inv X pins (Z.set i (some v)) H s'->Q () s') (d:X.fn x=true\/X.env.scope.names.lookup x=some .local:=by first | exact .inl rfl | exact .inr rfl | assumption):wpAny M A (storeName X.env x u) Q E s :=
 oJ I e a c r (fun s' b _=>h s' b) d
def Inv.call' (I:Inv X pins Z H s) (g:s'.os=s.os) (u:Un (frs X.stack) ch H H' s.heap s'.heap) (d:HOk X.prog X.w H' s'.heap) (f:AllBare s'.gens) (a:∀b∈ch,(b∈X.ex\/X.s₀.heap.objs.size<=b)/\b≠X.env.locals/\(∀x c,X.env.cells.lookup x=some c->c≠b)/\∀p∈X.pn++pins,p.1≠b):Inv X pins Z H' s':=by
 obtain⟨h',g',d',t',h⟩:=s';have e:h=s.os:=g;subst e;exact I.call (g':=g') (t':=t') (d':=d') u d f a
end
abbrev XK:=Value->Option Addr->Hp->Prop
abbrev St:=List (Option V)
abbrev VK:=V->Hp->Prop
abbrev TE:=St->Hp->VK->Prop
abbrev TT:=St->Hp->(Bool->Hp->Prop)->Prop
abbrev TA:=St->Hp->(List V->Hp->Prop)->Prop
structure Ends where
 nx:St->Hp->Prop
 rt:VK
 bk:St->Hp->Prop:=fun _ _=>False
 ct:St->Hp->Prop:=fun _ _=>False
abbrev TS:=Ends->St->Hp->Prop
def EP (X:Cx) (a:List (Addr × Obj)) (Z:St) (Q:VK) (u:Value) (s':Shared):Prop:=∃v H',Inv X a Z H' s'/\RelV v u/\Q v H'
def TP (X:Cx) (a:List (Addr × Obj)) (Z:St) (Q:Bool->Hp->Prop) (b:Bool) (s':Shared):Prop:=∃H',Inv X a Z H' s'/\Q b H'
def AP (X:Cx) (a:List (Addr × Obj)) (Z:St) (Q:List V->Hp->Prop) (us:List Value) (s':Shared):Prop:=∃vs H',Inv X a Z H' s'/\Vals vs us/\Q vs H'
def SP (X:Cx) (a:List (Addr × Obj)) (D:Ends) (f:Flow) (s':Shared):Prop :=
 match f with
 |.next=>∃b H',Inv X a b H' s'/\D.nx b H'
 |.brk=>∃b H',Inv X a b H' s'/\D.bk b H'
 |.cont=>∃b H',Inv X a b H' s'/\D.ct b H'
 |.ret u=>∃v b H',Inv X a b H' s'/\RelV v u/\D.rt v H'
def PE (X:Cx) (e:Expr) (t:TE):Prop :=
 ∀(a:List (Addr × Obj)) (s:Shared) (Z:St) (H:Hp) (Q:VK),Inv X a Z H s->t Z H Q->wpAny (model X.prog X.w) X.A (eval e X.env) (EP X a Z Q) X.xe s
def PT (X:Cx) (e:Expr) (t:TT):Prop :=
 ∀(a:List (Addr × Obj)) (s:Shared) (Z:St) (H:Hp) (Q:Bool->Hp->Prop),Inv X a Z H s->t Z H Q->wpAny (model X.prog X.w) X.A (isTrue e X.env (eval e X.env)) (TP X a Z Q) X.xe s
def PW (X:Cx) (e:Expr) (t:TT):Prop :=
 ∀(b:Sem Value) (a:List (Addr × Obj)) (s:Shared) (Z:St) (H:Hp) (Q:Bool->Hp->Prop),Inv X a Z H s->t Z H Q->wpAny (model X.prog X.w) X.A (isTrue e X.env b) (TP X a Z Q) X.xe s
def PW.pt (h:PW X e t):PT X e t:=h _
def PA (X:Cx) (c:List Expr) (t:TA):Prop :=
 ∀(b:Pos) (a:List (Addr × Obj)) (s:Shared) (Z:St) (H:Hp) (Q:List V->Hp->Prop),Inv X a Z H s->t Z H Q->wpAny (model X.prog X.w) X.A (spliced (backTo b (starEach c X.env))) (AP X a Z Q) X.xe s
def PS (X:Cx) (st:Stmt) (t:TS):Prop :=
 ∀(a:List (Addr × Obj)) (s:Shared) (Z:St) (H:Hp) (D:Ends),Inv X a Z H s->t D Z H->wpAny (model X.prog X.w) X.A (exec st X.env) (SP X a D) X.xe s
def PSs (X:Cx) (st:List Stmt) (t:TS):Prop :=
 ∀(a:List (Addr × Obj)) (s:Shared) (Z:St) (H:Hp) (D:Ends),Inv X a Z H s->t D Z H->wpAny (model X.prog X.w) X.A (execs st X.env) (SP X a D) X.xe s
def Fl {t:Sem c}{Q b:c->Shared->Prop} (h:wpAny M A t Q E s) (d:∀a s,Q a s->b a s):wpAny M A t b E s:=ZX h d fun _ _ x=>x
section
variable {X:Cx}
def Ub (i:Nat):TE:=fun Z H Q=>∃v,Z[i]?=some (some v)/\Q v H
def tC (v:V):TE:=fun _ H Q=>Q v H
def O1 {k:Pos} (t:X.N[i]?=some x) (o:Vis X.env.scope x) (j:(x==("__debug__":Str))=false:=by decide) (g:(x==("__classdict__":Str))=false:=by decide):PE X (.Name x k) (Ub i):=by
 intro f s Z H Q I h;obtain⟨v,e,h⟩:=h;obtain⟨m,w,p⟩:=I.loc;obtain⟨u,r,l⟩:=p i x v t e o;have d:EP X f Z Q u s:=⟨v,H,I,r,h⟩;rcases l with ⟨b,q⟩ | ⟨b,c,n,a⟩
 ·exact wpAny_Name (wpAny_loadName_local I.ok.kind b w q d) j
 rcases b with b | b
 ·exact wpAny_Name (wpAny_loadName_cell I.ok.kind b n a d) j
 exact wpAny_Name (wpAny_loadName_free I.ok.kind b n a d g) j
def O2:PE X (.Constant (.int i) j pos) (tC (.int i)):=fun _ _ _ H _ I h=>wpAny_Constant_int ⟨.int i,H,I.tok _,⟨_,rfl⟩,h⟩
def Uc:PE X (.Constant (.bool b) j pos) (tC (.bl b)):=fun _ _ _ H _ I h=>Constant_bool ⟨.bl b,H,I,rfl,h⟩
def O4:PE X (.Constant .none j pos) (tC .non):=fun _ _ _ H _ I h=>Constant_none ⟨.non,H,I,rfl,h⟩
def O5:PE X (.Constant (.str x) j pos) (tC (.str x)):=fun _ _ _ H _ I h=>Calls.Constant_str ⟨.str x,H,I.tok _,⟨_,rfl⟩,h⟩
def Gl (X:Cx) (x:Str):Prop:=X.env.kindOf x=some .globalImplicit
def iD {Z:St} (I:Inv X a Z H s) (c:Gl X x) (d:X.mg x=some u) (h:Q u s) (e:(x==("__debug__":Str))=false:=by decide):wpAny (model X.prog X.w) X.A (eval (.Name x b) X.env) Q E s :=
 Calls.Name_function_global I.ok.kind c (Calls.loadGlobal_global (by rw[I.ok.glob];exact I.mod.glob.keeps I.bk) d h) e
def dB {E:Value->Shared->Prop}{Z:St}{b:Pos} (I:Inv X a Z H s) (d:Gl X x) (f:X.mg x=none) (c:bootBuiltins x=some u) (h:Q u s) (g:x≠"__name__":=by decide) (i:(x==("__debug__":Str))=false:=by decide):wpAny (model X.prog X.w) X.A (eval (.Name x b) X.env) Q E s:=by
 obtain⟨k,j,e⟩:=I.mod.blt;exact Calls.Name_function_global I.ok.kind d (Calls.loadGlobal_builtin (by rw[I.ok.glob];exact I.mod.glob.keeps I.bk) f (by rw[I.ok.blt];exact j.keeps I.bk) ((e x g).trans c) h) i
def Ib {a:Pos} (c:Gl X x) (d:X.mg x=none) (b:bootBuiltins x=some u) (r:RelV v u) (e:x≠"__name__":=by decide) (f:(x==("__debug__":Str))=false:=by decide):PE X (.Name x a) (tC v) :=
 fun _ _ _ H _ I h=>dB I c d b ⟨v,H,I,r,h⟩ e f
variable {ta tb:TE}
def PC (X:Cx) (f:CmpOp) (a b:Expr) (t:TE):Prop :=
 ∀(c:List (Addr × Obj)) (s:Shared) (Z:St) (H:Hp) (Q:VK),Inv X c Z H s->t Z H Q ->
  wpAny (model X.prog X.w) X.A (eval a X.env) (fun v e=>wpAny (model X.prog X.w) X.A (eval b X.env) (fun u d=>wpAny (model X.prog X.w) X.A (compareOp f v u) (EP X c Z Q) X.xe d) X.xe e) X.xe s
def Bu (b:Expr) {a:CmpOp}(h:a≠.In) (e:a≠.NotIn):behindInMarks a b=false:=by
 have d:(a==CmpOp.In)=false:=by cases a <;> first | rfl | exact absurd rfl h
 have c:(a==CmpOp.NotIn)=false:=by cases a <;> first | rfl | exact absurd rfl e
 cases b <;> simp [behindInMarks,d,c]
def tB (t:TE):TT:=fun Z H Q=>t Z H fun x a=>∃c,x=.bl c/\Q c a
def vo (h:PC X f a b t) (g:behindInMarks f b=false:=by first | exact Bu _ (by decide) (by decide) | rfl):PT X (.Compare a [f] [b] pos) (tB t):=by
 intro e s Z H Q I j;refine wpAny_isTrue_Compare1 (Fl (h e s Z H _ I j) fun v p g=>Fl g fun u o l=>Fl l fun c r ⟨x,i,m,n,k⟩=>?_) g;obtain⟨d,rfl,q⟩:=k;cases n;exact abf ⟨i,m,q⟩
def O6 (h:PE X e t) (c:∀whole,isTrue e X.env whole=(do let v <- whole;standAt e.pos;holding [v] (truthy v)):=by intro _;rfl):PT X e (tB t):=by
 intro a s Z H Q I f;refine isTrue_plain (Fl (h a s Z H _ I f) fun v k ⟨x,b,i,j,g⟩=>?_) (c _);obtain⟨d,rfl,q⟩:=g;cases j;exact abf ⟨b,i,q⟩
variable {rest:List Expr}
def X3 (t u:TT):TT:=fun Z H Q=>t Z H fun c a=>if c=true then u Z a Q else Q false a
def tOr (t u:TT):TT:=fun Z H Q=>t Z H fun c a=>if c=true then Q true a else u Z a Q
def X4 (t:TT):TT:=fun Z H Q=>t Z H fun c a=>Q (!c) a
def Ie (d:PT X a tA):PW X (.BoolOp .And [a] pos) tA:=by
 intro f b s Z H Q I h;refine isTrue_and (Fl (d b s Z H Q I h) fun c g e=>?_);cases c with
 |true=>exact isTrue_and_nil e
 |false=>exact e
def O7 (d:PT X a tA):PW X (.BoolOp .Or [a] pos) tA:=by
 intro f b s Z H Q I h;refine isTrue_or (Fl (d b s Z H Q I h) fun c g e=>?_);cases c with
 |false=>exact isTrue_or_nil e
 |true=>exact e
def O8 (j:PT X a tA) (k:PW X (.BoolOp .And (b::rest) pos) tB'):PW X (.BoolOp .And (a::b::rest) pos) (X3 tA tB'):=by
 intro l d s Z H Q I h;refine isTrue_and (Fl (j d s Z H _ I h) fun c i ⟨e,g,f⟩=>?_);cases c with
 |true=>exact k l d i Z e Q g f
 |false=>exact⟨e,g,f⟩
def Ud (j:PT X a tA) (k:PW X (.BoolOp .Or (b::rest) pos) tB'):PW X (.BoolOp .Or (a::b::rest) pos) (tOr tA tB'):=by
 intro l d s Z H Q I h;refine isTrue_or (Fl (j d s Z H _ I h) fun c i ⟨e,g,f⟩=>?_);cases c with
 |true=>exact⟨e,g,f⟩
 |false=>exact k l d i Z e Q g f
def O9 (d:PT X a tA):PT X (.UnaryOp .Not a pos) (X4 tA):=by
 intro b s Z H Q I h;exact isTrue_not (d b s Z H (fun c e=>Q (!c) e) I h)
def Ue (b tb:TE):TE:=fun Z H Q=>b Z H fun x a=>∃c,x=.bl c/\if c=true then tb Z a Q else Q (.bl false) a
def X5 (b tb:TE):TE:=fun Z H Q=>b Z H fun x a=>∃c,x=.bl c/\if c=true then Q (.bl true) a else tb Z a Q
def Pa (h:PE X a t):PE X (.BoolOp op [a] pos) t:=fun b s Z H Q I c=>BoolOp_one (h b s Z H Q I c)
def Pb (j:PE X a ta) (k:PE X (.BoolOp .And (b::rest) pos) tb):PE X (.BoolOp .And (a::b::rest) pos) (Ue ta tb):=by
 intro d s Z H Q I h;refine BoolOp_and (Fl (j d s Z H _ I h) fun v i ⟨x,f,g,l,e⟩=>?_);obtain⟨c,rfl,e⟩:=e;cases l;refine abf ?_;cases c with
 |true=>exact k d i Z f Q g e
 |false=>exact⟨.bl false,f,g,rfl,e⟩
def Ug (j:PE X a ta) (k:PE X (.BoolOp .Or (b::rest) pos) tb):PE X (.BoolOp .Or (a::b::rest) pos) (X5 ta tb):=by
 intro d s Z H Q I h;refine BoolOp_or (Fl (j d s Z H _ I h) fun v i ⟨x,f,g,l,e⟩=>?_);obtain⟨c,rfl,e⟩:=e;cases l;refine abf ?_;cases c with
 |false=>exact k d i Z f Q g e
 |true=>exact⟨.bl true,f,g,rfl,e⟩
end
def SqL (K:Frag) (H:Hp) (a:Addr) (xs:List V):Prop :=
 Rd H a (.lst xs) \/
  ∃(o:Obj) (b:Array Value) (n:Nat),K.lookup a=some o/\o.cls=.type "list"/\o.dict=none/\o.data=.seq b n/\b.size<=sizeLine/\Vals xs b.toList
def SqT (K:Frag) (H:Hp) (a:Addr) (xs:List V):Prop :=
 Rd H a (.tup xs) \/
  ∃(o:Obj) (b:Array Value) (n:Nat),K.lookup a=some o/\o.cls=.type "tuple"/\o.dict=none/\o.data=.seq b n/\b.size<=sizeLine/\Vals xs b.toList
def X6:Value->Option V
 |.none=>some .non
 |.bool b=>some (.bl b)
 |.int i _=>some (.int i)
 |.str x _=>some (.str x)
 |.bytes b _=>some (.byt b)
 |.float b _=>some (.flt b)
 |.ref a=>some (.ref a)
 |.type n=>some (.ty n)
 |_=>none
def RelV.abs (r:RelV x u):X6 u=some x:=by
 cases x with
 |non=>cases r;rfl
 |bl _=>cases r;rfl
 |int _=>obtain⟨t,rfl⟩:=r;rfl
 |str _=>obtain⟨t,rfl⟩:=r;rfl
 |byt _=>obtain⟨t,rfl⟩:=r;rfl
 |flt _=>obtain⟨t,rfl⟩:=r;rfl
 |ref _=>cases r;rfl
 |ty _=>cases r;rfl
def RelV.inj (r:RelV x u) (q:RelV y u):x=y:=D_ (r.abs.symm.trans q.abs)
def Vals.inj (h:Vals xs us) (h':Vals ys us):xs=ys:=by
 induction h generalizing ys with
 |nil=>cases h';rfl
 |cons r t a =>
 cases h' with
 |cons b t'=>rw[r.inj b,a t']
section
variable {X:Cx}{pins:List (Addr × Obj)}{Z:St}
def SqL.of {K:Frag}(h:H a=some (.lst xs)):SqL K H a xs:=.inl (.inl h)
def SqT.of {K:Frag}(h:H a=some (.tup xs)):SqT K H a xs:=.inl (.inl h)
def Inv.list (I:Inv X pins Z H s) (h:SqL X.K H a xs):∃b:List Value,Vals xs b/\PlainL s.heap a b.toArray/\xs.length<=sizeLine:=by
 rcases h with h | ⟨o,b,n,d,c,g,f,i,r⟩
 ·obtain⟨z,b,n,r,e⟩:=h.ok I.hok;exact⟨b,r,⟨_,n,e,rfl,rfl,rfl⟩,z⟩
 refine⟨b.toList,r,⟨o,n,I.kIn a o d,c,g,by simpa using f⟩,?_⟩;have e:=r.length;simp only[aa1] at e;omega
def Inv.tuple (I:Inv X pins Z H s) (h:SqT X.K H a xs):∃b:List Value,Vals xs b/\IsTup s.heap a b.toArray/\xs.length<=sizeLine:=by
 rcases h with h | ⟨o,b,n,d,c,_,f,g,r⟩
 ·obtain⟨z,b,r,p⟩:=h.ok I.hok;exact⟨b,r,p.is,z⟩
 refine⟨b.toList,r,⟨o,I.kIn a o d,c,n,by simpa using f⟩,?_⟩;have e:=r.length;simp only[aa1] at e;omega
def Inv.list_inj (I:Inv X pins Z H s) (h:SqL X.K H a xs) (h':SqL X.K H a ys):xs=ys:=by
 obtain⟨b,r,⟨o,n,e,_,_,d⟩,_⟩:=I.list h;obtain⟨its',f,⟨g,i,c,_,_,d'⟩,_⟩:=I.list h';rw[e] at c;cases c;rw[d] at d';injection d' with d1 _;have:b=its':=by simpa using Zk Array.toList d1
 subst this;exact r.inj f
def Inv.tuple_inj (I:Inv X pins Z H s) (h:SqT X.K H a xs) (h':SqT X.K H a ys):xs=ys:=by
 obtain⟨b,r,⟨o,e,_,n,d⟩,_⟩:=I.tuple h;obtain⟨its',f,⟨g,c,_,i,d'⟩,_⟩:=I.tuple h';rw[e] at c;cases c;rw[d] at d';injection d' with d1 _;have:b=its':=by simpa using Zk Array.toList d1
 subst this;exact r.inj f
end
abbrev Cx.wish (X:Cx) (E:Value->Shared->Prop):Cx:={ X with xe:=E}
abbrev Cx.nox (X:Cx):Cx:=X.wish fun _ _=>False
def Cx.Ok.wish {X:Cx}(a:X.Ok) (E:Value->Shared->Prop):(X.wish E).Ok :=
 ⟨a.mod,a.kind,a.glob,a.blt,a.above,a.inj,a.has,a.cab,a.hd,a.frames,a.stk,a.exf,a.bs,a.bsz,a.noex,a.exfs,a.funs,a.frf⟩
def Cx.Ok.unwish {X:Cx} (a:(X.wish E).Ok):X.Ok :=
 ⟨a.mod,a.kind,a.glob,a.blt,a.above,a.inj,a.has,a.cab,a.hd,a.frames,a.stk,a.exf,a.bs,a.bsz,a.noex,a.exfs,a.funs,a.frf⟩
section
variable {X:Cx}{pins:List (Addr × Obj)}{Z:St}
def Inv.wish (I:Inv X pins Z H s) (E:Value->Shared->Prop):Inv (X.wish E) pins Z H s:=⟨I.ok.wish E,I.os,I.bare,I.base,I.loc,I.cell,I.free,I.freeC,I.pin,I.hok,I.len⟩
def Inv.unwish (I:Inv (X.wish E) pins Z H s):Inv X pins Z H s:=⟨I.ok.unwish,I.os,I.bare,I.base,I.loc,I.cell,I.free,I.freeC,I.pin,I.hok,I.len⟩
def SP.unwish (h:SP (X.wish E) pins D f s'):SP X pins D f s':=by
 cases f with
 |next=>obtain⟨a,H',I,q⟩:=h;exact⟨a,H',I.unwish,q⟩
 |brk=>obtain⟨a,H',I,q⟩:=h;exact⟨a,H',I.unwish,q⟩
 |cont=>obtain⟨a,H',I,q⟩:=h;exact⟨a,H',I.unwish,q⟩
 |ret u=>obtain⟨v,a,H',I,r,q⟩:=h;exact⟨v,a,H',I.unwish,r,q⟩
def PSs.nox {st:List Stmt} (h:PSs X.nox st t):PSs X st t:=fun a s Z H D I b =>
 ZX (h a s Z H D (I.wish _) b) (fun _ _ q=>q.unwish) fun _ _ z=>False.elim z
variable {st:Stmt}{rest:List Stmt}{t u:TS}
def Uh:TS:=fun D Z H=>D.nx Z H
def X7 (t u:TS):TS:=fun D Z H=>t { D with nx:=u D} Z H
def Ig:PSs X [] Uh:=fun _ _ Z H _ I h=>abS ⟨Z,H,I,h⟩
def rN (h1:PS X st t) (e:PSs X rest u):PSs X (st::rest) (X7 t u):=by
 intro a s Z H D I h;refine wpAny_execs_cons (Fl (h1 a s Z H { D with nx:=u D} I h) fun f c q=>?_);cases f with
 |next=>obtain⟨b,H',d,q⟩:=q;exact e a c b H' D d q
 |ret v=>exact q
 |brk=>exact q
 |cont=>exact q
def xK (b:PS X st t):PSs X [st] t:=by
 intro a s Z H D I h;refine wpAny_execs_cons (Fl (b a s Z H D I h) fun f c q=>?_);cases f with
 |next=>exact abS q
 |ret v=>exact q
 |brk=>exact q
 |cont=>exact q
def Inv.quiet (I:Inv X a Z H s):interactive X.env=false:=by simp [interactive,I.ok.kind]
def Ui (te:TE):TS:=fun D Z H=>te Z H fun _ a=>D.nx Z a
def Ih (c:PE X e te) (f:swapsWith e none pos.line X.env=pure false:=by rfl):PS X (.Expr e pos) (Ui te):=by
 intro a s Z H D I h;exact wpAny_Expr_any (Fl (c a s Z H _ I h) fun v i ⟨x,b,g,j,d⟩=>⟨Z,b,g,d⟩) I.quiet f
def X8 (te:TE):TS:=fun D Z H=>te Z H D.rt
def Pg (c:PE X e te):PS X (.Return (some e) pos) (X8 te):=by
 intro a s Z H D I h;exact wpAny_Return_some (Fl (c a s Z H _ I h) fun v i ⟨x,b,f,g,d⟩=>⟨x,Z,b,f,g,d⟩)
def Yb (c:TT) (t u:TS):TS:=fun D Z H=>c Z H fun b a=>if b=true then t D Z a else u D Z a
def Uj (l:PT X c i) (n:PSs X a t) (m:PSs X b u):PS X (.If c a b pos) (Yb i t u):=by
 intro e s Z H D I h;refine wpAny_If (Fl (l e s Z H _ I h) fun d g ⟨f,k,j⟩=>?_);cases d with
 |true=>exact n e g Z f D k j
 |false=>exact m e g Z f D k j
end
abbrev TG:=V->St->Hp->(St->Hp->Prop)->Prop
abbrev TGs:=List V->St->Hp->(St->Hp->Prop)->Prop
def PG (X:Cx) (a:Expr) (t:TG):Prop :=
 ∀(b:List (Addr × Obj)) (s:Shared) (Z:St) (H:Hp) (v:V) (u:Value) (Q:St->Hp->Prop),Inv X b Z H s->RelV v u->t v Z H Q ->
  wpAny (model X.prog X.w) X.A (assign a X.env u) (fun _ s'=>∃c H',Inv X b c H' s'/\Q c H') X.xe s
def PGs (X:Cx) (ts:List Expr) (t:TGs):Prop :=
 ∀(a:List (Addr × Obj)) (s:Shared) (Z:St) (H:Hp) (vs:List V) (us:List Value) (Q:St->Hp->Prop),Inv X a Z H s->Vals vs us->t vs Z H Q ->
  wpAny (model X.prog X.w) X.A (assignInOrder ((assignEach ts X.env).map (·.2)) us) (fun _ s'=>∃b H',Inv X a b H' s'/\Q b H') X.xe s
abbrev Bv:=V->V->V->Hp->(Hp->Prop)->Prop
def adU (X:Cx) (t:Bv):Prop :=
 ∀(a:List (Addr × Obj)) (s:Shared) (Z:St) (H:Hp) (o i v:V) (c b u:Value) (Q:Hp->Prop),Inv X a Z H s->RelV o c->RelV i b->RelV v u->t o i v H Q ->
  wpAny (model X.prog X.w) X.A (setItem c b u) (fun _ s'=>∃H',Inv X a Z H' s'/\Q H') X.xe s
section
variable {pos:Pos}
def Mq (i:Nat):TG:=fun v Z H Q=>Q (Z.set i (some v)) H
def Ii (f:X.N.Nodup) (b:X.N[i]?=some x) (d:Loc X.env.scope x) (e:X.fn x=true\/X.env.scope.names.lookup x=some .local:=by first | exact .inl rfl | exact .inr rfl | assumption):PG X (.Name x pos) (Mq i):=by
 intro a s Z H v u Q I r h;exact wpAny_assign_Name (rM I f b d r (fun s' c=>⟨_,H,c,h⟩) e)
def Yc:TGs:=fun vs Z H Q=>vs=[]/\Q Z H
def Uk (t:TG) (u:TGs):TGs:=fun vs Z H Q=>∃v r,vs=v::r/\t v Z H fun a H'=>u r a H' Q
def Ij:PGs X [] Yc:=by
 intro a s Z H vs us Q I r h;obtain⟨e,h⟩:=h;subst e;cases r;exact assignInOrder_nil ⟨Z,H,I,h⟩
def Bw (n:PG X e t) (j:PGs X b u) (i:(assignEach (e::b) X.env).map (·.2)=assign e X.env::(assignEach b X.env).map (·.2):=by rfl):PGs X (e::b) (Uk t u):=by
 intro a s Z H vs us Q I r h;obtain⟨v,o,m,h⟩:=h;subst m;cases r with
 |cons r l =>
 rw[i];refine assignInOrder_cons (Fl (n a s Z H _ _ _ I r h) fun _ d ⟨f,c,k,g⟩=>?_);exact j a d f c _ _ Q k l g
def Yd (K:Frag) (n:Nat) (t:TGs):TG:=fun v Z H Q=>∃a xs,v=.ref a/\SqT K H a xs/\xs.length=n/\t xs Z H Q
def Ph {k:Nat} (m:X.calm=true) (h:PGs X d t) (z:(assignEach d X.env).length=n:=by rfl) (g:(assignEach d X.env).findIdx? (·.1)=none:=by rfl):PG X (.Tuple d k pos) (Yd X.K n t):=by
 intro c s Z H v u Q I r f;obtain⟨a,xs,y,w,q,f⟩:=f;subst y;cases r;obtain⟨j,i,l,A⟩:=I.tuple w;refine assign_Tuple_tuple (I.ok.hd m) l (by simp [z,<- q,i.length]) g fun h' x=>?_;have p:Inv X c Z H { s with heap:=h'}:=I.kept (t':=s.toks) fun b o e=>x b o (G_ (m_ e)) e;exact h c _ Z H xs _ Q p (by simpa using i) f
def Ye (d c:TE) (t:Bv):TG:=fun v Z H Q=>d Z H fun o a=>c Z a fun i b=>t o i v b fun H3=>Q Z H3
def Pj (l:PE X o e) (n:PE X i d) (p:adU X t) (C:∀v,assign (.Subscript o i pos) X.env v=(do
   let b <- holding [v] (eval o X.env)
   let c <- holding [v,b] (eval i X.env)
   standAt pos
   holding [v,b,c] (setItem b c v)
   release [v,b,c] []):=by intro _;rfl):PG X (.Subscript o i pos) (Ye e d t):=by
 intro a s Z H v u Q I r h;rw[C];refine a_ (ZP (Fl (l a s Z H _ I h) fun b A ⟨x,z,D,m,k⟩=>?_));refine a_ (ZP (Fl (n a A Z z _ D k) fun c g ⟨y,f,w,B,q⟩=>?_));refine a_ (abI (a_ (ZP (Fl (p a g Z f x y v b c u _ w m B r q) fun _ F ⟨H3,j,E⟩=>?_))));exact wpAny_release ⟨Z,H3,j,E⟩
def Ul (te:TE) (g:TG):TS:=fun D Z H=>te Z H fun x a=>g x Z a D.nx
def Pk (f:PE X e te) (c:PG X b g) (l:swapsWithSole [b] e pos.line X.env=pure false:=by rfl) (i:swappedStores [b] e X.env=pure none:=by rfl) (o:(assignEach [b] X.env).map (·.2)=[assign b X.env]:=by rfl):PS X (.Assign [b] e pos) (Ul te g):=by
 intro a s Z H D I h;refine wpAny_Assign_stores (Fl (f a s Z H _ I h) fun v j ⟨x,d,m,n,k⟩=>?_) l i;rw[o];exact Fl (c a j Z d x v _ m n k) fun _ p q=>q
def Pn (p:X.N.Nodup) (f:X.N[i]?=some x) (l:Loc X.env.scope x) (d:PE X e te) (j:swapsWith e (some (.Name x a)) pos.line X.env=pure false:=by rfl) (n:X.fn x=true\/X.env.scope.names.lookup x=some .local:=by first | exact .inl rfl | exact .inr rfl | assumption):
  PS X (.Assign [.Name x a] e pos) (Ul te (Mq i)):=by
 intro b s Z H D I h;refine wpAny_Assign_Name (Fl (d b s Z H _ I h) fun v r ⟨y,c,k,m,g⟩=>?_) j;exact rM k p f l m (fun q o=>⟨_,c,o,g⟩) n
def Pq (c:TT) (tb:TS):TS:=fun D Z H=>∃W:Nat->St->Hp->Prop,(∃m,W m Z H)/\∀m Z H,W m Z H ->
 c Z H fun b d=>if b=true then ∃N:St->Hp->Prop,(∀a H',N a H'->∃e,e<m/\W e a H')/\tb { D with nx:=N,ct:=N,bk:=D.nx} Z d else D.nx Z d
def Bx (B:PassesOwn (model X.prog X.w) X.A X.env X.xe) (L:PT X c t) (J:PSs X d tb):PS X (.While c d [] pos) (Pq t tb):=by
 intro a s Z H D I h;obtain⟨W,⟨K,F⟩,e⟩:=h;refine wpAny_While (codeAny_whileLoop (fun n s'=>∃y H',Inv X a y H' s'/\W n y H') ?_ K ⟨Z,H,I,F⟩);rintro n G ⟨j,z,M,E⟩;refine abb B (Fl (L a G j z _ M (e n j z E)) fun b C ⟨r,x,i⟩=>?_);cases b with
 |true =>
  obtain⟨N,u,i⟩:=i;rw[if_pos rfl];refine abb B (Fl (J a C j r _ x i) fun f O k=>?_);cases f with
  |next=>obtain⟨g,H3,l,o⟩:=k;obtain⟨p,q,m⟩:=u g H3 o;exact⟨p,q,g,H3,l,m⟩
  |cont=>obtain⟨g,H3,l,o⟩:=k;obtain⟨p,q,m⟩:=u g H3 o;exact⟨p,q,g,H3,l,m⟩
  |brk=>exact k
  |ret v=>exact k
 |false =>
 rw[if_neg B_];exact abS ⟨j,r,x,i⟩
end
structure It where
 go:Nat->Hp->Prop
 yld:Nat->Hp->V->Hp->Prop
 stop:Nat->Hp->Prop
def lU (X:Cx) (a:List (Addr × Obj)) (H:Hp) (b:Addr):Prop :=
 H b=none/\b≠X.env.locals/\b∉X.fs/\(b∈X.ex\/X.s₀.heap.objs.size<=b)/\(∀x c,X.env.cells.lookup x=some c->c≠b)/\∀p∈X.pn++a,p.1≠b
def Inv.fpOk {Z:St}{b:Addr} (I:Inv X a Z H s) (d:s.heap.objs.size<=b) (g:H' b=none):lU X a H' b:=by
 refine⟨g,Ze (J_ I.lt d),I.nofs d,.inr (P_ I.sz d),fun x c e z=>?_,fun p f z=>?_⟩
 ·obtain⟨v,q⟩:=I.cell x c e;exact absurd (J_ q.lt (by rw[z];exact d)) (Zm _)
 exact absurd (J_ (m_ (I.pin p f).1) (by rw[z];exact d)) (Zm _)
structure Turn (P:Program) (w:World) (K:Frag) (tg:Expr) (J:It) (fp:List Addr) (it:Addr) (tn:Nat->Heap->Prop):Prop where
 mem:it∈fp
 obj:∀i h,tn i h->∀b∈fp,∃o,h.get? b=some o/\∀v,o.data≠.cell v
 keep:∀i h h',tn i h->(∀b∈fp,∀o,h.get? b=some o->h'.get? b=some o)->tn i h'
 item:∀(X:Cx),X.prog=P->X.w=w->X.K=K->X.calm=true->∀(i:Nat) (pins:List (Addr × Obj)) (s:Shared) (Z:St) (H:Hp) (E:Value->Shared->Prop),Inv X pins Z H s->(∀b∈fp,lU X pins H b)->tn i s.heap->J.go i H ->
  wpAny (model P w) X.A (pyNext (.ref it)) (fun r s1=>∃u,r=some u /\
   wpAny (model P w) X.A (letOwnedTupleGo tg (.ref it) u) (fun _ s2=>∃x H',Inv X pins Z H' s2/\RelV x u/\J.yld i H x H'/\tn (i+1) s2.heap/\∀b∈fp,H' b=none) E s1) E s
 done:∀(X:Cx),X.prog=P->X.w=w->X.K=K->X.calm=true->∀(i:Nat) (pins:List (Addr × Obj)) (s:Shared) (Z:St) (H:Hp) (E:Value->Shared->Prop),Inv X pins Z H s->(∀b∈fp,lU X pins H b)->tn i s.heap->J.stop i H ->
  wpAny (model P w) X.A (pyNext (.ref it)) (fun r s1=>r=none/\Inv X pins Z H s1) E s
 self:∀(A:Around) (i:Nat) (s:Shared) (Q:Value->Shared->Prop) (E:Value->Shared->Prop),tn i s.heap->Q (.ref it) s->wpAny (model P w) A (pyIter (.ref it)) Q E s
abbrev TI:=St->Hp->(It->Hp->Prop)->Prop
def PIE (X:Cx) (a:List (Addr × Obj)) (Z:St) (g:Expr) (R:It->Hp->Prop) (c:Value) (e:Shared):Prop :=
 ∃(it:Addr) (f:List Addr) (d:Nat->Heap->Prop) (J:It) (H':Hp),c=.ref it/\Inv X a Z H' e/\Turn X.prog X.w X.K g J f it d/\d 0 e.heap/\(∀b∈f,lU X a H' b)/\R J H'
def PI (X:Cx) (e b:Expr) (d:TI):Prop :=
 ∀(a:List (Addr × Obj)) (s:Shared) (Z:St) (H:Hp) (R:It->Hp->Prop),Inv X a Z H s->d Z H R ->
  wpAny (model X.prog X.w) X.A (eval b X.env) (fun v c=>wpAny (model X.prog X.w) X.A (pyIter v) (PIE X a Z e R) X.xe c) X.xe s
def xM (d:s.heap.get? it=some o) (c:o.cls=.type n) (f:o.data=.fields vs) (e:["enumerate","zip","dict_itemiterator","dict_reverseitemiterator","odict_iterator","itertools.zip_longest","itertools.pairwise"].contains n=false) (a:Q () s):wpAny M A (letOwnedTupleGo b (.ref it) u) Q E s:=by
 unfold letOwnedTupleGo;cases b <;> first
  |exact h_ a
  | (cases u <;> first
    |exact h_ a
    | (refine a_ (wpAny_load d ?_)
       rw[c,f]
       show wpAny M A (if (["enumerate","zip","dict_itemiterator","dict_reverseitemiterator","odict_iterator","itertools.zip_longest","itertools.pairwise"].contains n&&vs[0]?==some (rawInt _))=true then _ else _) Q E s
       rw[if_neg (by intro h;rw[e,Bool.false_and] at h;cases h)]
       exact h_ a))
def Itl (K:Frag) (a:Addr):It :=
 ⟨fun i H=>∃xs x,SqL K H a xs/\xs[i]?=some x,fun i H x H'=>H'=H/\∀xs,SqL K H a xs->xs[i]?=some x,fun i H=>∃xs,SqL K H a xs/\xs.length<=i⟩
def Itt (K:Frag) (a:Addr):It :=
 ⟨fun i H=>∃xs x,SqT K H a xs/\xs[i]?=some x,fun i H x H'=>H'=H/\∀xs,SqT K H a xs->xs[i]?=some x,fun i H=>∃xs,SqT K H a xs/\xs.length<=i⟩
def Itr (a:Int) (n:Nat):It:=⟨fun i _=>i<n,fun i H x H'=>H'=H/\x=.int (a+i),fun i _=>n<=i⟩
def zF {K:Frag} (a it:Addr):Turn P w K O (Itl K a) [it] it (fun i h=>h.IsListIter it a i) where
 mem:=by simp
 obj:=fun i h st b g=>by
  have e:b=it:=by simpa using g
  subst e
  obtain⟨o,e,c,d⟩:=st
  exact⟨o,e,fun v z=>by rw[d] at z;cases z⟩
 keep:=fun i h h' st k=>st.at fun o e=>k it (by simp) o e
 item:=by
  intro X J q F L i f s Z H E I m st n
  subst J q F
  obtain⟨xs,x,l,G⟩:=n
  obtain⟨A,y,p,S⟩:=I.list l
  obtain⟨u,V,N⟩:=y.get G
  obtain⟨r,t,M,D,B,C⟩:=m it (by simp)
  refine wpAny_pyNext_list_item st p.isList (x:=u) (by simpa using V) fun h' j T=>?_
  have U:Inv X f Z H { s with heap:=h'}:=I.turned (t':=s.toks) (fun b o g e=>(T.2 b g).trans e) r t D B C
  obtain⟨o,e,c,d⟩:=id j
  exact⟨u,rfl,xM (s:={ s with heap:=h'}) e c d (by decide) ⟨x,H,U,N,⟨rfl,fun ys R=>by rw[I.list_inj R l];exact G⟩,j,fun b g=>(m b g).1⟩⟩
 done:=by
  intro X J q F L i f s Z H E I m st n
  subst J q F
  obtain⟨xs,l,G⟩:=n
  obtain⟨A,y,p,S⟩:=I.list l
  obtain⟨r,t,M,D,B,C⟩:=m it (by simp)
  have W:=y.length
  exact wpAny_pyNext_list_end (I.ok.hd L) st p.isList (by simp;omega) fun h' Q=>⟨rfl,I.turned (t':=s.toks) (fun b o g e=>Q b o g e) r t D B C⟩
 self:=fun _ _ _ _ _ st h=>wpAny_pyIter_listiter st h
def vp {K:Frag} (a it:Addr):Turn P w K O (Itt K a) [it] it (fun i h=>h.IsTupleIter it a i) where
 mem:=by simp
 obj:=fun i h st b j=>by
  have e:b=it:=by simpa using j
  subst e
  obtain⟨o,e,c,d⟩:=st
  exact⟨o,e,fun v z=>by rw[d] at z;cases z⟩
 keep:=fun i h h' st k=>st.at fun o e=>k it (by simp) o e
 item:=by
  intro X J r F L i f s Z H E I n st q
  subst J r F
  obtain⟨xs,x,m,G⟩:=q
  obtain⟨g,A,p,S⟩:=I.tuple m
  obtain⟨u,V,N⟩:=A.get G
  obtain⟨t,y,M,D,B,C⟩:=n it (by simp)
  refine wpAny_pyNext_tuple_item st (show s.heap.IsTuple a g.toArray from p) (x:=u) (by simpa using V) fun h' l T=>?_
  have U:Inv X f Z H { s with heap:=h'}:=I.turned (t':=s.toks) (fun b o j e=>(T.2 b j).trans e) t y D B C
  obtain⟨o,e,c,d⟩:=id l
  exact⟨u,rfl,xM (s:={ s with heap:=h'}) e c d (by decide) ⟨x,H,U,N,⟨rfl,fun ys R=>by rw[I.tuple_inj R m];exact G⟩,l,fun b j=>(n b j).1⟩⟩
 done:=by
  intro X J r F L i f s Z H E I n st q
  subst J r F
  obtain⟨xs,m,G⟩:=q
  obtain⟨g,A,p,S⟩:=I.tuple m
  obtain⟨t,y,M,D,B,C⟩:=n it (by simp)
  have W:=A.length
  exact wpAny_pyNext_tuple_end (I.ok.hd L) st (show s.heap.IsTuple a g.toArray from p) (by simp;omega) fun h' Q=>⟨rfl,I.turned (t':=s.toks) (fun b o j e=>Q b o j e) t y D B C⟩
 self:=fun _ _ _ _ _ st h=>wpAny_pyIter_tupleiter st h
def vz {K:Frag} (it:Addr) (f:Int) (n:Nat):Turn P w K F (Itr f n) [it] it (fun i h=>IsRangeIter h it (f+(i:Nat)*1) ((n:Int) - (i:Nat)) 1) where
 mem:=by simp
 obj:=fun i h st b c=>by
  have e:b=it:=by simpa using c
  subst e
  exact⟨_,st,fun v z=>by
   have D:Data.fields _=Data.cell v:=z
   cases D⟩
 keep:=fun i h h' st k=>k it (by simp) _ st
 item:=by
  intro X A l x y i a s Z H E I g st j
  subst A l x
  obtain⟨m,p,B,u,q,r⟩:=g it (by simp)
  have W:=Walks.range (prog:=X.prog) (w:=X.w) (I.ok.hd y) it f 1 n
  refine W.item i s _ _ j st fun v h' tk C d J=>?_
  obtain⟨t,rfl⟩:=C
  have L:Inv X a Z H { s with heap:=h',toks:=tk}:=I.turned (fun b o c e=>J b o (by simpa using c) e) m p u q r
  refine⟨_,rfl,xM (s:={ s with heap:=h',toks:=tk}) (n:="range_iterator") d rfl rfl (by decide) ⟨.int (f+i),H,L,⟨t,?_⟩,⟨rfl,rfl⟩,d,fun b c=>(g b c).1⟩⟩
  rw[Int.mul_one]
 done:=by
  intro X A l x y i a s Z H E I g st j
  subst A l x
  obtain⟨m,p,B,u,q,r⟩:=g it (by simp)
  exact wpAny_pyNext_range_end (I.ok.hd y) st (by have:n<=i:=j;omega) fun h' G=>⟨rfl,I.turned (t':=s.toks) (fun b o c e=>G b o c e) m p u q r⟩
 self:=fun _ _ _ _ _ st h=>wpAny_pyIter_rangeiter st h
section
variable {X:Cx}{tg:Expr}
def Um (K:Frag) (c:TE):TI:=fun Z H R=>c Z H fun x b=>∃a,x=.ref a/\(∃xs,SqL K b a xs)/\R (Itl K a) b
def Yg (K:Frag) (c:TE):TI:=fun Z H R=>c Z H fun x b=>∃a,x=.ref a/\(∃xs,SqT K b a xs)/\R (Itt K a) b
def Ik (n:PE X l g):PI X tg l (Um X.K g):=by
 intro c s Z H R I h;refine Fl (n c s Z H _ I h) fun v d ⟨x,j,f,t,m⟩=>?_;obtain⟨a,e,⟨xs,r⟩,q⟩:=m;subst e;cases t;obtain⟨i,u,p,w⟩:=f.list r;refine wpAny_pyIter_list p.isList ?_;refine⟨d.heap.objs.size,[d.heap.objs.size],_,_,j,rfl,f.kept (t':=d.toks) fun b o e=>b_ _ e,zF a _,⟨_,j_ _ rfl,rfl,rfl⟩,fun b k=>?_,q⟩;have e:b=d.heap.objs.size:=by simpa using k
 subst e;exact f.fpOk (k_ _) (f.hok.fresh (k_ _))
def Pu (n:PE X l i):PI X tg l (Yg X.K i):=by
 intro d s Z H R I h;refine Fl (n d s Z H _ I h) fun v c ⟨x,j,f,t,m⟩=>?_;obtain⟨a,e,⟨xs,r⟩,q⟩:=m;subst e;cases t;obtain⟨g,u,p,w⟩:=f.tuple r;refine abA (show c.heap.IsTuple a g.toArray from p) ?_;refine⟨c.heap.objs.size,[c.heap.objs.size],_,_,j,rfl,f.kept (t':=c.toks) fun b o e=>b_ _ e,vp a _,⟨_,j_ _ rfl,rfl,rfl⟩,fun b k=>?_,q⟩;have e:b=c.heap.objs.size:=by simpa using k
 subst e;exact f.fpOk (k_ _) (f.hok.fresh (k_ _))
def rO {Z:St} (I:Inv X d Z H s) (m : -(2^62)<=a) (j:a<2^62) (k : -(2^62)<=c) (g:c<2^62) (q:R (Itr a (c - a).toNat) H):wpAny (model X.prog X.w) X.A (pyIter (.ref s.heap.objs.size)) (PIE X d Z tg R) E { s with heap:=s.heap.push { cls:=.type "range",data:=.fields #[.int a t,.int c u,.int 1 v]},toks:=tk}:=by
 refine wpAny_pyIter_range (IsRange.new ..) (small_one m j k g) ?_;have f:Inv X d Z H { s with heap:=s.heap.push { cls:=.type "range",data:=.fields #[.int a t,.int c u,.int 1 v]},toks:=tk}:=I.kept fun b o e=>b_ _ e;refine⟨(s.heap.push { cls:=.type "range",data:=.fields #[.int a t,.int c u,.int 1 v]}).objs.size,[(s.heap.push { cls:=.type "range",data:=.fields #[.int a t,.int c u,.int 1 v]}).objs.size],_,_,H,rfl,
  f.kept (t':=tk) fun b o e=>b_ _ e,vz _ a (c - a).toNat,?_,fun b i=>?_,q⟩
 ·have l:a+((0:Nat):Int)*1=a:=by simp
  have h:(((c - a).toNat:Nat):Int) - ((0:Nat):Int)=Builtin.Range.rangeSize a c 1:=by rw[rangeSize_one];split <;> omega
  show IsRangeIter _ _ (a+((0:Nat):Int)*1) ((((c - a).toNat:Nat):Int) - ((0:Nat):Int)) 1;rw[l,h];exact j_ _ rfl
 have e:b=(s.heap.push { cls:=.type "range",data:=.fields #[.int a t,.int c u,.int 1 v]}).objs.size:=by simpa using i
 subst e;exact f.fpOk (k_ _) (f.hok.fresh (k_ _))
def Uo (b:TA):TI:=fun Z H R=>b Z H fun vs a=>∃j:Int,vs=[.int j] /\ -(2^62)<=j/\j<2^62/\R (Itr 0 j.toNat) a
def Uq (b:TA):TI:=fun Z H R=>b Z H fun vs a=>∃i j:Int,vs=[.int i,.int j]/\(-(2^62)<=i/\i<2^62 /\ -(2^62)<=j/\j<2^62)/\R (Itr i (j - i).toNat) a
def zG (g:Gl X "range") (o:X.mg "range"=none) (i:PA X [a] f) (k:starEach [a] X.env=[(false,eval a X.env)]:=by rfl):PI X tg (.Call (.Name "range" p) [a] [] c) (Uo f):=by
 intro b s Z H R I h;refine Call_ (dB I g o boot_range (Zj (Fl (i c b s Z H _ I h) fun us w ⟨vs,v,m,n,d⟩=>?_) k rfl));obtain⟨j,e,d,l,q⟩:=d;subst e;cases n with
 |cons r u =>
 cases u;obtain⟨t,rfl⟩:=r;exact call_range_1 (rO m (by omega) (by omega) d l (by simpa using q))
def zH {p f:Pos} (m:Gl X "range") (z:X.mg "range"=none) (n:PA X [a,b] l) (u:starEach [a,b] X.env=[(false,eval a X.env),(false,eval b X.env)]:=by rfl) (c:starEach [b] X.env=[(false,eval b X.env)]:=by rfl):
  PI X tg (.Call (.Name "range" p) [a,b] [] f) (Uq l):=by
 intro d s Z H R I h;refine Call_ (dB I m z boot_range (Zj (Fl (n f d s Z H _ I h) fun us C ⟨vs,B,w,y,g⟩=>?_) (by rw[u,c]) (by rw[c];rfl)));obtain⟨i,j,e,⟨g,v,x,A⟩,q⟩:=g;subst e;cases y with
 |cons r k =>
 cases k with
 |cons o k =>
 cases k;obtain⟨t,rfl⟩:=r;obtain⟨t',rfl⟩:=o;exact call_range_2 (rO w g v x A q)
def Yh (f:TI) (g:TG) (tb:TS):TS:=fun D Z H=>f Z H fun J c=>∃W:Nat->Nat->St->Hp->Prop,(∃m,W 0 m Z c)/\∀i m Z H,W i m Z H ->
 (J.stop i H/\D.nx Z H)\/(J.go i H/\∃N:St->Hp->Prop,(∀a H',N a H'->∃b,b<m/\W (i+1) b a H')/\∀x H',J.yld i H x H'->g x Z H' fun e d=>tb { D with nx:=N,ct:=N,bk:=D.nx} e d)
def lV (a : List Addr) (h : Heap) : List (Addr × Obj):=a.filterMap fun b => (h.get? b).map fun o => (b,o)
def gA (c : b ∈ a) (e : h.get? b = some o): (b,o) ∈ lV a h:=List.mem_filterMap.mpr ⟨b,c,by rw [e]; rfl⟩
def zJ (c:p∈lV a h):p.1∈a/\h.get? p.1=some p.2:=by
 obtain ⟨b,d,e⟩:=List.mem_filterMap.mp c;cases q : h.get? b with
 |none=>rw[q] at e;cases e
 |some o =>
 rw[q] at e;have f:(b,o)=p:=D_ e;subst f;exact⟨d,q⟩
def Inv.pinned {Z:St} (I:Inv X a Z H s) (l:∀b∈c,lU X a H b) (i:∀b∈c,∃o,s.heap.get? b=some o/\∀v,o.data≠.cell v):Inv X (a++lV c s.heap) Z H s :=
 I.pins_of fun p m=>(F_.mp m).elim (fun z=>I.pin p (Zi _ z)) fun z=>by
  obtain⟨f,e⟩:=zJ z;obtain⟨h,k,j,_⟩:=l p.1 f;obtain⟨o,g,d⟩:=i p.1 f;rw[e] at g;cases g;exact⟨e,h,k,j,d⟩
def Inv.unpinned {Z:St} (I:Inv X (a++pl) Z H s):Inv X a Z H s:=I.pins_of fun p b=>I.pin p (Zi _ (Zo _ b))
def Px (M:PassesOwn (model X.prog X.w) X.A X.env X.xe) (hc:X.calm=true) (hi:PI X tg k wi) (hg:PG X tg g) (l:PSs X z tb) (hs:∀x,foldedSetIterable k X.env x=pure x:=by intro _;rfl):PS X (.For tg k z [] S) (Yh wi g tb):=by
 intro a s Z H D I h;refine wpAny_For (Fl (hi a s Z H _ I h) fun v s1 h1=>Fl h1 fun itv s2 h2=>?_) hs;obtain⟨it,Q,tn,J,H2,e,I2,T,V,f2,W,⟨m0,w0⟩,K⟩:=h2;subst e
 have c:∀{H':Hp},(∀b∈Q,H' b=none)->∀b∈Q,lU X a H' b:=fun hn b l=>⟨hn b l,(f2 b l).2⟩;refine codeAny_forLoop_any (fun n s'=>∃i G H',Inv X a G H' s'/\tn i s'.heap/\(∀b∈Q,H' b=none)/\W i n G H') ?_ m0 ⟨0,Z,H2,I2,V,fun b l=>(f2 b l).1,w0⟩;rintro n s3 ⟨i,O,H3,I3,L,C,w3⟩;rcases K i n O H3 w3 with ⟨P,qn⟩ | ⟨go,N,hN,E⟩
 ·refine abb M (Fl (T.done X rfl rfl rfl hc i a s3 O H3 X.xe I3 (c C) L P) fun r s4 ⟨R,I4⟩=>?_);subst R;exact abS ⟨O,H3,I4,qn⟩
 refine abb M (Fl (T.item X rfl rfl rfl hc i a s3 O H3 X.xe I3 (c C) L go) fun r s4 ⟨u,R,h4⟩=>?_);subst R;refine abb M (Fl h4 fun _ s5 ⟨x,H5,I5,r5,y5,B,Y⟩=>?_);have I5':=I5.pinned (c Y) (T.obj _ _ B);refine abb M (Fl (hg _ s5 O H5 x u _ I5' r5 (E x H5 y5)) fun _ s6 ⟨Z6,H6,I6,q6⟩=>?_);refine abb M (Fl (l _ s6 Z6 H6 _ I6 q6) fun f U y=>?_);have t:∀{j:St} {q:Hp},Inv X (a++lV Q s5.heap) j q U->N j q->∃m,m<n/\∃i G H',Inv X a G H' U/\tn i U.heap/\(∀b∈Q,H' b=none)/\W i m G H':=fun {j q} p F=>by obtain⟨m',hm,w7⟩:=hN j q F;refine⟨m',hm,i+1,j,q,p.unpinned,T.keep _ _ _ B fun b l o e=>(p.pin (b,o) (Zi _ (Zi _ (gA l e)))).1,fun b l=>?_,w7⟩;obtain⟨o,e,d⟩:=T.obj _ _ B b l;exact (p.pin (b,o) (Zi _ (Zi _ (gA l e)))).2.1
 cases f with
 |next=>obtain⟨j,q,p,F⟩:=y;exact t p F
 |cont=>obtain⟨j,q,p,F⟩:=y;exact t p F
 |brk=>obtain⟨j,q,p,y⟩:=y;exact⟨j,q,p.unpinned,y⟩
 |ret v=>obtain⟨x7,j,q,p,r7,y⟩:=y;exact⟨x7,j,q,p.unpinned,r7,y⟩
end
abbrev R2:=V->V->Hp->VK->Prop
def OpR (X:Cx) (f:Value->Value->Sem Value) (r:R2):Prop :=
 ∀(a:List (Addr × Obj)) (s:Shared) (Z:St) (H:Hp) (x y:V) (v u:Value) (Q:VK),Inv X a Z H s->RelV x v->RelV y u->r x y H Q ->
  wpAny (model X.prog X.w) X.A (f v u) (EP X a Z Q) X.xe s
def UnR (X:Cx) (f:Value->Sem Value) (r:V->Hp->VK->Prop):Prop :=
 ∀(a:List (Addr × Obj)) (s:Shared) (Z:St) (H:Hp) (x:V) (v:Value) (Q:VK),Inv X a Z H s->RelV x v->r x H Q ->
  wpAny (model X.prog X.w) X.A (f v) (EP X a Z Q) X.xe s
def ach (X:Cx) (f:Value) (r:List V->Hp->VK->Prop):Prop :=
 ∀(a:List (Addr × Obj)) (s:Shared) (Z:St) (H:Hp) (xs:List V) (us:List Value) (Q:VK),Inv X a Z H s->Vals xs us->r xs H Q ->
  wpAny (model X.prog X.w) X.A (call f us) (EP X a Z Q) X.xe s
def tOp (r:R2) (c tb:TE):TE:=fun Z H Q=>c Z H fun x a=>tb Z a fun y b=>r x y b Q
def tUn (r:V->Hp->VK->Prop) (b:TE):TE:=fun Z H Q=>b Z H fun x a=>r x a Q
def rI (C:Int->Int->Prop) (g:Int->Int->V):R2:=fun x y H Q=>∃i j,x=.int i/\y=.int j/\C i j/\Q (g i j) H
def rI0 (g:Int->Int->V):R2:=fun x y H Q=>∃i j,x=.int i/\y=.int j/\Q (g i j) H
def rU (g:Int->V):V->Hp->VK->Prop:=fun x H Q=>∃i,x=.int i/\Q (g i) H
section
variable {X:Cx}{a b c:Expr}
def Py (n:PE X a ta) (l:PE X b tb) {c:List (Addr × Obj)}{Z:St}{R:V->V->Hp->Prop} (I:Inv X c Z H s) (h:ta Z H fun x j=>tb Z j fun y d=>R x y d) {f:Value->Value->Sem Value} (t:∀v u i x y d,Inv X c Z d i->RelV x v->RelV y u->R x y d->wpAny (model X.prog X.w) X.A (f v u) Q X.xe i):
  wpAny (model X.prog X.w) X.A (eval a X.env) (fun v g=>wpAny (model X.prog X.w) X.A (eval b X.env) (fun u e=>wpAny (model X.prog X.w) X.A (f v u) Q X.xe e) X.xe g) X.xe s:=by
 refine Fl (n c s Z H _ I h) fun v k ⟨x,j,p,r,m⟩=>?_;refine Fl (l c k Z j _ p m) fun u i ⟨y,d,z,q,o⟩=>?_;exact t v u i x y d z r q o
def Ur (l:OpR X (binaryOp d) r) (k:PE X a ta) (j:PE X b tb):PE X (.BinOp a d b pos) (tOp r ta tb):=by
 intro c s Z H Q I h;exact wpAny_BinOp (Py k j I h fun v u f x y e m i g q=>l c f Z e x y v u Q m i g q)
def Us {c:UnaryOp} (i:UnR X (unaryOp c) r) (f:PE X a ta):PE X (.UnaryOp c a pos) (tUn r ta):=by
 intro b s Z H Q I h;exact UnaryOp_ (Fl (f b s Z H _ I h) fun v e ⟨x,d,j,k,g⟩=>i b e Z d x v Q j k g)
def opI {g:Int->Int->Int} (a:∀(i j:Int) (t u:Tok) (s:Shared) (Q:Value->Shared->Prop) (E:Value->Shared->Prop),C i j->Q (.int (g i j) s.toks) { s with toks:=s.toks+1}->wpAny (model X.prog X.w) X.A (f (.int i t) (.int j u)) Q E s):
  OpR X f (rI C fun i j=>.int (g i j)):=by
 intro b s Z H x y v u Q I d c h;obtain⟨i,j,rfl,rfl,e,q⟩:=h;obtain⟨t,rfl⟩:=d;obtain⟨t',rfl⟩:=c;exact a i j t t' s _ _ e ⟨.int (g i j),H,I.tok _,⟨_,rfl⟩,q⟩
def Il {g:Int->Int->Int} (a:∀(i j:Int) (t u:Tok) (s:Shared) (Q:Value->Shared->Prop) (E:Value->Shared->Prop),Q (.int (g i j) s.toks) { s with toks:=s.toks+1}->wpAny (model X.prog X.w) X.A (f (.int i t) (.int j u)) Q E s):
  OpR X f (rI0 fun i j=>.int (g i j)):=by
 intro b s Z H x y v u Q I d c h;obtain⟨i,j,rfl,rfl,q⟩:=h;obtain⟨t,rfl⟩:=d;obtain⟨t',rfl⟩:=c;exact a i j t t' s _ _ ⟨.int (g i j),H,I.tok _,⟨_,rfl⟩,q⟩
def Im {g:Int->Int->Bool} (a:∀(i j:Int) (t u:Tok) (s:Shared) (Q:Value->Shared->Prop) (E:Value->Shared->Prop),Q (.bool (g i j)) s->wpAny (model X.prog X.w) X.A (f (.int i t) (.int j u)) Q E s):
  OpR X f (rI0 fun i j=>.bl (g i j)):=by
 intro b s Z H x y v u Q I d c h;obtain⟨i,j,rfl,rfl,q⟩:=h;obtain⟨t,rfl⟩:=d;obtain⟨t',rfl⟩:=c;exact a i j t t' s _ _ ⟨.bl (g i j),H,I,rfl,q⟩
def Ut (i j:Int):Prop:=0<=j/\j<=1000000/\i.natAbs<2^64
def aed (i j:Int):Prop:=(-(2^64)<i/\i<2^64)\/(-(2^64)<j/\j<2^64)
def aed.ok (h:aed i j):IntMulOk i j:=by
 rcases h with ⟨a,b⟩ | ⟨a,b⟩
 ·exact .of_left (intBits_le_64 a b)
 exact .of_right (intBits_le_64 a b)
def af3:OpR X (binaryOp .Add) (rI0 fun i j=>.int (i+j)):=Il fun _ _ _ _ _ _ _ q=>add_int q
def Pz:OpR X (binaryOp .Sub) (rI0 fun i j=>.int (i - j)):=Il fun _ _ _ _ _ _ _ q=>sub_int q
def PB:OpR X (binaryOp .Mult) (rI aed fun i j=>.int (i*j)):=opI fun _ _ _ _ _ _ _ a q=>mul_int q a.ok
def PJ:OpR X (binaryOp .Mod) (rI (fun _ j=>0<j) fun i j=>.int (i%j)):=opI fun i j _ _ _ _ _ a q=>by
 have b:(0:Int)<j:=a;exact mod_int' (by omega) (by rw[Int.fmod_eq_emod_of_nonneg i (by omega)];exact q)
def PK:OpR X (binaryOp .Pow) (rI Ut fun i j=>.int (i^j.toNat)):=opI fun _ _ _ _ _ _ _ a q=>pow_int_small a.1 a.2.1 a.2.2 q
def PL:OpR X (binaryOp .BitAnd) (rI0 fun i j=>.int (Builtin.bitAnd i j)):=Il fun _ _ _ _ _ _ _ q=>and_int q
def Uu:OpR X (binaryOp .BitOr) (rI0 fun i j=>.int (Builtin.bitOr i j)):=Il fun _ _ _ _ _ _ _ q=>or_int q
def unI {g:Int->Int} (a:∀(i:Int) (t:Tok) (s:Shared) (Q:Value->Shared->Prop) (E:Value->Shared->Prop),Q (.int (g i) s.toks) { s with toks:=s.toks+1}->wpAny (model X.prog X.w) X.A (f (.int i t)) Q E s):
  UnR X f (rU fun i=>.int (g i)):=by
 intro b s Z H x v Q I c h;obtain⟨i,rfl,q⟩:=h;obtain⟨t,rfl⟩:=c;exact a i t s _ _ ⟨.int (g i),H,I.tok _,⟨_,rfl⟩,q⟩
def PN:UnR X (unaryOp .USub) (rU fun i=>.int (-i)):=unI fun _ _ _ _ _ q=>neg_int q
end
def lW:V->V->Bool
 |.non,.non=>true | .non,.int _=>true | .int _,.non=>true | .non,.bl _=>true | .bl _,.non=>true | .non,.str _=>true | .str _,.non=>true
 |.int _,.int _=>true | .bl _,.bl _=>true | .str _,.str _=>true | .byt _,.byt _=>true
 |.int _,.str _=>true | .str _,.int _=>true | .bl _,.str _=>true | .str _,.bl _=>true
 |_,_=>false
section
variable {X:Cx}{a b c:Expr}
def pW {a:List (Addr × Obj)}{Z:St}{k b:Bool} (I:Inv X a Z H s) (q:Q (.bl k) H) (e:k=b):EP X a Z Q (.bool b) s:=by
 subst e;exact⟨.bl k,H,I,rfl,q⟩
def Uv:OpR X (compareOp .Lt) (rI0 fun i j=>.bl (decide (i<j))):=Im fun _ _ _ _ _ _ _ q=>lt_int q
def Uw:OpR X (compareOp .LtE) (rI0 fun i j=>.bl (decide (i<=j))):=Im fun _ _ _ _ _ _ _ q=>le_int q
def Ux:OpR X (compareOp .Gt) (rI0 fun i j=>.bl (decide (j<i))):=Im fun _ _ _ _ _ _ _ q=>gt_int q
def Uy:OpR X (compareOp .GtE) (rI0 fun i j=>.bl (decide (j<=i))):=Im fun _ _ _ _ _ _ _ q=>ge_int q
def zK:OpR X (compareOp .In) (fun x y H Q=>∃i j,x=.str i/\y=.str j/\Q (.bl (!(Builtin.Str.occurrences j i 0 j.length 1).isEmpty)) H):=by
 intro a s Z H x y v u Q I c b h;obtain⟨i,j,rfl,rfl,q⟩:=h;obtain⟨t,rfl⟩:=c;obtain⟨t',rfl⟩:=b;exact in_str (pW I q rfl)
def PP:OpR X (compareOp .Is) (fun x y H Q=>y=.non/\Q (.bl (decide (x=.non))) H):=by
 intro a s Z H x y v u Q I b c h;obtain⟨rfl,q⟩:=h;cases c;refine is_none_gen (pW I q ?_);cases x <;> first
  | (cases b;rfl)
  | (obtain⟨t,rfl⟩:=b;rfl)
def Io:OpR X (compareOp .IsNot) (fun x y H Q=>y=.non/\Q (.bl (!decide (x=.non))) H):=by
 intro a s Z H x y v u Q I b c h;obtain⟨rfl,q⟩:=h;cases c;refine isnot_none_gen (pW I q ?_);cases x <;> first
  | (cases b;rfl)
  | (obtain⟨t,rfl⟩:=b;rfl)
def pX:OpR X (compareOp .NotIn) (fun x y H Q=>∃i j,x=.str i/\y=.str j/\Q (.bl (!(!(Builtin.Str.occurrences j i 0 j.length 1).isEmpty))) H):=by
 intro a s Z H x y v u Q I c b h;obtain⟨i,j,rfl,rfl,q⟩:=h;obtain⟨t,rfl⟩:=c;obtain⟨t',rfl⟩:=b;exact notIn_str (pW I q rfl)
def OpR.or {r b:R2} (h:OpR X f r) (h':OpR X f b):OpR X f (fun x y H Q=>r x y H Q\/b x y H Q):=by
 intro a s Z H x y v u Q I d c q;rcases q with q | q
 ·exact h a s Z H x y v u Q I d c q
 exact h' a s Z H x y v u Q I d c q
def By (b:Expr) {a:CmpOp}(h:a≠.In:=by decide) (e:a≠.NotIn:=by decide):behindInMarks a b=false:=by
 have d:(a==CmpOp.In)=false:=by cases a <;> first | rfl | exact absurd rfl h
 have c:(a==CmpOp.NotIn)=false:=by cases a <;> first | rfl | exact absurd rfl e
 cases b <;> simp [behindInMarks,d,c]
def Ip (l:OpR X (compareOp d) r) (k:PE X a ta) (j:PE X b tb) (m:behindInMarks d b=false):PE X (.Compare a [d] [b] pos) (tOp r ta tb):=by
 intro c s Z H Q I h;exact wpAny_Compare1 (Py k j I h fun v u f x y e n i g q=>l c f Z e x y v u Q n i g q) m
def Uz (t:TE):TT:=fun Z H Q=>t Z H fun x H'=>∃k,x=.bl k/\Q k H'
def Ir (m:OpR X (compareOp f) r) (C:PE X a ta) (w:PE X b tb) (B:behindInMarks f b=false):PT X (.Compare a [f] [b] pos) (Uz (tOp r ta tb)):=by
 intro d s Z H Q I h;refine wpAny_isTrue_Compare1 (Fl (C d s Z H _ I h) fun v t ⟨x,q,D,n,l⟩=>Fl (w d t Z q _ D l) fun u i ⟨y,g,p,A,o⟩ =>
  Fl (m d i Z g x y v u _ p n A o) fun c G ⟨z,H3,j,F,k,e,E⟩=>?_) B
 subst e;cases F;exact abf ⟨H3,j,E⟩
def fK:(sizeLine:Nat)<2^63:=by rw[aby];decide
def adT:OpR X (binaryOp .Add) (fun x y H Q=>∃i j,x=.str i/\y=.str j/\i.length+j.length<=sizeLine/\Q (.str (i++j)) H):=by
 intro a s Z H x y v u Q I d b h;obtain⟨i,j,rfl,rfl,c,q⟩:=h;obtain⟨t,rfl⟩:=d;obtain⟨t',rfl⟩:=b;exact add_str (fun t' tk=>⟨.str (i++j),H,I.tok _,⟨_,rfl⟩,q⟩) c
def vals1 (r:Vals [x] us):∃u,us=[u]/\RelV x u:=by
 cases r with
 |cons b a=>cases a;exact⟨_,rfl,b⟩
def vals2 (r:Vals [x,y] us):∃u a,us=[u,a]/\RelV x u/\RelV y a:=by
 cases r with
 |cons c b =>
 cases b with
 |cons d e=>cases e;exact⟨_,_,rfl,c,d⟩
def zL:ach X (.type "int") (fun xs H Q=>(∃i,xs=[.int i]/\Q (.int i) H)\/∃k,xs=[.bl k]/\Q (.int (if k then 1 else 0)) H):=by
 intro a s Z H xs us Q I r h;rcases h with ⟨i,rfl,q⟩ | ⟨k,rfl,q⟩
 ·obtain⟨u,rfl,t,rfl⟩:=vals1 r;exact call_int_int ⟨.int i,H,I,⟨_,rfl⟩,q⟩
 obtain⟨u,rfl,b⟩:=vals1 r;cases b;exact call_int_bool ⟨.int (if k then 1 else 0),H,I.tok _,⟨_,rfl⟩,q⟩
end
structure adR (h:Heap) (x dx C:Addr) (mA:Str->Option Value):Prop where
 obj:h.get? x=some (instObj C dx)
 ns:h.Ns1 dx mA
 ne:dx≠x
def oK {h:Heap} (n:h.Ns1 c mA):∃od,h.get? c=some od/\∀name,lookIn name od=some (mA name):=by
 obtain⟨o,d,ep,f,l,i,_,j⟩:=n;refine⟨o,f,fun name=>?_⟩;have e:=j name;unfold nsFind findBy at e;rw[<- Array.find?_toList] at e;unfold lookIn;rw[l];dsimp only;split
 ·rename_i y q;rw[q] at e;exact Zk some e
 rename_i q;rw[q] at e;have a:d.toList.any (·.refKey)=false:=by rw[List.any_eq_false];intro y g;obtain⟨z,t,b⟩:=i y (Array.mem_toList_iff.mp g);simp [DictEntry.refKey,b]
 have k:¬d.toList.any (·.refKey)=true:=by rw[a];exact B_
 rw[if_neg k];exact Zk some e
def adR.look (I:adR h x a C mA):∃od,InstAt h x (instObj C a) C (some od)/\∀name,lookIn name od=some (mA name) :=
 let ⟨od,ho,hl⟩:=oK I.ns
 ⟨od,⟨I.obj,rfl,rfl,ho⟩,hl⟩
section
variable {s:Shared}{K:Frag}
def Iu (X:K.In s.heap) (I:adR s.heap x dx C mA) (d:plainGet K C name=true) (g:hasDictIn K C=true) (e:findIn K (.ref C) name=some none) (c:mA name=some v) (b:handedIn v=true) (h:Q v { s with toks:=s.toks+1}):
  wpAny (model prog w) A (getAttr (.ref x) name a) Q E s:=by
 obtain⟨od,J,f⟩:=I.look;exact PySem.W.get_value X J (plainGet_of d).1 (PySem.W.findObj_own g e rfl (by rw[f,c])) b h
def BJ (X:K.In s.heap) (I:adR s.heap x dx C mA) (a:plainGet K C name=true) (e:findIn K (.ref C) name=some (some (.ref f))) (c:isFn K (.ref f)=true) (b:mA name=none) (h:Q (.ref f,[.ref x]) s):
  wpAny (model prog w) A (getMethod (.ref x) name pl) Q E s:=by
 obtain⟨od,J,d⟩:=I.look;exact PySem.W.method_fn X J (plainGet_of a).1 (plainGet_of a).2 e (aaf.mp c) (by show (lookIn name od).map (·.isSome)=some false;rw[d,b];rfl) h
def Iv (X:K.In s.heap) (I:adR s.heap x dx C mA) (m:findIn K (.ref C) "__setattr__"=some (some (.builtin "object.__setattr__"))) (p:plainOver K C=true) (k:takerIn K C name=some none) (t:hasDictIn K C=true) (j:PySem.Within mA ns) (hsz:ns.length<=sizeLine) (h:∀h',adR h' x dx C (fun y=>if y=name then some v else mA y)->Heap.SameBut dx s.heap h'->Q () { s with heap:=h',toks:=s.toks+2}):
  wpAny (model prog w) A (setAttr (.ref x) name v) Q E s:=by
 obtain⟨od,J,u⟩:=I.look;refine set_plain X J m (PySem.W.osa_open (s:={ s with toks:=s.toks+1}) (r:=none) X J p k fun b=>?_);obtain⟨z,l,g⟩:=any_some t;have q:s.heap.get? x=some ⟨.ref C,some dx,.plain,#[]⟩:=I.obj;refine a_ (h_ (a_ (a_ (wpAny_loadPart q (a_ (aaj (s:={ s with toks:=s.toks+1}) (looks_clsIn X l) ?_))))));rw[g];refine h_ (a:=some dx) (a_ (h_ (a_ ?_)));refine wpAny_nsSet1 (s:={ s with toks:=s.toks+1}) I.ns fun h' d c=>?_;obtain⟨oD,n,o,i,f,e⟩:=d.count (PySem.Within.cons name v j);refine a_ (wpAny_lookBehind i (by rw[f];exact pastItsLine_dict (P_ e (by rw[p_];omega))) ?_);exact h_ (h _ ⟨(c.2 _ (Ne.symm I.ne)).trans I.obj,d,I.ne⟩ c)
def BK (X:K.In s.heap) (i:makesIn K C=true) (c:findIn K (.ref C) "__init__"=some (some (.ref f))) (e:typeIn K (.ref f)=some (.type "function")) (h:codeAny (model prog w) (A.under (.builtin "type.__call__" ⟨.ref C::vs,b⟩)) (.call (.ref f) ⟨.ref (s.heap.objs.size+1)::vs,b⟩) (PySem.W.InitBack (s.heap.objs.size+1) R)
   { s with heap:=(s.heap.push emptyDict).push (instObj C s.heap.objs.size)}):
  codeAny (model prog w) A (.call (.ref C) ⟨vs,b⟩) R s:=by
 obtain⟨k,g,d,t,j⟩:=s;exact PySem.W.make_core (PySem.W.makes_of X i) (looks_findIn X c) (fun a=>PySem.W.bind_fn X a e) (.inl rfl) h
end
def dW (f:Str) (v:V):List (Str × V)->List (Str × V)
 |[]=>[(f,v)]
 | (g,x)::r=>if g=f then (g,v)::r else (g,x)::dW f v r
def gR (f g:Str) (v:V):∀fs:List (Str × V),(dW f v fs).lookup g=if g=f then some v else fs.lookup g
 |[]=>by
  show List.lookup g [(f,v)]=_
  by_cases h:g=f
  ·
   have a:(g==f)=true:=aaf.mpr h
   simp only[List.lookup,a,if_pos h]
  ·
   have a:(g==f)=false:=ZM.mpr h
   simp only[List.lookup,a,if_neg h]
 | (k,x)::r=>by
  have c:=gR f g v r
  rw[show dW f v ((k,x)::r)=(if k=f then (k,v)::r else (k,x)::dW f v r) from rfl]
  by_cases b:k=f
  ·
   rw[if_pos b]
   by_cases h:g=k
   ·
    have a:(g==k)=true:=aaf.mpr h
    simp only[List.lookup,a,if_pos (h.trans b)]
   ·
    have a:(g==k)=false:=ZM.mpr h
    simp only[List.lookup,a,if_neg (fun e:g=f=>h (e.trans b.symm))]
  ·
   rw[if_neg b]
   by_cases h:g=k
   ·
    have a:(g==k)=true:=aaf.mpr h
    simp only[List.lookup,a,if_neg (fun e:g=f=>b (h.symm.trans e))]
   ·
    have a:(g==k)=false:=ZM.mpr h
    simp only[List.lookup,a]
    exact c
def fV (f:Str) (v:V):∀fs:List (Str × V),f∈(dW f v fs).map (·.1)/\∀g,g∈fs.map (·.1)->g∈(dW f v fs).map (·.1)
 |[]=>⟨by simp [dW],fun g h=>by simp at h⟩
 | (k,x)::r=>by
  obtain⟨c,b⟩:=fV f v r
  rw[show dW f v ((k,x)::r)=(if k=f then (k,v)::r else (k,x)::dW f v r) from rfl]
  by_cases a:k=f
  ·
   rw[if_pos a]
   subst a
   exact⟨by simp,fun g h=>by simpa using h⟩
  ·
   rw[if_neg a]
   refine⟨?_,fun g h=>?_⟩
   ·
    rw[H_]
    exact o_ _ c
   ·
    rw[H_] at h ⊢
    rcases n_.mp h with e | e
    ·
     exact n_.mpr (.inl e)
    ·
     exact o_ _ (b g e)
def j0 (f:Str) (v:V):∀fs:List (Str × V),(dW f v fs).length<=fs.length+1
 |[]=>by simp [dW]
 | (k,x)::r=>by
  have b:=j0 f v r
  rw[show dW f v ((k,x)::r)=(if k=f then (k,v)::r else (k,x)::dW f v r) from rfl]
  by_cases a:k=f
  ·
   rw[if_pos a,p_,p_];omega
  ·
   rw[if_neg a,p_,p_];omega
def acG.some_of (r:acG (some v) o):∃u,o=some u/\RelV v u:=by
 cases o with
 |none=>exact (show False from r).elim
 |some u=>exact⟨u,rfl,r⟩
def acG.none_of (r:acG none o):o=none:=by
 cases o with
 |none=>rfl
 |some u=>exact (show False from r).elim
def zM (r:RelV v u):handedIn u=true:=by
 cases v with
 |non=>cases (show u=Value.none from r);rfl
 |bl b=>cases (show u=Value.bool b from r);rfl
 |int i=>obtain⟨t,e⟩:=(show ∃t,u=Value.int i t from r);cases e;rfl
 |str x=>obtain⟨t,e⟩:=(show ∃t,u=Value.str x t from r);cases e;rfl
 |byt b=>obtain⟨t,e⟩:=(show ∃t,u=Value.bytes b t from r);cases e;rfl
 |flt b=>obtain⟨t,e⟩:=(show ∃t,u=Value.float b t from r);cases e;rfl
 |ref a=>cases (show u=Value.ref a from r);rfl
 |ty n=>cases (show u=Value.type n from r);rfl
section
variable {P:Program}{w:World}
def lz (b:HOk P w H h) (e:H a=some (.ins C dx fs)):∃mA,adR h a dx C mA/\(∀f,acG (fs.lookup f) (mA f))/\PySem.Within mA (fs.map (·.1))/\fs.length<=1000/\H dx=some (.own a):=by
 obtain⟨d,z,g,c,mA,n,r,q⟩:=(show vy P w H h a (.ins C dx fs) from b a _ e);exact⟨mA,⟨c,n,g⟩,r,q,z,d⟩
end
structure Cls (K:Frag) (C:Addr):Prop where
 pg:plainGet K C Str.empty=true
 hd:hasDictIn K C=true
 po:plainOver K C=true
 sa:findIn K (.ref C) "__setattr__"=some (some (.builtin "object.__setattr__"))
def Cls.get {K:Frag} (c:Cls K C) (f:Str):plainGet K C f=true:=c.pg
def acW (K:Frag) (C:Addr) (f:Str):Prop:=findIn K (.ref C) f=some none
def acW.taker {K:Frag} (n:acW K C f):takerIn K C f=some none:=by
 unfold takerIn;rw[show findIn K (.ref C) f=some none from n];rfl
structure Meth (K:Frag) (C:Addr) (m:Str) (f:Addr):Prop where
 at_:findIn K (.ref C) m=some (some (.ref f))
 fn:isFn K (.ref f)=true
 kp:keepIn K (.ref f)=true
section
variable {X:Cx}{pins:List (Addr × Obj)}{Z:St}
def vA (I:Inv X pins Z H s) (e:H a=some (.ins C dx fs)) (c:Cls X.K C) (n:acW X.K C f) (l:fs.lookup f=some v) (h:∀u s',Inv X pins Z H s'->RelV v u->Q u s'):wpAny (model X.prog X.w) A (getAttr (.ref a) f b) Q E s:=by
 obtain⟨mA,O,r,_,_,_⟩:=lz I.hok e;obtain⟨u,g,d⟩:=acG.some_of (v:=v) (o:=mA f) (by rw[<- l];exact r f);exact Iu I.kIn O (c.get f) c.hd n g (zM d) (h u _ (I.tok _) d)
def vB (I:Inv X pins Z H s) (e:H a=some (.ins C dx fs)) (c:Cls X.K C) (k:Meth X.K C m g) (l:fs.lookup m=none) (h:Q (.ref g,[.ref a]) s):wpAny (model X.prog X.w) A (getMethod (.ref a) m pl) Q E s:=by
 obtain⟨mA,O,r,_,_,_⟩:=lz I.hok e;have b:mA m=none:=acG.none_of (by rw[<- l];exact r m);exact BJ I.kIn O (c.get m) k.at_ k.fn b h
def vC (I:Inv X pins Z H s) (e:H a=some (.ins C dx fs)) (c:Cls X.K C) (n:acW X.K C f) (v:fs.length<1000) (k:RelV y u) (h:∀s',Inv X pins Z (upd H a (.ins C dx (dW f y fs))) s'->Q () s'):wpAny (model X.prog X.w) A (setAttr (.ref a) f u) Q E s:=by
 obtain⟨mA,O,r,d,_,i⟩:=lz I.hok e;have p:(fs.map (·.1)).length<=sizeLine:=by rw[d_,aby];omega
 refine Iv I.kIn O c.sa c.po n.taker c.hd d p fun h' O' l=>h _ ?_;have t:∃o,h'.get? dx=some o:=let ⟨o,_,_,e',_⟩:=O'.ns;⟨o,e'⟩;refine I.write (x:=a) (e:=dx) (by rw[e];exact True.intro) (.inr i) (fun b q m z=>(l.2 b m).trans z) t ?_;refine⟨by rw[aM O.ne];exact i,?_,O.ne,O'.obj,_,O'.ns,fun g=>?_,fun g j=>?_⟩
 ·have:=j0 f y fs;omega
 ·show acG ((dW f y fs).lookup g) (if g=f then some u else mA g);rw[gR];by_cases q:g=f
  ·rw[if_pos q,if_pos q];exact k
  rw[if_neg q,if_neg q];exact r g
 by_cases q:g=f
 ·rw[q];exact (fV f y fs).1
 refine (fV f y fs).2 g (d g fun z=>j ?_);show (if g=f then some u else mA g)=none;rw[if_neg q];exact z
def Inv.made (I:Inv X pins Z H s):Inv X pins Z (upd (upd H s.heap.objs.size (.own (s.heap.objs.size+1))) (s.heap.objs.size+1) (.ins C s.heap.objs.size []))
  { s with heap:=(s.heap.push emptyDict).push (instObj C s.heap.objs.size)}:=by
 have d:(s.heap.push emptyDict).get? s.heap.objs.size=some emptyDict:=j_ s.heap rfl;have f:((s.heap.push emptyDict).push (instObj C s.heap.objs.size)).get? (s.heap.objs.size+1)=some (instObj C s.heap.objs.size):=by
  have:=j_ (s.heap.push emptyDict) (o:=instObj C s.heap.objs.size) rfl
  rwa [aad] at this
 have h:(s.heap.push emptyDict).Ns s.heap.objs.size (fun _=>none):=⟨emptyDict,#[],_,d,rfl,(fun e g=>absurd g (by simp)),fun _=>rfl⟩;have j:=I.laid (a:=s.heap.objs.size) (o:=.own (s.heap.objs.size+1)) (h':=s.heap.push emptyDict) (t':=s.toks) (fun b u q=>b_ _ q) (k_ _) ⟨_,d⟩;refine j.laid (a:=s.heap.objs.size+1) (o:=.ins C s.heap.objs.size []) (t':=s.toks) (fun b u q=>b_ _ q) (aaM (aad _ _)) ?_;have c:s.heap.objs.size≠s.heap.objs.size+1:=G_ (ZK _);refine⟨by rw[aM c,aY],ZS _,c,f,fun _=>none,(Heap.Ns1.of_empty h).at fun o q=>b_ _ q,fun _=>True.intro,fun y i=>absurd rfl i⟩
def Iw {a:Pos} (b:attributeBase e f env (eval e env)=eval e env) (h:wpAny (model prog w) A (eval e env) (fun o s₁=>wpAny (model prog w) A (getAttr o f true) Q E s₁) E s):wpAny (model prog w) A (eval (.Attribute e f a) env) Q E s :=
 Attribute_any_ h (by rw[arm_eval_Attribute,b])
end
def Yi (K:Frag) (d:TE) (f:Str):TE:=fun Z H Q=>d Z H fun x b=>∃a C c fs v,x=.ref a/\b a=some (.ins C c fs)/\Cls K C/\acW K C f/\fs.lookup f=some v/\Q v b
def Yj (K:Frag) (e g:TE) (f:Str):TS:=fun D Z H=>g Z H fun y d=>e Z d fun x b=>∃a C c fs,x=.ref a/\b a=some (.ins C c fs)/\Cls K C/\acW K C f/\fs.length<1000 /\
 D.nx Z (upd b a (.ins C c (dW f y fs)))
section
variable {X:Cx}{o e value:Expr}
def PQ (g:PE X e ta) (k:attributeBase e f X.env (eval e X.env)=eval e X.env):PE X (.Attribute e f pos) (Yi X.K ta f):=by
 intro b s Z H Q I h;refine Iw k (Fl (g b s Z H _ I h) fun u w ⟨x,d,m,j,a,C,z,fs,v,r,p,c,n,l,q⟩=>?_);subst r;obtain rfl:u=Value.ref a:=j;exact vA m p c n l fun y t o i=>⟨v,d,o,i,q⟩
def PX (w:PE X o ta) (g:PE X value tv) (i:swapsWith value (some (.Attribute o f pos')) pos.line X.env=pure false):PS X (.Assign [.Attribute o f pos'] value pos) (Yj X.K ta tv f):=by
 intro b s Z H D I h;refine abn (Fl (g b s Z H _ I h) fun u r ⟨y,p,z,t,q⟩=>Fl (w b r Z p _ z q) fun A E ⟨x,B,k,v,a,C,F,fs,e,m,c,n,l,j⟩=>?_) i;subst e;obtain rfl:A=Value.ref a:=v;exact vC k m c n l t fun G d=>⟨Z,_,d,j⟩
variable {pins:List (Addr × Obj)}{Z:St}
inductive ac8 (K:Frag) (H:Hp):V->Value->Prop where
 |non:ac8 K H .non (.type "NoneType")
 |bl (x:Bool):ac8 K H (.bl x) (.type "bool")
 |int (i:Int):ac8 K H (.int i) (.type "int")
 |str (x:Str):ac8 K H (.str x) (.type "str")
 |flt (x:UInt64):ac8 K H (.flt x) (.type "float")
 |lst {a:Addr} {xs:List V} (e:H a=some (.lst xs)):ac8 K H (.ref a) (.type "list")
 |frz {a:Addr} {o:Obj} {xs:List V} (e:H a=some (.frz o (.lst xs))):ac8 K H (.ref a) (.type "list")
 |tup {a:Addr} {xs:List V} (e:H a=some (.tup xs)):ac8 K H (.ref a) (.type "tuple")
 |dK {a:Addr} {kvs:List (Key × V)} (e:H a=some (.dK kvs)):ac8 K H (.ref a) (.type "dict")
 |dT {a:Addr} {kvs:List (List Key × V)} (e:H a=some (.dT kvs)):ac8 K H (.ref a) (.type "dict")
 |ins {a C dx:Addr} {fs:List (Str × V)} (e:H a=some (.ins C dx fs)) (cl:Cls K C) (ha:findIn K (.ref C) "__class__"=some (some (.builtin "object.__class__")))
   (hn:PySem.W.specialIn K (.builtin "object.__class__") "__get__"=some (some (.builtin "getset_descriptor.__get__"))) (htk:PySem.W.takesIn K (.builtin "object.__class__")=some true)
   (hm:mroIn K C (.type "object")=some true):ac8 K H (.ref a) (.ref C)
def d9 (I:Inv X pins Z H s) (d:RelV x u) (B:ac8 X.K H x t) (e:kitOne X.K t c=some b) (h:∀tk,Q (.bool b) { s with toks:=tk}):
  wpAny (model X.prog X.w) A (call (.builtin "isinstance") [u,c]) Q E s:=by
 cases B with
 |non=>cases (show u=Value.none from d);exact kia_one PySem.W.kitx_none I.kIn True.intro e (fun z=>nomatch z) h
 |bl y=>cases (show u=Value.bool y from d);exact kia_one PySem.W.kitx_bool I.kIn True.intro e (fun z=>nomatch z) h
 |int i=>obtain⟨t,q⟩:=(show ∃t,u=Value.int i t from d);cases q;exact kia_one PySem.W.kitx_int I.kIn True.intro e (fun z=>nomatch z) h
 |str y=>obtain⟨t,q⟩:=(show ∃t,u=Value.str y t from d);cases q;exact kia_one PySem.W.kitx_str I.kIn True.intro e (fun z=>nomatch z) h
 |flt y=>obtain⟨t,q⟩:=(show ∃t,u=Value.float y t from d);cases q;exact kia_one PySem.W.kitx_float I.kIn True.intro e (fun z=>nomatch z) h
 |@lst a xs f=>cases (show u=Value.ref a from d);obtain⟨_,_,n,_,g⟩:=(show vy X.prog X.w H s.heap a (.lst xs) from I.hok a _ f);exact kia_one kitx_list I.kIn ⟨_,g,rfl⟩ e (fun z=>nomatch z) h
 |@frz a m xs f=>cases (show u=Value.ref a from d);obtain⟨_,_,_,n,_,g⟩:=(show vy X.prog X.w H s.heap a (.frz m (.lst xs)) from I.hok a _ f);exact kia_one kitx_list I.kIn ⟨_,g,rfl⟩ e (fun z=>nomatch z) h
 |@tup a xs f=>cases (show u=Value.ref a from d);obtain⟨_,_,_,p⟩:=(show vy X.prog X.w H s.heap a (.tup xs) from I.hok a _ f);obtain⟨o,g,j,_⟩:=p;exact kia_one kitx_tuple I.kIn ⟨o,g,j⟩ e (fun z=>nomatch z) h
 |@dK a kvs f=>cases (show u=Value.ref a from d);obtain⟨_,_,vs,_,p⟩:=(show vy X.prog X.w H s.heap a (.dK kvs) from I.hok a _ f);obtain⟨o,r,ep,g,j,_⟩:=p;exact kia_one kitx_dict I.kIn ⟨o,g,j.1⟩ e (fun z=>nomatch z) h
 |@dT a kvs f=>cases (show u=Value.ref a from d);obtain⟨_,_,xs,_,o,r,ep,g,j,_⟩:=(show vy X.prog X.w H s.heap a (.dT kvs) from I.hok a _ f);exact kia_one kitx_dict I.kIn ⟨o,g,j.1⟩ e (fun z=>nomatch z) h
 |@ins a C G fs f l v F k D =>
 cases (show u=Value.ref a from d);obtain⟨mA,O,_⟩:=lz I.hok f;obtain⟨od,J,_⟩:=O.look;exact kia_one (PySem.W.kitx_own (l.get _) l.hd v F k D) I.kIn J e (fun z=>nomatch z) h
end
structure tR (k:Nat) (A:Around):Prop where
 hd:A.handled=none
 dp:A.depth+3*k+5<recursionLimit
 un:A.units+16*k+200<cLine
 gd:A.guards=some []
def tR.mono (r:tR k A) (h:j<=k):tR j A:=⟨r.hd,by have:=r.dp;omega,by have:=r.un;omega,r.gd⟩
def tR.deeper (r:tR (k+1) A) (env:Env):tR k (A.deeper env) :=
 ⟨r.hd,by have:=r.dp;show A.depth+1+3*k+5<_;omega,by have:=r.un;show A.units+3+16*k+200<_;omega,r.gd⟩
def vD {A:Around}:(A.under (.builtin "type.__call__" ⟨.ref C::us,a⟩)).depth=A.depth+1:=by
 first | rfl | simp [Around.under,Code.weight,Code.isCreation,Code.isGuard,Code.isCaller,Code.frames,Code.isFrame,guardIds]
def vG {A:Around}:(A.under (.builtin "type.__call__" ⟨.ref C::us,a⟩)).units=A.units+1:=by
 first | rfl | simp [Around.under,Code.cUnits,Code.frames,Code.isFrame]
def tR.make (r:tR (k+1) A) (C:Addr) (us:List Value) (a:List (Str × Value)):tR k (A.under (.builtin "type.__call__" ⟨.ref C::us,a⟩)) :=
 ⟨r.hd,by have:=r.dp;rw[vD];omega,by have:=r.un;rw[vG];omega,by first | exact r.gd | (simp [Around.under,Code.guards,Code.isGuard,guardIds,pushGuards,r.gd])⟩
def tR.depth (r:tR k A):A.depth<recursionLimit:=by have:=r.dp;omega
def Yk:TA:=fun _ H Q=>Q [] H
def UG (d:TE) (a:TA):TA:=fun Z H Q=>d Z H fun x b=>a Z b fun xs c=>Q (x::xs) c
def P0:PA X [] Yk:=fun _ _ _ _ H Q I h=>aas ⟨[],H,I,.nil,h⟩
def Iz (g:PE X e te) (p:PA X es t) (j:starEach (e::es) X.env=(false,eval e X.env)::starEach es X.env:=by rfl):PA X (e::es) (UG te t):=by
 intro b a s Z H Q I h;rw[j];show wpAny _ _ (spliced ((false,eval e X.env)::backTo b (starEach es X.env))) _ _ s;refine aac (Fl (g a s Z H _ I h) fun u f ⟨x,c,l,n,i⟩=>?_);exact Fl (p b a f Z c _ l i) fun us q ⟨xs,d,o,m,k⟩=>⟨x::xs,d,o,.cons n m,k⟩
def Yl (t:TA):TE:=fun Z H Q=>t Z H fun xs a=>xs.length<=sizeLine/\∀p,a p=none->Q (.ref p) (upd a p (.tup xs))
def Ym (t:TA):TE:=fun Z H Q=>t Z H fun xs a=>xs.length<=sizeLine/\∀p,a p=none->Q (.ref p) (upd a p (.lst xs))
def Qa (h:PA X es t):PE X (.Tuple es x1 pos) (Yl t):=by
 intro a s Z H Q I g;refine wpAny_Tuple_spliced (Fl (h pos a s Z H _ I g) fun us c ⟨xs,d,f,r,z,q⟩=>⟨by rw[<- r.length];exact z,?_⟩);have i:d c.heap.objs.size=none:=f.hok.fresh (k_ _);refine⟨.ref c.heap.objs.size,upd d c.heap.objs.size (.tup xs),f.laid (t':=c.toks) (fun b u e=>b_ _ e) (k_ _) ?_,rfl,q _ i⟩;exact⟨z,us,r,⟨_,j_ _ rfl,rfl,_,rfl,rfl⟩⟩
def Qc (h:PA X es t):PE X (.List es pos) (Ym t):=by
 intro a s Z H Q I g;refine wpAny_List_spliced (Fl (h pos a s Z H _ I g) fun us c ⟨xs,d,f,r,z,q⟩=>⟨by rw[<- r.length];exact z,?_⟩);have i:d c.heap.objs.size=none:=f.hok.fresh (k_ _);refine⟨.ref c.heap.objs.size,upd d c.heap.objs.size (.lst xs),f.laid (t':=c.toks) (fun b u e=>b_ _ e) (k_ _) ?_,rfl,q _ i⟩;exact⟨z,us,0,r,j_ _ rfl⟩
abbrev Sp:=List V->Hp->VK->XK->Prop
abbrev CXT:=List Env->Hp->Shared->XK->Value->Shared->Prop
structure adV (P:Program) (w:World) (K:Frag) (mg:Str->Option Value) (base:Heap) (A:Around) (outer:List Env) (s:Shared) (H:Hp):Prop where
 frames:A.frames=some outer
 mod:Mod K mg base
 bs:∀b o,base.get? b=some o->s.heap.get? b=some o/\H b=none
 bsz:base.objs.size<=s.heap.objs.size
 funs:s.heap.FunFrames base outer
 frf:∀b∈frs outer,H b=none
 hok:HOk P w H s.heap
 bare:AllBare s.gens
def CE (outer:List Env) (P:Program) (w:World) (H:Hp) (s:Shared) (Q:VK) (u:Value) (s':Shared):Prop :=
 ∃v H',s'.os=s.os/\AllBare s'.gens/\Un (frs outer) [] H H' s.heap s'.heap/\HOk P w H' s'.heap/\RelV v u/\Q v H'
def CR (CX:CXT) (outer:List Env) (P:Program) (w:World) (H:Hp) (s:Shared) (Q:VK) (E:XK) (r:Result) (s':Shared):Prop :=
 match r with
 |.ok (.ret u)=>CE outer P w H s Q u s'
 |.ok _=>False
 |.error e=>CX outer H s E e s'
structure acJ (P:Program) (w:World) (K:Frag) (mg:Str->Option Value) (base:Heap) (CX:CXT) (k:Nat) (f:Addr) (fd:FuncData) (ps:List Str) (sp:Sp):Prop where
 len:∀vs H Q E,sp vs H Q E->vs.length=ps.length
 run:∀(A:Around) (outer:List Env) (s:Shared) (H:Hp) (args:Args) (us:List Value) (vs:List V) (Q:VK) (E:XK),tR k A->adV P w K mg base A outer s H->BindsTo s fd args (ps.zip us)->Vals vs us->sp vs H Q E ->
  codeAny (model P w) A (.call (.ref f) args) (CR CX outer P w H s Q E) s
def adV.make {K:Frag} (e:adV P w K a base A outer s H) (C:Addr) (us:List Value) (b:List (Str × Value)):
  adV P w K a base (A.under (.builtin "type.__call__" ⟨.ref C::us,b⟩)) outer s H:=⟨by first | exact e.frames | (simpa [Around.under,Code.envs,Code.isFrame,pushEnvs] using e.frames),e.mod,e.bs,e.bsz,e.funs,e.frf,e.hok,e.bare⟩
section
variable {X:Cx}{pins:List (Addr × Obj)}{Z:St}
def Inv.env0 (I:Inv X pins Z H s):adV X.prog X.w X.K X.mg X.base X.A X.stack s H :=
 ⟨I.ok.frames,I.ok.mod,I.bs,P_ I.ok.bsz I.sz,I.stack,I.stkFree,I.hok,I.bare⟩
def Inv.after (I:Inv X pins Z H s) (h:CE X.stack X.prog X.w H s Q u s'):EP X pins Z Q u s':=by
 obtain⟨v,H',j,a,f,c,r,q⟩:=h;obtain⟨i,g,d,t,e⟩:=s';obtain rfl:e=s.os:=j;exact⟨v,H',I.call (h':=i) (g':=g) (d':=d) (t':=t) (ch:=[]) f c a (fun b z=>absurd z (by simp)),r,q⟩
end
def UJ (sp:Sp) (dvs:List V) (E:XK) (t:TA):TE:=fun Z H Q=>t Z H fun vs a=>sp (vs++dvs) a Q E
def UL (C:Addr) (m:Str) (sp:Sp) (dvs:List V) (E:XK) (e:TE) (t:TA):TE:=fun Z H Q=>e Z H fun x b=>∃a c fs,x=.ref a/\b a=some (.ins C c fs)/\fs.lookup m=none /\
 t Z b fun vs d=>sp (x::(vs++dvs)) d Q E
def UT (C:Addr) (sp:Sp) (dvs:List V) (E:XK) (t:TA):TE:=fun Z H Q=>t Z H fun vs b=>∀x a,b x=none->b a=none->a≠x ->
 sp (.ref x::(vs++dvs)) (upd (upd b a (.own x)) x (.ins C a [])) (fun v c=>v=.non/\Q (.ref x) c) E
def Binds (K:Frag) (b:FuncData) (ps:List Str) (a:List Value):Prop :=
 ∀(s:Shared) (us:List Value),K.In s.heap->(us++a).length=ps.length->BindsTo s b ⟨us,[]⟩ (ps.zip (us++a))
def Binds.all {K:Frag} (h:∀us:List Value,us.length=ps.length->bindArgs b ⟨us,[]⟩=pure (ps.zip us)):Binds K b ps []:=fun s us _ a=>by
 rw[W_] at a ⊢;exact .of_eq (h us a)
def jL (CX:CXT) (X:Cx) (E:XK):Prop:=∀(a:List (Addr × Obj)) (Z:St) (H:Hp) (s:Shared) (e:Value) (s':Shared),Inv X a Z H s->CX X.stack H s E e s'->X.xe e s'
section
variable {X:Cx}{CX:CXT}{p pos apos:Pos}
def BL {Z:St} (F:acJ X.prog X.w X.K X.mg X.base CX k f fd ps sp) (l:tR k X.A) (g:Binds X.K fd ps ds) (m:Vals dvs ds) (j:jL CX X E) (I:Inv X a Z H s) (r:Vals vs us) (h:sp (vs++dvs) H Q E):wpAny (model X.prog X.w) X.A (call (.ref f) us) (EP X a Z Q) X.xe s:=by
 have c:Vals (vs++dvs) (us++ds):=r.append m;have i:(us++ds).length=ps.length:=by rw[<- c.length];exact F.len _ _ _ _ h
 refine wpAny_call (abg (F.run X.A X.stack s H ⟨us,[]⟩ (us++ds) (vs++dvs) Q E l I.env0 (g s us I.kIn i) c h) fun r s' b=>?_);cases r with
 |error e=>exact j a Z H s e s' I b
 |ok d =>
 cases d with
 |ret u=>exact I.after b
 |next=>exact False.elim b
 |brk=>exact False.elim b
 |cont=>exact False.elim b
def IK (F:acJ X.prog X.w X.K X.mg X.base CX k f fd ps sp) (u:tR k X.A) (g:Gl X x) (o:X.mg x=some (.ref f)) (m:keepIn X.K (.ref f)=true) (j:Binds X.K fd ps ds) (v:Vals dvs ds) (n:jL CX X E)
  (l:PA X (e::es) t) (b:(x==("__debug__":Str))=false:=by decide) (i:starEach (e::es) X.env=(false,eval e X.env)::starEach es X.env:=by rfl) (c:(backTo pos (starEach es X.env)).any (·.1)=false:=by rfl) :
  PE X (.Call (.Name x p) (e::es) [] pos) (UJ sp dvs E t):=by
 intro a s Z H Q I h;refine ZF (iD I g o ?_ b);refine callWith_K (h₀:=X.base) I.ok.mod.kin m (Fl (l pos a s Z H _ I h) fun us z ⟨vs,y,d,r,q⟩=>⟨d.kIn,?_⟩) i c;exact BL F u j v n d r q
def IV {pl:Sem Bool}(G:PE X o ta) (c:Cls X.K C) (j:Meth X.K C m f) (F:acJ X.prog X.w X.K X.mg X.base CX k f fd ps sp) (p:tR k X.A) (L:Binds X.K fd ps ds) (M:Vals dvs ds) (P:jL CX X E) (O:PA X (e::es) t)
  (d:starEach (e::es) X.env=(false,eval e X.env)::starEach es X.env:=by rfl) (g:(backTo pos (starEach es X.env)).any (·.1)=false:=by rfl)
  (y:eval (.Call (.Attribute o m apos) (e::es) [] pos) X.env=(do
   let ov <- eval o X.env
   standAt apos.atName
   let (f,first) <- holding [ov] (getMethod ov m pl)
   callWith pos f first (backTo pos (starEach (e::es) X.env)) (backToKw pos (keywordEach [] X.env))):=by rfl) :
  PE X (.Call (.Attribute o m apos) (e::es) [] pos) (UL C m sp dvs E ta t):=by
 intro b s Z H Q I h;refine PySem.W.methodCall_KW (pl:=pl) (Fl (G b s Z H _ I h) fun u J ⟨x,D,n,N,a,T,fs,v,B,l,q⟩=>?_) y;subst v;obtain rfl:u=Value.ref a:=N;refine vB n B c j l ?_;refine callWith_K (first:=[.ref a]) (h₀:=X.base) I.ok.mod.kin j.kp (Fl (O pos b J Z D _ n q) fun us S ⟨vs,R,i,r,z⟩=>⟨i.kIn,?_⟩) d g;exact BL (us:=.ref a::us) (vs:=.ref a::vs) F p L M P i (.cons rfl r) z
structure Mk (K:Frag) (C f:Addr):Prop where
 makes:makesIn K C=true
 init:findIn K (.ref C) "__init__"=some (some (.ref f))
 fn:isFn K (.ref f)=true
 kp:keepIn K (.ref C)=true
def BP {Z:St} (M:Mk X.K C f) (F:acJ X.prog X.w X.K X.mg X.base CX k f fd ps sp) (t:tR (k+1) X.A) (l:Binds X.K fd ps ds) (y:Vals dvs ds) (o:jL CX X E) (I:Inv X a Z H s) (r:Vals vs us) (h:∀x dx,H x=none->H dx=none->dx≠x->sp (.ref x::(vs++dvs)) (upd (upd H dx (.own x)) x (.ins C dx [])) (fun v H2=>v=.non/\Q (.ref x) H2) E):
  wpAny (model X.prog X.w) X.A (call (.ref C) us) (EP X a Z Q) X.xe s:=by
 have d:=h (s.heap.objs.size+1) s.heap.objs.size (I.hok.fresh (aaE _)) (I.hok.fresh (k_ _)) (G_ (ZK _));have c:=Inv.made (C:=C) I;have g:Vals (V.ref (s.heap.objs.size+1)::(vs++dvs)) (Value.ref (s.heap.objs.size+1)::(us++ds)):=.cons rfl (r.append y);have m:(Value.ref (s.heap.objs.size+1)::us++ds).length=ps.length:=by have e:=g.length;rw[F.len _ _ _ _ d] at e;exact e.symm
 refine wpAny_call (BK (f:=f) I.kIn M.makes M.init (aaf.mp M.fn) (abg (F.run _ X.stack _ _ ⟨Value.ref (s.heap.objs.size+1)::us,[]⟩ (Value.ref (s.heap.objs.size+1)::(us++ds)) _ _ E (t.make C us [])
  (c.env0.make C us []) (l _ (Value.ref (s.heap.objs.size+1)::us) c.kIn m) g d) fun r s' b=>?_))
 cases r with
 |error e=>exact o a Z _ _ e s' c b
 |ok i =>
 cases i with
 |ret u=>obtain⟨v,H',j,q,p,n⟩:=c.after b;subst p;exact⟨q,⟨V.ref (s.heap.objs.size+1),H',j,rfl,n⟩⟩
 |next=>exact False.elim b
 |brk=>exact False.elim b
 |cont=>exact False.elim b
def IW (M:Mk X.K C f) (F:acJ X.prog X.w X.K X.mg X.base CX k f fd ps sp) (o:tR (k+1) X.A) (g:Gl X x) (n:X.mg x=some (.ref C)) (j:Binds X.K fd ps ds) (u:Vals dvs ds) (m:jL CX X E)
  (l:PA X (e::es) t) (b:(x==("__debug__":Str))=false:=by decide) (i:starEach (e::es) X.env=(false,eval e X.env)::starEach es X.env:=by rfl) (c:(backTo pos (starEach es X.env)).any (·.1)=false:=by rfl) :
  PE X (.Call (.Name x p) (e::es) [] pos) (UT C sp dvs E t):=by
 intro a s Z H Q I h;refine ZF (iD I g n ?_ b);refine callWith_K (h₀:=X.base) I.ok.mod.kin M.kp (Fl (l pos a s Z H _ I h) fun us y ⟨vs,v,d,r,q⟩=>⟨d.kIn,?_⟩) i c;exact BP M F o j u m d r q
end
structure gk (N P:List Str) (sc:Scope):Prop where
 kind:sc.kind=.function
 co:sc.isCoroutine=false
 gen:sc.isGenerator=false
 nd:N.Nodup
 pre:N.take P.length=P
 par:∀x∈P,sc.names.lookup x=some .local\/sc.names.lookup x=some .cell
 nofree:∀y∈sc.names,y.2≠.free
def oM:∀{a:List (Str × Value)}{m:Str->Option Value},(∀v,(x,v)∉a)->bindL b a m x=m x
 |[],_,_=>rfl
 | (n,v)::r,m,h=>by
  unfold bindL
  rw[oM fun w c=>h w (o_ _ c)]
  split
  ·
   have:x≠n:=by rintro rfl;exact h v l_
   simp [this]
  ·
   rfl
def oN:∀{a:List (Str × Value)}{m:Str->Option Value},(∀v,(x,v)∉a)->bindC b a m x=m x
 |[],_,_=>rfl
 | (n,v)::r,m,h=>by
  unfold bindC
  rw[oN fun w c=>h w (o_ _ c)]
  split
  ·
   rfl
  ·
   have:x≠n:=by rintro rfl;exact h v l_
   simp [this]
def oO:∀{P:List Str}{vs:List Value}{i:Nat}{m:Str->Option Value},P.Nodup->P[i]?=some x->vs[i]?=some v->a x=some .local ->
  bindL a (P.zip vs) m x=some v
 |[],_,_,_,_,h,_,_=>by simp at h
 |_::_,[],_,_,_,_,h,_=>by simp at h
 |p::P,w::vs,0,m,nd,h1,h2,hk=>by
  simp at h1 h2;subst h1;subst h2
  show bindL a ((p,w)::P.zip vs) m p=_
  unfold bindL
  rw[oM fun v b=>(ZJ.mp nd).1 (abE b).1,if_pos hk]
  simp
 |p::P,w::vs,i+1,m,nd,h1,h2,hk=>by
  show bindL a ((p,w)::P.zip vs) m x=_
  unfold bindL
  exact oO (i:=i) (ZJ.mp nd).2 (by simpa using h1) (by simpa using h2) hk
def oR:∀{P:List Str}{vs:List Value}{i:Nat}{m:Str->Option Value},P.Nodup->P[i]?=some x->vs[i]?=some v->a x≠some .local ->
  bindC a (P.zip vs) m x=some v
 |[],_,_,_,_,h,_,_=>by simp at h
 |_::_,[],_,_,_,_,h,_=>by simp at h
 |p::P,w::vs,0,m,nd,h1,h2,hk=>by
  simp at h1 h2;subst h1;subst h2
  show bindC a ((p,w)::P.zip vs) m p=_
  unfold bindC
  rw[oN fun v b=>(ZJ.mp nd).1 (abE b).1,if_neg hk]
  simp
 |p::P,w::vs,i+1,m,nd,h1,h2,hk=>by
  show bindC a ((p,w)::P.zip vs) m x=_
  unfold bindC
  exact oR (i:=i) (ZJ.mp nd).2 (by simpa using h1) (by simpa using h2) hk
def start (N:List Str) (vs:List V):St:=vs.map some++List.replicate (N.length - vs.length) none
def lY (CX:CXT) (P:Program) (w:World) (K:Frag) (mg:Str->Option Value) (base:Heap) (N:List Str) (a:Str) (scope:Scope) (f:Addr) (c:Value) (A:Around) (outer:List Env) (s:Shared) (H:Hp) (E:XK):Cx where
 prog:=P
 w:=w
 K:=K
 mg:=mg
 base:=base
 A:=A.deeper (envOfC a scope s.heap.objs.size f c)
 N:=N
 s₀:=s
 H₀:=H
 env:=envOfC a scope s.heap.objs.size f c
 outer:=outer
 stack:=envOfC a scope s.heap.objs.size f c::outer
 ex:=[]
 calm:=true
 fn:=fun _=>true
 pn:=[]
 xe:=fun e s'=>wpAny (model P w) (A.deeper (envOfC a scope s.heap.objs.size f c)) (leaving (envOfC a scope s.heap.objs.size f c) e) (fun _ b=>CX outer H s E e b) (fun d b=>CX outer H s E d b) s'
def jt {a:Scope} (h:a.names.lookup x=some .cell):∃c,(cellsFrom n a.names []).lookup x=some c:=by
 have q:=cellsFrom_some a.names n [] (.inl h);exact abk.mp q
def zN {K:Frag} (S:gk N ps scope) (M:A.handled=none) (j:adV P w K F base A outer s H) (R:vs.length=ps.length) (r:Vals vs us) (x:InCallC s s.heap.objs.size (bindL (envOfC d scope s.heap.objs.size f C).kindOf (ps.zip us) fun _=>none) (cellsFrom (s.heap.objs.size+1) scope.names []) (bindC (envOfC d scope s.heap.objs.size f C).kindOf (ps.zip us) fun _=>none) I):
  Inv (lY CX P w K F base N d scope f C A outer s H E) [] (start N vs) H I:=by
 have Q:ps.length<=N.length:=by have:=Zk List.length S.pre;rw[aam] at this;omega
 obtain⟨D,tk,rfl,G⟩:=x.done;have m:∀b:Addr,b∉(lY CX P w K F base N d scope f C A outer s H E).ex:=fun b z=>absurd (show b∈([]:List Addr) from z) (by simp);refine⟨⟨j.mod,S.kind,rfl,rfl,k_ _,fun y z c D g=>?_,fun y l=>?_,fun y c _ h=>?_,fun _=>M,Around.frames_deeper j.frames,.inr ⟨rfl,rfl⟩,fun b z=>absurd z (m b),j.bs,j.bsz,fun b _ _=>m b,fun b z=>absurd z (m b),j.funs,j.frf⟩,
  rfl,j.bare,Un.kept G,⟨_,x.toInCall.ns,fun i y v D g T=>?_⟩,fun y c h=>⟨_,x.cell y c h⟩,j.hok.fresh (k_ _),fun y c h=>?_,fun p t=>absurd (show p∈([]:List (Addr × Obj)) from t) (by simp),j.hok.kept G,?_⟩
 ·exact name_of_addr x.apart (mem_of_lookup D) (mem_of_lookup g)
 ·have l:scope.names.lookup y=some .cell\/scope.names.lookup y=some .free:=l;rcases l with l | l
  ·exact jt l
  exact absurd rfl (S.nofree _ (mem_of_lookup l))
 ·exact aaw (x.above y c (mem_of_lookup h))
 ·have B:i<vs.length:=by
   unfold start at g;by_cases B:i<vs.length
   ·exact B
   rw[V_ (by simpa using B)] at g;rw[abq] at g;split at g <;> cases g
  have O:vs[i]?=some v:=by
   unfold start at g;rw[Zx (by simpa using B),x_] at g;cases e:vs[i]? with
   |none=>rw[e] at g;cases g
   |some a=>rw[e] at g;cases g;rfl
  obtain⟨u,J,L⟩:=r.get O;have t:ps[i]?=some y:=by rw[<- S.pre,List.getElem?_take_of_lt (by omega)];exact D
  have o:ps.Nodup:=by rw[<- S.pre];exact S.nd.sublist (List.take_sublist _ _)
  refine⟨u,L,?_⟩;rcases S.par y (Zh t) with k | k
  ·exact .inl ⟨k,oO o t J k⟩
  obtain⟨c,e⟩:=jt (n:=s.heap.objs.size+1) k;refine .inr ⟨.inl k,c,e,?_⟩;have q:=x.cell y c e;rw[oR o t J (by show scope.names.lookup y≠_;rw[k];decide)] at q;exact q
 ·exact j.hok.fresh (aaw (x.above y c (mem_of_lookup h)))
 unfold start;show _=N.length;rw[g_,d_,Z0];omega
def Mr {K:Frag}{T kV l Z c ct oc:Value} (lk:K.lookup f=some ⟨oc,od,.func (fnOf name a d g scope T kV l Z R c ct),F⟩) (M:codeIn K c a=true) (S:gk N ps scope) (B:∀vs H Q E,sp vs H Q E->vs.length=ps.length) (i:∀(A:Around) (outer:List Env) (s:Shared) (H:Hp) (vs:List V) (Q:VK) (E:XK),tR k (A.deeper (envOfC a scope s.heap.objs.size f c))->sp vs H Q E ->
   ∃t,PSs (lY CX P w K C base N a scope f c A outer s H E) g t/\t { nx:=fun _ H'=>Q .non H',rt:=Q} (start N vs) H):
  acJ P w K C base CX (k+1) f (fnOf name a d g scope T kV l Z R c ct) ps sp:=by
 refine⟨B,fun A outer s H Y us vs Q E L p hb r z=>?_⟩;have hl:=B _ _ _ _ z;have X:K.In s.heap:=p.mod.kin.keeps fun b o e=>(p.bs b o e).1;have O:s.heap.NoLimit:=p.mod.nolimit.keeps fun b o e=>(p.bs b o e).1;have h:∀y∈ps.zip us,scope.names.lookup y.1=some .local\/(scope.names.lookup y.1=some .cell/\((cellsFrom (s.heap.objs.size+1) scope.names []).lookup y.1).isSome=true):=fun ⟨n,v⟩ hy=>by
  rcases S.par n (abE hy).1 with q | q
  ·exact .inl q
  exact .inr ⟨q,cellsFrom_some _ _ _ (.inl q)⟩
 refine codeAny_call_function L.depth (X _ _ lk) rfl S.co S.gen rfl (PySem.W.codeRec_of X M) (hb _ _ _ _ ?_);refine wpAny_newFunctionEnv_cells S.kind h fun env he U x=>?_;subst he;refine⟨O.keeps x.toInCall.keep,codeAny_func ?_⟩;obtain⟨t,ht,hq⟩:=i A outer s H vs Q E (L.deeper _) z;have I:Inv (lY CX P w K C base N a scope f c A outer s H E) [] (start N vs) H U:=zN S L.hd p hl r x;refine ZX (ht [] U (start N vs) H _ I hq) (fun fl s' j=>?_) fun e s' j=>j;have m:∀{D:St} {H':Hp} {v:V} {u:Value},Inv (lY CX P w K C base N a scope f c A outer s H E) [] D H' s'->RelV v u->Q v H'->CE outer P w H s Q u s' :=
  fun {D H' v u} J G q=>⟨v,H',J.os,J.bare,J.base,J.hok,G,q⟩
 cases fl with
 |ret u=>obtain⟨v,D,H',J,G,q⟩:=j;exact m J G q
 |next=>obtain⟨D,H',J,q⟩:=j;exact m (v:=V.non) (u:=Value.none) J rfl q
 |brk=>obtain⟨_,_,_,q⟩:=j;exact False.elim q
 |cont =>
 obtain⟨_,_,_,q⟩:=j;exact False.elim q
section
variable {p pos:Pos}{id T:String}
def tCB (r:List V->Hp->VK->Prop) (t:TA):TE:=fun Z H Q=>t Z H fun vs a=>r vs a Q
def BR (k:ach X (.builtin id) r) (f:Gl X x) (q:X.mg x=none) (d:bootBuiltins x=some (.builtin id)) (l:PA X (e::es) t) (u:x≠"__name__":=by decide) (b:(x==("__debug__":Str))=false:=by decide)
  (i:starEach (e::es) X.env=(false,eval e X.env)::starEach es X.env:=by rfl) (c:(backTo pos (starEach es X.env)).any (·.1)=false:=by rfl):PE X (.Call (.Name x p) (e::es) [] pos) (tCB r t):=by
 intro a s Z H Q I h;refine ZF (dB I f q d ?_ u b);exact PyProof.Rows.callWith_builtin1 (Fl (l pos a s Z H _ I h) fun us j ⟨vs,g,n,o,m⟩=>k a j Z g vs us Q n o m) i c
def zO (k:ach X (.type T) r) (f:Gl X x) (q:X.mg x=none) (d:bootBuiltins x=some (.type T)) (l:PA X (e::es) t) (u:x≠"__name__":=by decide) (b:(x==("__debug__":Str))=false:=by decide)
  (i:starEach (e::es) X.env=(false,eval e X.env)::starEach es X.env:=by rfl) (c:(backTo pos (starEach es X.env)).any (·.1)=false:=by rfl):PE X (.Call (.Name x p) (e::es) [] pos) (tCB r t):=by
 intro a s Z H Q I h;refine ZF (dB I f q d ?_ u b);exact Zj (Fl (l pos a s Z H _ I h) fun us j ⟨vs,g,n,o,m⟩=>k a j Z g vs us Q n o m) i c
end
end L2
namespace HT
open PySem PyProof.Rows
section
open PySem.SeqAt
open PySem.AutoSeq1 (wpAny_loadPart')
open PySem.MeetsSeq PySem.MeetsSeq2 PySem.MeetsSeq3
def afc (u:IsTup s.heap t vs.toArray) (x:IsTup s.heap b ws.toArray) (k:vs≠[]) (v:ws=[]->Q (.ref t) s) (y:ws≠[]->Q (.ref s.heap.objs.size) { s with heap:=s.heap.push { cls:=.type "tuple",data:=.seq (vs++ws).toArray}}) (hsz:vs.length+ws.length<=sizeLine):wpAny (model prog w) A (binaryOp .Add (.ref t) (.ref b)) Q E s:=by
 obtain⟨⟨cls,m,data,q⟩,i,p,n,o⟩:=id u;obtain⟨⟨r,d,j,f⟩,a,c,l,g⟩:=id x;simp only at p o c g;subst p o c g;have e:vs.toArray++ws.toArray=(vs++ws).toArray:=by simp
 by_cases h:ws=[]
 ·exact concat_meets ⟨_,i,rfl⟩ ⟨_,a,rfl⟩ noFill_tuple_add seq_tuple_add PySem.F.slot_tuple_add PySem.F.entry_tuple_add (abP _ _)
   (tuple_addW1 t b vs.toArray ws.toArray n l m d q f (by simpa using k) (by simp [h])) ⟨i,a,v h⟩
 refine concat_meets ⟨_,i,rfl⟩ ⟨_,a,rfl⟩ noFill_tuple_add seq_tuple_add PySem.F.slot_tuple_add PySem.F.entry_tuple_add (abP _ _)
  (tuple_addW2 t b vs.toArray ws.toArray n l m d q f (by simpa using k) (by simpa using h) (by rw[v_,v_];exact hsz)) ⟨i,a,?_⟩
 rw[e];exact y h
def sIx (n d:Nat):Option Int->Nat
 |none=>d
 |some v=>if v<0 then (v+(n:Int)).toNat else min v.toNat n
def aet (n d:Nat):sIx n d none=d:=rfl
def ad4 (n d k:Nat):sIx n d (some (k:Int))=min k n:=by
 show (if (k:Int)<0 then ((k:Int)+(n:Int)).toNat else min (k:Int).toNat n)=min k n;rw[if_neg (by omega),ZV]
def Qd (n d:Nat) (b:d<=n) (o:Option Int):sIx n d o<=n:=by
 cases o with
 |none=>exact b
 |some v =>
  show (if v<0 then (v+(n:Int)).toNat else min v.toNat n)<=n
  by_cases a:v<0
  ·
   rw[if_pos a];omega
  ·
   rw[if_neg a];exact Nat.min_le_right _ _
def xN (v:Int) (n d:Nat):(if v<0 then max (v+(n:Int)) 0 else min v (n:Int))=((sIx n d (some v):Nat):Int):=by
 show (if v<0 then max (v+(n:Int)) 0 else min v (n:Int))=(((if v<0 then (v+(n:Int)).toNat else min v.toNat n):Nat):Int);by_cases a:v<0
 ·simp only[if_pos a];omega
 simp only[if_neg a];omega
def vH (b a:Option Int) (n:Nat):Builtin.Slice.sliceAdjust b a 1 (n:Int)=(((sIx n 0 b:Nat):Int),((sIx n n a:Nat):Int)):=by
 have c:¬((1:Int)<0):=by omega
 unfold Builtin.Slice.sliceAdjust;simp only[c,Zv];refine ab8 ?_ ?_
 ·cases b with
  |none=>rfl
  |some v=>exact xN v n 0
 cases a with
 |none=>rfl
 |some v=>exact xN v n n
def vI (i j:Nat):Builtin.Slice.slicePlaces (i:Int) (j:Int) 1=j - i:=by
 unfold Builtin.Slice.slicePlaces;have a:(1:Int)>0:=by omega
 simp only[a,if_true,Int.ediv_one];split <;> omega
def jb (p:IsPart v o) (h:Q o s):wpAny (model prog w) A (Builtin.Slice.slicePartIndex v) Q E s:=by
 cases p with
 |none=>exact slicePart_none h
 |int i t=>exact slicePart_int h
def fW {Q:Int × Int × Nat->Shared->Prop} (j:s.heap.IsSliceOf g e f .none) (pl:IsPart e a) (k:IsPart f b) (h:Q (((sIx n 0 a:Nat):Int),1,sIx n n b - sIx n 0 a) s):wpAny (model prog w) A (Builtin.Slice.sliceApplied (.ref g) (pure (n:Int))) Q E s:=by
 obtain⟨l,d,i,c⟩:=id j;unfold Builtin.Slice.sliceApplied Builtin.Slice.sliceFields;refine a_ (a_ (T_ d c (x:=e) rfl (a_ (T_ d c (x:=f) rfl (a_ (T_ d c (x:=.none) rfl (h_ ?_)))))));refine a_ (slicePart_none ?_);show wpAny _ _ (if ((1:Int)==0)=true then _ else _) _ _ s;rw[if_neg (by decide)];refine a_ (jb pl (a_ (jb k (a_ (h_ ?_)))));show wpAny _ _ (match Builtin.Slice.sliceAdjust a b 1 (n:Int) with | (a,b)=>pure (a,(1:Int),Builtin.Slice.slicePlaces a b 1)) _ _ s;rw[vH a b n];show wpAny _ _ (pure (((sIx n 0 a:Nat):Int),(1:Int),Builtin.Slice.slicePlaces ((sIx n 0 a:Nat):Int) ((sIx n n b:Nat):Int) 1)) _ _ s;rw[vI];exact h_ h
def BV (xs : Array Value) (i k : Nat) : ((List.range k).filterMap fun (m : Nat) => xs[((i : Int) + (m : Int) * 1).toNat]?).toArray = ((xs.toList.drop i).take k).toArray:=by
 have e:(fun (m:Nat)=>xs[((i:Int)+(m:Int)*1).toNat]?)=fun m=>xs[i+m]?:=by
  funext m;have:((i:Int)+(m:Int)*1).toNat=i+m:=by omega
  rw[this]
 rw [e];have:=pick_run xs i k;rw [List.filterMap_map] at this;have a : ((fun x => xs[x]?) ∘ fun x => i + x) = fun m => xs[i + m]?:=rfl;rw [a] at this;rw [this]
def acZ (e:IsTup s.heap t a) (n:s.heap.IsSliceOf j l o .none) (pl:IsPart l c) (u:IsPart o d) (p:¬(sIx a.size 0 c=0/\sIx a.size a.size d=a.size)) (h:Q (.ref s.heap.objs.size) { s with heap:=s.heap.push { cls:=.type "tuple",data:=.seq ((a.toList.drop (sIx a.size 0 c)).take (sIx a.size a.size d - sIx a.size 0 c)).toArray}}) (hsz:a.size<=sizeLine):wpAny (model prog w) A (getItem (.ref t) (.ref j)) Q E s:=by
 have b:sizeOk (.seq ((a.toList.drop (sIx a.size 0 c)).take (sIx a.size a.size d - sIx a.size 0 c)).toArray):=by show ((a.toList.drop (sIx a.size 0 c)).take (sIx a.size a.size d - sIx a.size 0 c)).toArray.size<=sizeLine;rw[v_,aam,abr,aa1];omega
 have x:sIx a.size a.size d<=a.size:=Qd _ _ (k_ _) d;obtain⟨v,k,f,r⟩:=id n;have g:s.TypeIs (.ref j) "slice":=⟨v,k,f⟩;unfold getItem;try with_reducible refine ZP ?_
 first | refine a_ (h_ ?_) | skip
 refine a_ (wpAny_sequenceKey e.typeIs (by decide) ?_);refine a_ (Zz (name:=Str.ofString "__getitem__") e.typeIs Zu
  (ZG Zu e.typeIs entry_tuple_getitem ?_ (args_tuple_getitem _ _)))
 show wpAny _ _ (Builtin.Tuple.tupleItemsOf (.ref t) >>= _) _ _ s;refine a_ (tupleItemsOf_ e ?_);refine a_ (aa3 g ?_);rw[if_pos (by decide)];refine a_ (fW n pl u ?_);have i:¬((((sIx a.size 0 c:Nat):Int)==0&&(1:Int)==1&&(sIx a.size a.size d - sIx a.size 0 c)==a.size)=true):=by intro q;rw[Zq,Zq] at q;have y:((sIx a.size 0 c:Nat):Int)=0:=eq_of_beq q.1.1;have z:sIx a.size a.size d - sIx a.size 0 c=a.size:=eq_of_beq q.2;exact p ⟨by omega,by omega⟩
 show wpAny _ _ (if (((sIx a.size 0 c:Nat):Int)==0&&(1:Int)==1&&(sIx a.size a.size d - sIx a.size 0 c)==a.size)=true then _ else _) _ _ s;rw[if_neg i,BV];first
  |exact a_ (m:=Builtin.Tuple.tupleExact _) (Zw (h_ ⟨_,rfl,h_ h⟩) b)
  |exact a_ (m:=Builtin.Tuple.tupleExact _) (Zw (a_ (h_ (h_ ⟨_,rfl,h_ h⟩))) b)
  |exact a_ (a_ (m:=Builtin.Tuple.tupleExact _) (Zw (h_ (h_ ⟨_,rfl,h_ h⟩)) b))
  |exact a_ (a_ (m:=Builtin.Tuple.tupleExact _) (Zw (h_ ⟨_,rfl,h_ h⟩) b))
end
end HT
namespace L2
abbrev TO:=St->Hp->(Option Int->Hp->Prop)->Prop
def PO (X:Cx) (e:Option Expr) (t:TO):Prop :=
 ∀(a:List (Addr × Obj)) (s:Shared) (Z:St) (H:Hp) (Q:Option Int->Hp->Prop),Inv X a Z H s->t Z H Q ->
  wpAny (model X.prog X.w) X.A (evalPart e X.env) (fun u s'=>∃o H',Inv X a Z H' s'/\IsPart u o/\Q o H') X.xe s
def Ja:TO:=fun _ H Q=>Q none H
def UV (t:TE):TO:=fun Z H Q=>t Z H fun x a=>∃i,x=.int i/\Q (some i) a
section
variable {lo hi:Option Expr}
def Jb:PO X none Ja:=by
 intro a s Z H Q I h;rw[evalPart_none];exact h_ ⟨none,H,I,.none,h⟩
def Jc (h:PE X e te):PO X (some e) (UV te):=by
 intro a s Z H Q I c;rw[evalPart_some];refine Fl (h a s Z H _ I c) fun u j ⟨x,b,f,g,d⟩=>?_;obtain⟨i,rfl,q⟩:=d;obtain⟨t,rfl⟩:=g;exact⟨some i,b,f,.int i t,q⟩
def SlR (X:Cx) (r:V->Option Int->Option Int->Hp->VK->Prop):Prop :=
 ∀(a:List (Addr × Obj)) (s:Shared) (Z:St) (H:Hp) (x:V) (v e f:Value) (b d:Option Int) (c:Addr) (Q:VK),Inv X a Z H s->RelV x v->s.heap.IsSliceOf c e f .none->IsPart e b->IsPart f d->r x b d H Q ->
  ∃T id,typeLookup (.type T) "__getitem__"=pure (some (.builtin id))/\s.TypeIs v T/\wpAny (model X.prog X.w) X.A (getItem v (.ref c)) (EP X a Z Q) X.xe s
def SlR.or (h:SlR X r) (h':SlR X f):SlR X (fun x b c H Q=>r x b c H Q\/f x b c H Q):=by
 intro a s Z H x v j k b c e Q I d g pl i q;rcases q with q | q
 ·exact h a s Z H x v j k b c e Q I d g pl i q
 exact h' a s Z H x v j k b c e Q I d g pl i q
def tSl (r:V->Option Int->Option Int->Hp->VK->Prop) (te:TE) (c th:TO):TE:=fun Z H Q=>te Z H fun x a=>c Z a fun l b=>th Z b fun u H3=>r x l u H3 Q
def rP (p:SlR X r) (C:PE X e te) (n:PO X lo tl) (K:PO X hi th):PE X (.Subscript e (.Slice lo hi none p2) pos) (tSl r te tl th):=by
 intro a s Z H Q I h;refine Subscript_ (Fl (C a s Z H _ I h) fun v D ⟨x,B,G,o,m⟩=>?_);refine wpAny_Slice (Fl (n a D Z B _ G m) fun c g ⟨l,i,z,pl,y⟩=>Fl (K a g Z i _ z y) fun d s3 ⟨u,H3,j,E,J⟩=>?_);rw[evalPart_none];refine h_ ?_;have k:Inv X a Z H3 { s3 with heap:=s3.heap.push { cls:=.type "slice",data:=.fields #[c,d,.none]}}:=j.kept (t':=s3.toks) fun b L q=>b_ _ q;obtain⟨T,id,F,t,f⟩:=p a { s3 with heap:=s3.heap.push { cls:=.type "slice",data:=.fields #[c,d,.none]}} Z H3 x v c d l u s3.heap.objs.size Q k o (Heap.IsSliceOf.new ..) pl E J;show wpAny (model X.prog X.w) X.A (subscriptTail e (.Slice lo hi none p2) v (.ref s3.heap.objs.size)) (EP X a Z Q) X.xe { s3 with heap:=s3.heap.push { cls:=.type "slice",data:=.fields #[c,d,.none]}};exact tail_any (ops:=[.ref s3.heap.objs.size,v]) t F f (by with_unfolding_all rfl)
def rQ (xs:List V) (a b:Option Int):List V:=(xs.drop (HT.sIx xs.length 0 a)).take (HT.sIx xs.length xs.length b - HT.sIx xs.length 0 a)
def j5 (xs:List V) (b a:Option Int):(rQ xs b a).length<=xs.length:=by
 unfold rQ;rw[aam,abr];omega
def Yn (K:Frag):V->Option Int->Option Int->Hp->VK->Prop:=fun x c b H Q=>∃a xs,x=.ref a/\SqT K H a xs /\
 ¬(HT.sIx xs.length 0 c=0/\HT.sIx xs.length xs.length b=xs.length)/\∀p,H p=none->Q (.ref p) (upd H p (.tup (rQ xs c b)))
def aev:SlR X (Yn X.K):=by
 intro i s Z H x v w y d f u Q I l m pl n h;obtain⟨a,xs,rfl,p,k,q⟩:=h;cases l;obtain⟨e,r,g,j⟩:=I.tuple p;have c:e.toArray.size=xs.length:=by rw[v_];exact r.length.symm
 refine⟨"tuple",_,Zu.lookup,g.typeIs,?_⟩;refine HT.acZ g m pl n (by rw[c];exact k) ?_ (by rw[c];exact j);rw[c];refine⟨.ref s.heap.objs.size,_,I.laid (t':=s.toks) (o:=.tup (rQ xs d f)) (fun b t q=>b_ _ q) (k_ _) ?_,rfl,q _ (I.hok.fresh (k_ _))⟩;exact⟨P_ (j5 xs d f) j,_,(r.drop (HT.sIx xs.length 0 d)).take (HT.sIx xs.length xs.length f - HT.sIx xs.length 0 d),ac6.new _ _⟩
def UW (K:Frag):R2:=fun x y H Q=>∃a b xs ys,x=.ref a/\y=.ref b/\SqT K H a xs/\SqT K H b ys/\xs≠[]/\xs.length+ys.length<=sizeLine /\
 (ys=[]->Q (.ref a) H)/\(ys≠[]->∀p,H p=none->Q (.ref p) (upd H p (.tup (xs++ys))))
def Vals.nil_iff (r:Vals xs us):us=[]↔xs=[]:=by
 cases r with
 |nil=>simp
 |cons _ _=>simp
def afe:OpR X (binaryOp .Add) (UW X.K):=by
 intro e s Z H x y v u Q I k j h;obtain⟨a,b,xs,ys,rfl,rfl,n,l,r,f,m,p⟩:=h;cases k;cases j;obtain⟨i,d,p1,_⟩:=I.tuple n;obtain⟨g,c,t,_⟩:=I.tuple l;refine HT.afc p1 t (fun z=>r (d.nil_iff.mp z)) (fun z=>⟨.ref a,H,I,rfl,m (c.nil_iff.mp z)⟩) (fun z=>?_) (by rw[<- d.length,<- c.length];exact f);refine⟨.ref s.heap.objs.size,_,I.laid (t':=s.toks) (o:=.tup (xs++ys)) (fun b A q=>b_ _ q) (k_ _) ?_,rfl,p (fun w=>z (c.nil_iff.mpr w)) _ (I.hok.fresh (k_ _))⟩;exact⟨by rw[g_];exact f,_,d.append c,ac6.new _ _⟩
end
def ixN (n:Nat) (i:Int):Option Nat:=if 0<=i then (if i<n then some i.toNat else none) else if -(n:Int)<=i then some (i+n).toNat else none
def atI {a:Type}(xs:List a) (i:Int):Option a:=(ixN xs.length i).bind fun j=>xs[j]?
def xO (h:ixN n i=some j):seqIndex? i n=some j/\j<n /\ -(n:Int)<=i/\i<n:=by
 unfold ixN at h;by_cases b:0<=i
 ·rw[if_pos b] at h;by_cases a:i<n
  ·rw[if_pos a] at h;have e:i.toNat=j:=D_ h;exact⟨by rw[seqIndex_of b a,e],by omega,by omega,a⟩
  rw[if_neg a] at h;cases h
 rw[if_neg b] at h;by_cases a : -(n:Int)<=i
 ·rw[if_pos a] at h;have e:(i+n).toNat=j:=D_ h;exact⟨by rw[seqIndex_neg (by omega) a,e],by omega,a,by omega⟩
 rw[if_neg a] at h;cases h
def pY {xs:List a}{v:a} (h:atI xs i=some v):∃j,seqIndex? i xs.length=some j/\xs[j]?=some v/\j<xs.length /\ -(xs.length:Int)<=i/\i<xs.length:=by
 unfold atI at h;cases e:ixN xs.length i with
 |none=>rw[e] at h;cases h
 |some j =>
 rw[e] at h;obtain⟨f,c,d,b⟩:=xO e;exact⟨j,f,h,c,d,b⟩
def cG {xs:List a}{j:Nat}{v:a} (h:xs[j]?=some v):atI xs (j:Int)=some v:=by
 have b:j<xs.length:=(ZC.mp h).1;have e:ixN xs.length (j:Int)=some j:=by unfold ixN;rw[if_pos (by omega),if_pos (by omega)];simp
 unfold atI;rw[e];exact h
def BW (xs:List a) (v:a):atI (xs++[v]) (-1)=some v:=by
 have b:(xs++[v]).length=xs.length+1:=by simp
 have e:ixN (xs++[v]).length (-1)=some xs.length:=by unfold ixN;rw[b,if_neg (by decide),if_pos (by omega)];congr 1;omega
 unfold atI;rw[e];show (xs++[v])[xs.length]?=some v;simp
def xP (b:Expr):Prop:=∀o i,subscripted b false o i=operate [o,i] (getItem o i)
def IxR (X:Cx) (r:R2):Prop :=
 ∀(c a:Expr) (b:List (Addr × Obj)) (s:Shared) (Z:St) (H:Hp) (x y:V) (v u:Value) (Q:VK),Inv X b Z H s->RelV x v->RelV y u->r x y H Q ->
  subscripted a false v u=operate [v,u] (getItem v u)->wpAny (model X.prog X.w) X.A (subscriptTail c a v u) (EP X b Z Q) X.xe s
def MtR (X:Cx) (id:String) (r:V->List V->Hp->VK->Prop):Prop :=
 ∀(a:List (Addr × Obj)) (s:Shared) (Z:St) (H:Hp) (x:V) (xs:List V) (v:Value) (us:List Value) (Q:VK),Inv X a Z H s->RelV x v->Vals xs us->r x xs H Q ->
  wpAny (model X.prog X.w) X.A (call (.builtin id) (v::us)) (EP X a Z Q) X.xe s
section
variable {X:Cx}{a b:Expr}
def IxR.or (h:IxR X r) (h':IxR X f):IxR X (fun x y H Q=>r x y H Q\/f x y H Q):=by
 intro b a c s Z H x y v u Q I e d q g;rcases q with q | q
 ·exact h b a c s Z H x y v u Q I e d q g
 exact h' b a c s Z H x y v u Q I e d q g
def U0 (m:IxR X r) (j:PE X a ta) (i:PE X b tb) (k:xP b):PE X (.Subscript a b pos) (tOp r ta tb):=by
 intro c s Z H Q I h;exact Subscript_ (Py j i I h fun v u e x y d l g f q=>m a b c e Z d x y v u Q l g f q (k _ _))
def U3 (K:Frag):R2:=fun x y H Q=>∃p xs i v,x=.ref p/\y=.int i/\SqL K H p xs/\atI xs i=some v/\Q v H
def U4 (K:Frag):R2:=fun x y H Q=>∃p xs i v,x=.ref p/\y=.int i/\SqT K H p xs/\atI xs i=some v/\Q v H
def U5:R2:=fun x y H Q=>∃z i c,x=.str z/\y=.int i/\z.length<=sizeLine/\atI z.cps.toList i=some c/\Q (.str ⟨#[c]⟩) H
def ae_:IxR X (U3 X.K):=by
 intro g d a s Z H x y v u Q I G F h l;obtain⟨p,xs,i,z,rfl,rfl,C,D,q⟩:=h;cases G;obtain⟨t,rfl⟩:=F;obtain⟨f,r,pl,M⟩:=I.list C;obtain⟨j,c,E,J,o,A⟩:=pY D;obtain⟨w,n,k⟩:=r.get E;have B:=r.length;have L:=fK;have b:EP X a Z Q w s:=⟨z,H,I,k,q⟩;by_cases m:0<=i
 ·have e:i.toNat=j:=by rw[seqIndex_of m A] at c;exact D_ c
  exact item_listR pl.isList m (by omega) (by rw[e];simpa using n) b l
 have e:(i+(f.toArray.size:Int)).toNat=j:=by rw[seqIndex_neg (by omega) o] at c;rw[v_,<- B];exact D_ c
 exact subscriptTail_builtinR (x:=w) pl.isList.typeIs slot_list_getitem.lookup
  (wpAny_getItem_list_neg (Q:=fun r s'=>r=w/\EP X a Z Q r s') pl.isList (by omega) (by rw[v_] <;> omega) (by omega) (by rw[e];simpa using n) ⟨rfl,b⟩) l
def af0:IxR X (U4 X.K):=by
 intro c b a s Z H x y v u Q I C B h k;obtain⟨p,xs,i,z,rfl,rfl,l,o,q⟩:=h;cases C;obtain⟨t,rfl⟩:=B;obtain⟨g,r,pl,G⟩:=I.tuple l;obtain⟨j,n,A,F,D,E⟩:=pY o;obtain⟨w,m,e⟩:=r.get A;have f:=r.length;have J:=fK;have d:EP X a Z Q w s:=⟨z,H,I,e,q⟩;exact subscriptTail_builtinR (x:=w) pl.typeIs slot_tuple_getitem.lookup
  (getItem_tuple (j:=j) (Q:=fun r s'=>r=w/\EP X a Z Q r s') pl (by omega) (by omega) (by rw[v_,<- f];exact n) (by simpa using m) ⟨rfl,d⟩) k
def Qe:IxR X U5:=by
 intro b a d s Z H x y v u Q I n m h o;obtain⟨z,i,c,rfl,rfl,C,k,q⟩:=h;obtain⟨t,rfl⟩:=n;obtain⟨t',rfl⟩:=m;obtain⟨j,e,p,A,f,g⟩:=pY k;have r:z.cps.toList.length=z.length:=by simp [Str.length]
 rw[r] at e f g;have B:=fK;exact tail_any (typeIs_str s z t) slot_str_getitem.lookup (getItem_str (c:=c) (by
  have w:decide (i < -(2^63:Int))=false:=E_ (by omega)
  have l:decide (i ≥ 2^63)=false:=E_ (by omega)
  rw[w,l,Bool.or_false]) (by rw[e];simpa using p) ⟨.str ⟨#[c]⟩,H,I.tok _,⟨_,rfl⟩,q⟩) o
def rIx (K:Frag):R2:=fun x y H Q=>U3 K x y H Q\/U4 K x y H Q\/U5 x y H Q
def Qf:IxR X (rIx X.K):=ae_.or (af0.or Qe)
def vJ (a:List Value) (n j:Nat) (u:Value):Obj.mapSeq (·.setIfInBounds j u) { cls:=.type "list",data:=.seq a.toArray n}={ cls:=.type "list",data:=.seq (a.set j u).toArray n}:=by
 simp [Obj.mapSeq]
def Inv.lst {b:List (Addr × Obj)}{Z:St}{H:Hp}{s:Shared}{p:Addr}{xs:List V}(I:Inv X b Z H s) (h:H p=some (.lst xs)) :
  ∃(a:List Value) (n:Nat),Vals xs a/\s.heap.get? p=some { cls:=.type "list",data:=.seq a.toArray n}/\xs.length<=sizeLine:=by
 obtain⟨z,a,n,r,e⟩:=I.hok p _ h;exact⟨a,n,r,e,z⟩
def Inv.lstUpd {a:List (Addr × Obj)}{Z:St}{c its':List Value} (I:Inv X a Z H s) (h:H p=some (.lst xs)) (j:s.heap.get? p=some { cls:=.type "list",data:=.seq c.toArray n}) (g:f { cls:=.type "list",data:=.seq c.toArray n}={ cls:=.type "list",data:=.seq its'.toArray d}) (r:Vals ys its') (k:ys.length<=sizeLine) (t:Nat):
  Inv X a Z (upd H p (.lst ys)) { s with heap:=s.heap.update p f,toks:=t}:=by
 have e:(s.heap.update p f).get? p=some { cls:=.type "list",data:=.seq its'.toArray d}:=by rw[ZL f j (by rw[g] <;> rfl),g]
 refine I.write (x:=p) (e:=p) (by rw[h];trivial) (.inl rfl) (fun b u i q=>(Y_ _ _ (Ne.symm i)).trans q) ⟨_,e⟩ ?_;exact⟨k,its',d,r,e⟩
def U6:V->V->V->Hp->(Hp->Prop)->Prop:=fun o i v H Q=>∃p xs k j,o=.ref p/\i=.int k/\H p=some (.lst xs)/\ixN xs.length k=some j/\Q (upd H p (.lst (xs.set j v)))
def set_list:adU X U6:=by
 intro a s Z H o i v G F u Q I y C A h;obtain⟨p,xs,k,j,rfl,rfl,x,z,q⟩:=h;cases y;obtain⟨t,rfl⟩:=C;obtain⟨b,n,r,e,B⟩:=I.lst x;obtain⟨c,D,w,g⟩:=xO z;have f:=r.length;have E:=fK;have l:Inv X a Z (upd H p (.lst (xs.set j v))) { s with heap:=s.heap.update p (Obj.mapSeq (·.setIfInBounds j u))} :=
  I.lstUpd x e (vJ b n j u) (r.set A j) (by rw[List.length_set];exact B) s.toks
 by_cases m:0<=k
 ·have d:k.toNat=j:=by rw[seqIndex_of m g] at c;exact D_ c
  exact PySem.W.ki_setAt e m (by omega) (by rw[v_,<- f];exact g) (by rw[d];exact⟨_,l,q⟩)
 have d:(k+(b.toArray.size:Int)).toNat=j:=by rw[seqIndex_neg (by omega) w] at c;rw[v_,<- f];exact D_ c
 exact PySem.W.ki_setBack e (by omega) (by rw[v_,<- f];exact w) (by omega) (by rw[d];exact⟨_,l,q⟩)
def pZ (b a:Option Int) (n:Nat):(sliceBounds b a none n).1=((HT.sIx n 0 b:Nat):Int)/\(sliceBounds b a none n).2.1=((HT.sIx n n a:Nat):Int)/\(sliceBounds b a none n).2.2=1:=by
 refine⟨?_,?_,rfl⟩
 ·cases b with
  |none=>simp [sliceBounds,HT.sIx]
  |some i =>
  simp only[sliceBounds,HT.sIx,Option.getD_none,show (1:Int)>0 by decide,if_true];by_cases h:i<0
  ·simp only[h,if_true] <;> omega
  simp only[h,Zv] <;> omega
 cases a with
 |none=>simp [sliceBounds,HT.sIx]
 |some i =>
 simp only[sliceBounds,HT.sIx,Option.getD_none,show (1:Int)>0 by decide,if_true];by_cases h:i<0
 ·simp only[h,if_true] <;> omega
 simp only[h,Zv] <;> omega
def nP (a:List Value) (b c:Option Int):slicePick a.toArray b c none=((a.drop (HT.sIx a.length 0 b)).take (HT.sIx a.length a.length c - HT.sIx a.length 0 b)).toArray:=by
 obtain⟨f,d,e⟩:=pZ b c a.toArray.size;unfold slicePick;rw[f,d,e];simp only[sliceRange_one,pick_run,v_] <;> rfl
def Yo (K:Frag):V->Option Int->Option Int->Hp->VK->Prop:=fun x c b H Q=>∃a xs,x=.ref a/\SqL K H a xs/\∀p,H p=none->Q (.ref p) (upd H p (.lst (rQ xs c b)))
def ae3:SlR X (Yo X.K):=by
 intro g s Z H x v u w d e t Q I j k pl l h;obtain⟨a,xs,rfl,m,q⟩:=h;cases j;obtain⟨i,r,f,n⟩:=I.list m;have c:=r.length;refine⟨"list",_,slot_list_getitem.lookup,f.isList.typeIs,?_⟩;refine wpAny_getItem_list_slice f.isList k pl l .none (by simp) ?_ (by rw[v_] <;> omega);rw[nP,<- c];refine⟨.ref s.heap.objs.size,_,I.laid (t':=s.toks) (o:=.lst (rQ xs d e)) (fun b p q=>b_ _ q) (k_ _) ?_,rfl,q _ (I.hok.fresh (k_ _))⟩;exact⟨P_ (j5 xs d e) n,_,0,(r.drop (HT.sIx xs.length 0 d)).take (HT.sIx xs.length xs.length e - HT.sIx xs.length 0 d),j_ _ rfl⟩
def adx:ach X (.builtin "len") (fun xs H Q=>∃p ys,xs=[.ref p]/\(SqL X.K H p ys\/SqT X.K H p ys)/\Q (.int ys.length) H):=by
 intro e s Z H xs us Q I r h;obtain⟨p,ys,rfl,b,q⟩:=h;obtain⟨u,rfl,f⟩:=vals1 r;cases f;have i:=fK;rcases b with b | b
 ·obtain⟨c,d,pl,g⟩:=I.list b;have a:=d.length;exact Calls.call_len_list pl.isList (by simp only[v_] <;> omega) ⟨.int ys.length,H,I.tok _,⟨s.toks+1,by rw[v_,a]⟩,q⟩
 obtain⟨c,d,pl,g⟩:=I.tuple b;have a:=d.length;exact len_tuple pl (by simp only[v_] <;> omega) ⟨.int ys.length,H,I.tok _,⟨s.toks+1,by rw[v_,a]⟩,q⟩
def p7:ach X (.builtin "len") (fun xs H Q=>∃z,xs=[.str z]/\z.length<=sizeLine/\Q (.int z.length) H):=by
 intro a s Z H xs us Q I r h;obtain⟨z,rfl,b,q⟩:=h;obtain⟨u,rfl,t,rfl⟩:=vals1 r;have c:=fK;exact len_str (by omega) ⟨.int z.length,H,I.tok _,⟨_,rfl⟩,q⟩
def ach.or (h:ach X f r) (h':ach X f c):ach X f (fun xs H Q=>r xs H Q\/c xs H Q):=by
 intro a s Z H xs us Q I b q;rcases q with q | q
 ·exact h a s Z H xs us Q I b q
 exact h' a s Z H xs us Q I b q
def qb:ach X (.type "list") (fun xs H Q=>∃p ys,xs=[.ref p]/\(SqL X.K H p ys\/SqT X.K H p ys)/\∀l,H l=none->Q (.ref l) (upd H l (.lst ys))):=by
 intro i s Z H xs us Q I r h;obtain⟨p,ys,rfl,j,q⟩:=h;obtain⟨u,rfl,z⟩:=vals1 r;cases z;have k:∀(a:List Value),Vals ys a->ys.length<=sizeLine->∀(h':Heap) (c:Nat),(∀b y,s.heap.get? b=some y->h'.get? b=some y) ->
   h'.get? s.heap.objs.size=some { cls:=.type "list",dict:=none,data:=.seq a.toArray c,slots:=#[]}->EP X i Z Q (.ref s.heap.objs.size) { s with heap:=h'}:=fun a d m h' c g e =>
  ⟨.ref s.heap.objs.size,_,I.laid (t':=s.toks) g (k_ _) (show vy X.prog X.w _ h' _ (.lst ys) from ⟨m,a,c,d,e⟩),rfl,q _ (I.hok.fresh (k_ _))⟩
 rcases j with j | j
 ·obtain⟨a,d,pl,m⟩:=I.list j;have f:=d.length;obtain⟨o,v,t,n,x⟩:=pl.isList;exact call_list_seq p (.inl rfl) v t x (fun h' c g e=>k a d m h' c g e) (by simp only[v_] <;> omega)
 obtain⟨a,d,pl,m⟩:=I.tuple j;have f:=d.length;obtain⟨o,v,t,n,x⟩:=pl;exact call_list_seq p (.inr rfl) v t x (fun h' c g e=>k a d m h' c g e) (by simp only[v_] <;> omega)
def nQ:ach X (.type "tuple") (fun xs H Q=>∃p ys,xs=[.ref p]/\((SqL X.K H p ys/\∀l,H l=none->Q (.ref l) (upd H l (.tup ys)))\/(SqT X.K H p ys/\Q (.ref p) H))):=by
 intro a s Z H xs us Q I r h;obtain⟨p,ys,rfl,h⟩:=h;obtain⟨u,rfl,k⟩:=vals1 r;cases k;rcases h with ⟨f,q⟩ | ⟨f,q⟩
 ·obtain⟨c,d,pl,j⟩:=I.list f;have g:=d.length;refine call_tuple_list pl.isList (fun h' m=>?_) (by simp only[v_] <;> omega);have i:Inv X a Z H { s with heap:=h'}:=I.kept (t':=s.toks) m;have n:Inv X a Z (upd H h'.objs.size (.tup ys)) { s with heap:=h'.push { cls:=.type "tuple",data:=.seq c.toArray}} :=
   i.laid (t':=s.toks) (fun b o e=>b_ _ e) (k_ _) (show vy X.prog X.w _ _ _ (.tup ys) from ⟨j,c,d,ac6.new _ _⟩)
  exact⟨.ref h'.objs.size,_,n,rfl,q _ (i.hok.fresh (k_ _))⟩
 obtain⟨c,d,pl,j⟩:=I.tuple f;exact call_tuple_same pl ⟨.ref p,H,I,rfl,q⟩
def tyV (K:Frag) (T:String) (x:V) (H:Hp):Prop:=match x with
 |.str _=>T="str"
 |.int _=>T="int"
 |.ref p=>(T="list"/\∃xs,SqL K H p xs)\/(T="tuple"/\∃xs,SqT K H p xs) \/
   (T="dict"/\((∃kvs,H p=some (.dK kvs))\/∃kvs,H p=some (.dT kvs)))\/(T="set"/\∃S n,H p=some (.set S n))
 |_=>False
def BX {Z:St} (I:Inv X g Z H s) (r:RelV x v) (h:tyV X.K T x H):
  s.TypeIs v T/\∀a,v=.ref a->∃m,s.heap.get? a=some m/\m.dict=none:=by
 cases x with
 |str z=>obtain⟨t,rfl⟩:=r;cases (show T="str" from h);exact⟨typeIs_str s z t,fun _ e=>nomatch e⟩
 |int i=>obtain⟨t,rfl⟩:=r;cases (show T="int" from h);exact⟨typeIs_int s i t,fun _ e=>nomatch e⟩
 |ref p =>
  cases r;rcases h with ⟨rfl,xs,u⟩ | ⟨rfl,xs,b⟩ | ⟨rfl,b⟩ | ⟨rfl,S,n,b⟩
  ·obtain⟨f,_,pl,_⟩:=I.list u;refine⟨pl.isList.typeIs,fun a e=>?_⟩;cases e;obtain⟨o,n,e,c,j,_⟩:=pl;exact⟨o,e,j⟩
  ·rcases b with b | ⟨o,f,n,b,l,j,_⟩
   ·obtain⟨_,f,r,o,q,l,n,j,w⟩:=b.ok I.hok;refine⟨⟨o,q,l⟩,fun a e=>?_⟩;cases e;exact⟨o,q,w⟩
   refine⟨⟨o,I.kIn p o b,l⟩,fun a e=>?_⟩;cases e;exact⟨o,I.kIn _ o b,j⟩
  ·have z:∃o,s.heap.get? p=some o/\o.ExactDict:=by
    rcases b with ⟨kvs,b⟩ | ⟨kvs,b⟩
    ·obtain⟨_,_,_,_,o,_,_,e,d,_⟩:=I.hok p _ b;exact⟨o,e,d⟩
    obtain⟨_,_,_,_,o,_,_,e,d,_⟩:=I.hok p _ b;exact⟨o,e,d⟩
   obtain⟨o,e,d⟩:=z;refine⟨⟨o,e,d.1⟩,fun a k=>?_⟩;cases k;exact⟨o,e,d.2.1⟩
  obtain⟨o,_,_,_,e,d,_⟩:=I.hok p _ b;refine⟨⟨o,e,d.1⟩,fun a k=>?_⟩;cases k;exact⟨o,e,d.2.1⟩
 |_=>exact False.elim h
def Yp (K:Frag) (T:String) (r:V->List V->Hp->VK->Prop) (b:TE):TE:=fun Z H Q=>b Z H fun x a=>tyV K T x a/\r x [] a Q
def tBM (K:Frag) (T:String) (r:V->List V->Hp->VK->Prop) (c:TE) (t:TA):TE:=fun Z H Q=>c Z H fun x a=>tyV K T x a/\t Z a fun xs b=>r x xs b Q
variable {apos cpos:Pos}{T id:String}
def Qg (q:PlainAttrs T) (d:Slot T name id) (e:typeOf (.builtin id)=pure (.type "method_descriptor")) (p:MtR X id r) (l:PE X o to)
  (b:attributeBase o name X.env (eval o X.env)=eval o X.env:=by rfl) (c:(apos.endLine==cpos.line)=true:=by rfl):PE X (.Call (.Attribute o name apos) [] [] cpos) (Yp X.K T r to):=by
 intro a s Z H Q I h;refine wpAny_Call_method0_late b c (Fl (l a s Z H _ I h) fun v j ⟨x,i,f,g,n,k⟩=>?_);obtain⟨t,m⟩:=BX f g n;exact⟨T,id,q,d,e,t,m,abB rfl (PySem.evalArgs_none (p a j Z i x [] v [] Q f g .nil k))⟩
def U7 (F:PlainAttrs T) (f:Slot T name id) (i:typeOf (.builtin id)=pure (.type "method_descriptor")) (E:MtR X id r) (q:PE X o to) (G:PA X (e::es) t)
  (d:attributeBase o name X.env (eval o X.env)=eval o X.env:=by rfl)
  (g:((backTo cpos (starEach (e::es) X.env)).all (fun x=>!x.1)&&(backToKw cpos (keywordEach [] X.env)).all (fun x=>x.1.isSome)
   && decide ((e::es).length+([]:List Keyword).length+(if ([]:List Keyword).isEmpty then 0 else 1)<30))=true:=by rfl)
  (c:(apos.endLine==cpos.line)=true:=by rfl) (u:starEach (e::es) X.env=(false,eval e X.env)::starEach es X.env:=by rfl) (b:(backTo cpos (starEach es X.env)).any (·.1)=false:=by rfl) :
  PE X (.Call (.Attribute o name apos) (e::es) [] cpos) (tBM X.K T r to t):=by
 intro a s Z H Q I h;refine wpAny_Call_method_late d g c rfl (Fl (q a s Z H _ I h) fun v B ⟨x,A,l,k,J,p⟩=>?_);obtain⟨z,C⟩:=BX l k J;refine⟨T,id,F,f,i,z,C,?_⟩;have j:=G cpos a B Z A _ l p;rw[u] at j ⊢;refine abB (by show (false||(backTo cpos (starEach es X.env)).any (·.1))=false;rw[b] <;> rfl) (Calls.evalArgs_plain ?_);exact Fl j fun us n ⟨vs,m,y,D,w⟩=>E a n Z m x vs v us Q y k D w
end
def MtM (X:Cx) (id:String) (r:V->List V->Hp->VK->Prop):Prop :=
 ∀(a:List (Addr × Obj)) (s:Shared) (Z:St) (H:Hp) (x:V) (xs:List V) (v:Value) (us:List Value) (Q:VK),Inv X a Z H s->RelV x v->Vals xs us->r x xs H Q ->
  wpAny (model X.prog X.w) X.A (call (.builtin id) (v::us)) (EP X a Z Q) X.xe s
def Vals.one (r:Vals [x] us):∃u,us=[u]/\RelV x u:=vals1 r
def Vals.zero:∀{us:List Value},Vals [] us->us=[]
 |_,.nil=>rfl
def Vals.reverse (h:Vals xs us):Vals xs.reverse us.reverse:=by
 induction h with
 |nil=>exact .nil
 |cons r t a=>rw[List.reverse_cons,List.reverse_cons];exact Vals.append a (.cons r .nil)
def Vals.rep (h:Vals xs us):∀k:Nat,Vals (List.replicate k xs).flatten (List.replicate k us).flatten
 |0=>.nil
 |k+1=>by
  rw[Z9,Z9,aag,aag]
  exact Vals.append h (Vals.rep h k)
def foldl_rep (a:List Value):∀(k:Nat) (b:List Value),
  List.foldl (fun f d=>f++d) b.toArray (List.replicate k a.toArray)=(b++(List.replicate k a).flatten).toArray
 |0,b=>by simp
 |k+1,b=>by
  have e:b.toArray++a.toArray=(b++a).toArray:=by simp
  have c:(b++a)++(List.replicate k a).flatten=b++(List.replicate (k+1) a).flatten:=by
   rw[Z9,aag,aah]
  rw[<- c,<- foldl_rep a k (b++a),<- e,Z9,List.foldl_cons]
section
variable {X:Cx}{pins:List (Addr × Obj)}{Z:St}
def Inv.lset {a its':List Value} (I:Inv X pins Z H s) (c:H l=some (.lst xs)) (e:s.heap.get? l=some { cls:=.type "list",data:=.seq a.toArray n}) (g:f a.toArray=its'.toArray) (b:Vals ys its') (h:ys.length<=sizeLine):
  Inv X pins Z (upd H l (.lst ys)) { s with heap:=s.heap.update l (Obj.mapSeq f),toks:=t'}:=by
 have q:=PySem.IsL.update e f;rw[g] at q;refine I.write (x:=l) (e:=l) (by rw[c];exact trivial) (.inl rfl) (fun j u d i=>(Y_ s.heap (Obj.mapSeq f) (Ne.symm d)).trans i) ⟨_,q⟩ ?_;exact⟨h,its',_,b,q⟩
def Inv.lnew (I:Inv X pins Z H s) (b:Vals ys a) (c:ys.length<=sizeLine):
  Inv X pins Z (upd H s.heap.objs.size (.lst ys)) { s with heap:=s.heap.push { cls:=.type "list",data:=.seq a.toArray},toks:=t'} :=
 I.laid (fun _ _ q=>b_ _ q) (k_ _) ⟨c,a,0,b,j_ _ rfl⟩
def Inv.fresh (I:Inv X pins Z H s):H s.heap.objs.size=none:=I.hok.fresh (k_ _)
def Inv.lstM (I:Inv X pins Z H s) (b:H l=some (.lst xs)):xs.length<=sizeLine/\∃(a:List Value) (n:Nat),Vals xs a/\xs.length=a.length/\s.heap.get? l=some { cls:=.type "list",data:=.seq a.toArray n}:=by
 obtain⟨z,a,n,r,e⟩:=I.hok l _ b;exact⟨z,a,n,r,r.length,e⟩
def BZ (h:n<=sizeLine):Builtin.List.listTooLong n=false:=by
 unfold Builtin.List.listTooLong;exact E_ (by omega)
def Jd:V->List V->Hp->VK->Prop:=fun x vs H Q=>∃l xs y,x=.ref l/\vs=[y]/\H l=some (.lst xs)/\xs.length<sizeLine/\Q .non (upd H l (.lst (xs++[y])))
def zP:MtM X "list.append" Jd:=by
 intro c s Z H x vs v us Q I f g h;obtain⟨l,xs,y,rfl,rfl,b,j,q⟩:=h;cases f;obtain⟨u,rfl,d⟩:=g.one;obtain⟨z,a,n,r,i,e⟩:=I.lstM b;refine ab3 F.slot_list_append ⟨_,e,rfl⟩ F.entry_list_append (F.args_list_append_2 _ _) (list_append l a.toArray n u (by rw[v_];omega)) ⟨e,?_⟩;refine⟨.non,_,I.lset (its':=a++[u]) b e (by simp) (r.append (.cons d .nil)) ?_,rfl,q⟩;rw[g_,K_];omega
def Ca:V->List V->Hp->VK->Prop:=fun x vs H Q=>∃l xs,x=.ref l/\vs=[]/\H l=some (.lst xs)/\Q .non (upd H l (.lst xs.reverse))
def vK:MtM X "list.reverse" Ca:=by
 intro d s Z H x vs v us Q I f g h;obtain⟨l,xs,rfl,rfl,c,q⟩:=h;cases f;have b:=g.zero;subst b;obtain⟨z,a,n,r,i,e⟩:=I.lstM c;refine ab3 F.slot_list_reverse ⟨_,e,rfl⟩ F.entry_list_reverse (F.args_list_reverse_1 _) (AutoSeq1.list_reverse_list_0 l a.toArray n (by rw[v_];omega)) ⟨e,?_⟩;refine⟨.non,_,I.lset (its':=a.reverse) c e (by simp) r.reverse ?_,rfl,q⟩;rw[Q_];omega
def Yq:R2:=fun x y H Q=>∃l b xs a,x=.ref l/\y=.ref b/\H l=some (.lst xs)/\H b=some (.lst a)/\xs.length+a.length<=sizeLine/\∀p,H p=none->Q (.ref p) (upd H p (.lst (xs++a)))
def af8:OpR X (binaryOp .Add) Yq:=by
 intro d s Z H x y v u Q I j i h;obtain⟨l,b,xs,t,rfl,rfl,k,p,C,q⟩:=h;cases j;cases i;obtain⟨z,c,n,r,B,e⟩:=I.lstM k;obtain⟨w,a,A,m,f,g⟩:=I.lstM p;refine PySem.P.add_list e g ?_ (by rw[v_,v_];omega);have o:c.toArray++a.toArray=(c++a).toArray:=by simp
 rw[o];exact⟨.ref _,_,I.lnew (t':=s.toks) (r.append m) (by rw[g_];omega),rfl,q _ I.fresh⟩
def Yr:R2:=fun x y H Q=>∃l k xs,x=.ref l/\y=.int k/\H l=some (.lst xs) /\ -(2^63)<=k/\k<2^63/\xs.length*k.toNat<=sizeLine /\
 ∀p,H p=none->Q (.ref p) (upd H p (.lst (List.replicate k.toNat xs).flatten))
def len_rep {b:Type}(xs:List b) (k:Nat):(List.replicate k xs).flatten.length=k*xs.length:=by
 induction k with
 |zero=>simp
 |succ k a=>rw[Z9,aag,g_,a,Nat.succ_mul,Nat.add_comm]
def Qh:OpR X (binaryOp .Mult) Yr:=by
 intro p s Z H x y v u Q I C A h;obtain⟨l,k,xs,rfl,rfl,B,J,E,w,q⟩:=h;cases C;obtain⟨t,rfl⟩:=A;obtain⟨z,b,n,r,G,e⟩:=I.lstM B;have d:b.toArray.size*k.toNat<=sizeLine:=by rw[v_,<- G];exact w
 have g:¬b.toArray.size*k.toNat>(2^63 - 1) / 8:=by
  have:(sizeLine:Nat)<=(2^63 - 1) / 8:=by decide
  omega
 have i:¬(!Builtin.List.listFitsIndex k)=true:=by rw[fitsIndex_both J E];exact B_
 have c:¬Builtin.List.listTooLong (b.toArray.size*k.toNat)=true:=by rw[BZ d];exact B_
 have f:List.foldl (fun o j=>o++j) #[] (List.replicate (if b.toArray.isEmpty=true then 0 else k.toNat) b.toArray)=(List.replicate k.toNat b).flatten.toArray:=by
  have D:∀m:Nat,List.foldl (fun o j=>o++j) #[] (List.replicate m b.toArray)=(List.replicate m b).flatten.toArray:=fun m=>by have:=foldl_rep b m [];rw[abT] at this;exact this
  rw[D];cases b with
  |nil=>simp
  |cons a K=>rw[if_neg (by simp)]
 refine wpAny_binaryOp_repeat_ref (T:="list") (U:="int") (by decide) ⟨_,e,rfl⟩ (fun s'=>typeIs_int s' k t) noFill_list_mul F.fills_int_mul F.slot_int_rmul repeat_list F.slot_int_index.lookup
  (ab3 F.slot_int_rmul (typeIs_int s k t) F.entry_int_rmul (F.args_int_rmul_2 _ _) (int___rmul___int_list k t l b.toArray n)
   ⟨e,rfl,⟨_,e,rfl⟩,ab3 F.slot_list_mul ⟨_,e,rfl⟩ F.entry_list_mul (F.args_list_mul_2 _ _) (AutoListH.list___mul___list_int_3 l b.toArray n k t i g c) ⟨e,?_⟩⟩)
 rw[f];exact⟨.ref _,_,I.lnew (t':=s.toks) (r.rep k.toNat) (by rw[len_rep,Nat.mul_comm];exact w),rfl,q _ I.fresh⟩
set_option maxRecDepth 100000 in
end
section
variable {κ:Type}[DecidableEq κ]
def eQ (kvs:List (κ × V)) (k:κ):Option V:=(kvs.find? fun a=>decide (a.1=k)).map (·.2)
def putK (kvs:List (κ × V)) (k:κ) (v:V):List (κ × V) :=
 if (kvs.any fun a=>decide (a.1=k))=true then kvs.map (fun a=>if a.1=k then (a.1,v) else a) else kvs++[(k,v)]
def eU {k:κ} (e:p.1=k):eQ (p::r) k=some p.2:=by simp [eQ,abF,e]
def eV {k:κ} (e:¬p.1=k):eQ (p::r) k=eQ r k:=by simp [eQ,abF,e]
def rR (k:κ):∀kvs:List (κ × V),(kvs.any fun a=>decide (a.1=k))=(eQ kvs k).isSome
 |[]=>rfl
 |p::r=>by
  rw[abQ]
  by_cases e:p.1=k
  ·
   simp only[eU e,N_ e,Bool.true_or,Option.isSome_some]
  ·
   rw[eV e,E_ e,Bool.false_or];exact rR k r
def fc (kvs:List (κ × V)) (k:κ) (v:V):(putK kvs k v).length<=kvs.length+1:=by
 unfold putK;split
 ·rw[d_];omega
 rw[g_,p_,ZQ];omega
def acG.isSome_eq (r:acG o u):o.isSome=u.isSome:=by
 cases o with
 |none=>cases u with
  |none=>rfl
  |some _=>exact (show False from r).elim
 |some _=>cases u with
  |none=>exact (show False from r).elim
  |some _=>rfl
def KV.val (r:KV kvs vs) (k:κ):acG (eQ kvs k) (valueAt vs k):=by
 unfold KV at r;induction r with
 |nil=>exact True.intro
 |@cons p q ps c h t g =>
 obtain⟨d,f⟩:=h;by_cases e:p.1=k
 ·have a:q.1=k:=d.symm.trans e;have b:valueAt (q::c) k=some q.2:=by simp [valueAt,abF,a]
  rw[eU e,b];exact f
 have a:¬q.1=k:=fun z=>e (d.trans z);have b:valueAt (q::c) k=valueAt c k:=by simp [valueAt,abF,a]
 rw[eV e,b];exact g
def KV.any (r:KV kvs vs) (k:κ):(kvs.any fun a=>decide (a.1=k))=vs.any fun a=>decide (a.1=k):=by
 unfold KV at r;induction r with
 |nil=>rfl
 |cons h t b=>rw[abQ,abQ,b,h.1]
def KV.repl (r:KV kvs vs) (k:κ) (c:RelV y u):
  KV (kvs.map fun a=>if a.1=k then (a.1,y) else a) (vs.map fun a=>if a.1=k then (a.1,u) else a):=by
 unfold KV at r ⊢;induction r with
 |nil=>exact .nil
 |@cons p q ps g h t f =>
 rw[H_,H_];refine .cons ?_ f;obtain⟨b,d⟩:=h;by_cases e:p.1=k
 ·rw[if_pos e,if_pos (b.symm.trans e)];exact⟨b,c⟩
 rw[if_neg e,if_neg (fun z=>e (b.trans z))];exact⟨b,d⟩
def KV.put (r:KV kvs vs) (k:κ) (a:RelV y u):KV (putK kvs k y) (stored vs k u):=by
 unfold putK stored;rw[r.any k];by_cases e:(vs.any fun b=>decide (b.1=k))=true
 ·rw[if_pos e,if_pos e];exact r.repl k a
 rw[if_neg e,if_neg e];exact Paired.snoc r ⟨rfl,a⟩
def KV.length {vs:List (κ × Value)} (r:KV kvs vs):kvs.length=vs.length:=abj r
end
def j6 (r:RelV (kV k) u):(bu P w).is k u=true:=by
 cases k with
 |inl i=>obtain⟨t,e⟩:=(show ∃t,u=Value.int i t from r);subst e;exact rH P w i t
 |inr x=>obtain⟨t,e⟩:=(show ∃t,u=Value.str x t from r);subst e;exact rJ P w x t
def oU:∀{a:List Key}{us:List Value},Vals (a.map kV) us->ItemsAre (bu P w) a us
 |[],_,r=>by rw[aaB] at r;cases r;exact .nil
 |k::a,_,r=>by
  rw[H_] at r
  cases r with
  |cons h t=>exact .cons (j6 h) (oU t)
abbrev KT (H:Hp):List (List Key × V)->List (List Key × Addr × Value)->Prop:=Paired fun p q=>p.1=q.1/\H q.2.1=some (.tup (p.1.map kV))/\RelV p.2 q.2.2
def KT.val (r:KT H kvs xs) (k:List Key):acG (eQ kvs k) ((atKey xs k).map (·.2)):=by
 induction r with
 |nil=>exact True.intro
 |@cons p q ps c h t g =>
 obtain⟨d,_,f⟩:=h;by_cases e:p.1=k
 ·have a:q.1=k:=d.symm.trans e;have b:atKey (q::c) k=some q.2:=by simp [atKey,abF,a]
  rw[eU e,b];exact f
 have a:¬q.1=k:=fun z=>e (d.trans z);have b:atKey (q::c) k=atKey c k:=by simp [atKey,abF,a]
 rw[eV e,b];exact g
def KT.repl (r:KT H kvs xs) (k:List Key) (d:RelV y u):
  KT H (kvs.map fun b=>if b.1=k then (b.1,y) else b) (xs.map (putAt k u)):=by
 induction r with
 |nil=>exact .nil
 |@cons p q ps i h t g =>
 rw[H_,H_];refine .cons ?_ g;obtain⟨a,c,f⟩:=h;unfold putAt;by_cases e:p.1=k
 ·rw[if_pos e,if_pos (a.symm.trans e)];exact⟨a,c,d⟩
 rw[if_neg e,if_neg (fun z=>e (a.trans z))];exact⟨a,c,f⟩
def KT.put (r:KT H kvs xs) (k:List Key) (c:H b=some (.tup (k.map kV))) (a:RelV y u):
  KT H (putK kvs k y) (storedH xs k b u):=by
 have e:(kvs.any fun d=>decide (d.1=k))=(atKey xs k).isSome:=by rw[rR,(r.val k).isSome_eq,Option.isSome_map]
 unfold putK storedH;rw[e];by_cases q:(atKey xs k).isSome=true
 ·rw[if_pos q,if_pos q];exact r.repl k a
 rw[if_neg q,if_neg q];exact Paired.snoc r ⟨rfl,c,a⟩
def KT.keeps (r:KT H kvs xs) (a:∀b ys,H b=some (.tup ys)->H' b=some (.tup ys)):KT H' kvs xs :=
 Paired.mapP r fun _ _ z=>⟨z.1,a _ _ z.2.1,z.2.2⟩
section
variable {P:Program}{w:World}
def Ms (b:HOk P w H h) (e:Rd H a u):vy P w H h a u:=e.ok b
def oV (b:HOk P w H h) (e:Rd H a (.dK kvs)):kvs.length<=sizeLine/\(a==sysModules)=false/\∃vs,KV kvs vs/\h.DictOf (bu P w) a vs :=
 show vy P w H h a (.dK kvs) from Ms b e
def rT (b:HOk P w H h) (e:H a=some (.dK kvs)):kvs.length<=sizeLine/\(a==sysModules)=false/\∃vs,KV kvs vs/\h.DictOf (bu P w) a vs:=oV b (.inl e)
def lZ (g:HOk P w H h) (e:H a=some (.tup (c.map kV))):(tupleKind (bu P w)).is h c a:=by
 obtain⟨_,b,r,o,i,d,n,f,_⟩:=(show vy P w H h a (.tup (c.map kV)) from g a _ e);exact⟨o,b.toArray,n,i,d,f,by simpa using oU r⟩
def oW (d:HOk P w H h) (e:Rd H a (.dT kvs)):kvs.length<=sizeLine/\(a==sysModules)=false /\
  ∃xs,KT H kvs xs/\h.DictOfH (tupleKind (bu P w)) a xs:=by
 obtain⟨z,y,xs,r,o,s,ep,u,j,k,g,i⟩:=(show vy P w H h a (.dT kvs) from Ms d e);refine⟨z,y,xs,r,o,s,ep,u,j,k,g,fun x b=>?_,i⟩;have c:∀{l:List (List Key × V)} {m:List (List Key × Addr × Value)},KT H l m->∀x∈m,(tupleKind (bu P w)).is h x.1 x.2.1:=by
  intro l m q;induction q with
  |nil=>intro x b;exact nomatch b
  |@cons p q ps v f t n =>
  intro x b;rcases n_.mp b with e | b
  ·subst e;exact lZ d (by rw[<- f.1];exact f.2.1)
  exact n x b
 exact c r x b
def U8 (b:HOk P w H h) (e:H a=some (.dT kvs)):kvs.length<=sizeLine/\(a==sysModules)=false /\
  ∃xs,KT H kvs xs/\h.DictOfH (tupleKind (bu P w)) a xs:=oW b (.inl e)
end
def acM (H:Hp) (a:Addr) (y:V) (r:Option V):Prop :=
 (∃kvs k,Rd H a (.dK kvs)/\y=kV k/\r=eQ kvs k)\/∃kvs k b,Rd H a (.dT kvs)/\y=.ref b/\H b=some (.tup (k.map kV))/\r=eQ kvs k
def adO (H:Hp) (a:Addr) (y v:V) (H':Hp):Prop :=
 (∃kvs k,H a=some (.dK kvs)/\y=kV k/\kvs.length<sizeLine/\H'=upd H a (.dK (putK kvs k v))) \/
 ∃kvs k b,H a=some (.dT kvs)/\y=.ref b/\H b=some (.tup (k.map kV))/\kvs.length<sizeLine/\H'=upd H a (.dT (putK kvs k v))
def acM.k {k:Key} (e:H a=some (.dK kvs)):acM H a (kV k) (eQ kvs k):=.inl ⟨kvs,k,.inl e,rfl,rfl⟩
def acM.t {k:List Key} (e:H a=some (.dT kvs)) (c:H b=some (.tup (k.map kV))):acM H a (.ref b) (eQ kvs k):=.inr ⟨kvs,k,b,.inl e,rfl,c,rfl⟩
def adO.k {k:Key} (e:H a=some (.dK kvs)) (b:kvs.length<sizeLine):adO H a (kV k) v (upd H a (.dK (putK kvs k v))):=.inl ⟨kvs,k,e,rfl,b,rfl⟩
def adO.t {k:List Key} (e:H a=some (.dT kvs)) (d:H b=some (.tup (k.map kV))) (c:kvs.length<sizeLine):
  adO H a (.ref b) v (upd H a (.dT (putK kvs k v))):=.inr ⟨kvs,k,b,e,rfl,d,c,rfl⟩
section
variable {X:Cx}{pins:List (Addr × Obj)}{Z:St}
def Inv.big (I:Inv X pins Z H s):sysModules<s.heap.objs.size:=by
 have h:mainGlobals<s.heap.objs.size:=(I.mod.glob.keeps I.bk).lt;exact ZD (by decide) h
def zQ (B:A.units+1<cLine) (I:Inv X pins Z H s) (g:acM H a y (some v)) (q:RelV y u) (h:∀f s',Inv X pins Z H s'->RelV v f->Q f s'):
  wpAny (model X.prog X.w) A (getItem (.ref a) u) Q E s:=by
 rcases g with ⟨kvs,k,e,m,l⟩ | ⟨kvs,k,b,e,m,r,l⟩
 ·subst m;obtain⟨z,x,vs,c,n⟩:=oV I.hok e;obtain⟨f,i,d⟩:=acG.some_of (v:=v) (o:=valueAt vs k) (by rw[l];exact c.val k);exact wpAny_getItem_of (j6 q) n.mapOf i (h f _ (I.tok _) d)
 subst m;cases (show u=Value.ref b from q);obtain⟨z,x,xs,c,n⟩:=oW I.hok e;obtain⟨f,i,d⟩:=acG.some_of (v:=v) (o:=(atKey xs k).map (·.2)) (by rw[l];exact c.val k);obtain⟨p,t,j⟩:=abC.mp i;refine wpAny_getItem_heap (abU B) (lZ I.hok r) n t ?_;rw[j];exact h f _ (I.tok _) d
def Ys (n:A.units+1<cLine) (I:Inv X pins Z H s) (g:acM H a y o) (j:RelV y u) (h:∀s',Inv X pins Z H s'->Q (.bool o.isSome) s'):
  wpAny (model X.prog X.w) A (compareOp .In u (.ref a)) Q E s:=by
 rcases g with ⟨kvs,k,e,d,l⟩ | ⟨kvs,k,b,e,d,m,l⟩
 ·subst d;obtain⟨z,f,vs,c,i⟩:=oV I.hok e;refine wpAny_in_of (j6 j) f i.mapOf ?_;rw[<- (c.val k).isSome_eq,<- l];exact h _ (I.tok _)
 subst d;cases (show u=Value.ref b from j);obtain⟨z,f,xs,c,i⟩:=oW I.hok e;refine wpAny_in_heap (abU n) (lZ I.hok m) f i ?_;have q:=(c.val k).isSome_eq;rw[Option.isSome_map] at q;rw[<- q,<- l];exact h _ (I.tok _)
def Je (n:A.units+1<cLine) (I:Inv X pins Z H s) (g:acM H a y o) (j:RelV y u) (h:∀s',Inv X pins Z H s'->Q (.bool (!o.isSome)) s'):
  wpAny (model X.prog X.w) A (compareOp .NotIn u (.ref a)) Q E s:=by
 rcases g with ⟨kvs,k,e,d,l⟩ | ⟨kvs,k,b,e,d,m,l⟩
 ·subst d;obtain⟨z,f,vs,c,i⟩:=oV I.hok e;refine wpAny_notIn_of (j6 j) f i.mapOf ?_;rw[<- (c.val k).isSome_eq,<- l];exact h _ (I.tok _)
 subst d;cases (show u=Value.ref b from j);obtain⟨z,f,xs,c,i⟩:=oW I.hok e;refine wpAny_notIn_heap (abU n) (lZ I.hok m) f i ?_;have q:=(c.val k).isSome_eq;rw[Option.isSome_map] at q;rw[<- q,<- l];exact h _ (I.tok _)
def lA (I:Inv X pins Z H s) (mu:Mut (H a)) (h:Heap.SameBut a s.heap h') (f:∃q,h'.get? a=some q) (d:vy X.prog X.w (upd H a c) h' a c):
  Inv X pins Z (upd H a c) { s with heap:=h',toks:=t'} :=
 I.write (x:=a) (e:=a) mu (.inl rfl) (fun b q g z=>(h.2 b g).trans z) f d
def vL (z:kvs.length<=sizeLine) (c:(a==sysModules)=false) (b:KV kvs vs) (d:h'.DictOf (bu P w) a vs):
  vy P w H' h' a (.dK kvs):=⟨z,c,vs,b,d⟩
def zR (O:A.units+1<cLine) (I:Inv X pins Z H s) (g:adO H a y v H') (F:RelV y u) (C:RelV v r) (h:∀s',Inv X pins Z H' s'->Q () s'):
  wpAny (model X.prog X.w) A (setItem (.ref a) u r) Q E s:=by
 rcases g with ⟨kvs,k,e,p,l,o⟩ | ⟨kvs,k,b,e,p,D,l,o⟩
 ·subst p o;obtain⟨z,x,vs,d,n⟩:=rT I.hok e;have t:vs.length<=sizeLine:=by rw[<- d.length];exact z
  have j:(putK kvs k v).length<=sizeLine:=by have:=fc kvs k v;omega
  refine wpAny_setItem_pairs (hsz:=t) (j6 F) n fun h' f m=>h _ ?_;have L:∃q,h'.get? a=some q:=let ⟨q,_,_,i,_⟩:=f;⟨q,i⟩;exact lA I (by rw[e];exact True.intro) m L (vL j x (d.put k C) f)
 subst p o;cases (show u=Value.ref b from F);obtain⟨z,x,xs,d,n⟩:=U8 I.hok e;have t:xs.length<=sizeLine:=by rw[<- abj d];exact z
 have j:(putK kvs k v).length<=sizeLine:=by have:=fc kvs k v;omega
 refine wpAny_setItem_heap (hsz:=t) (abU O) (lZ I.hok D) n fun h' f m=>h _ ?_;obtain⟨q,K,ep,i,M,N,G,_,J⟩:=f;refine lA I (by rw[e];exact True.intro) m ⟨q,i⟩ ⟨j,x,_,(d.put k D C).keeps fun c ys B=>?_,q,K,ep,i,M,N,G,J⟩;rw[aM (Ua B e (fun z=>nomatch z))];exact B
end
def Jf (i:Expr):Prop:=∀b a,subscripted i false b a=operate [b,a] (getItem b a)
def Jg {T id:String} (p:typeLookup (.type T) "__getitem__"=pure (some (.builtin id))) (n:Jf a) (h:wpAny (model prog w) A (eval b env) (fun o f=>wpAny (model prog w) A (eval a env) (fun i c=>c.TypeIs o T/\wpAny (model prog w) A (getItem o i) Q E c) E f) E s):
  wpAny (model prog w) A (eval (.Subscript b a l) env) Q E s:=by
 refine Subscript_ (ZX h (fun o f k=>ZX k (fun i c d=>?_) fun _ _ x=>x) fun _ _ x=>x);obtain⟨m,d⟩:=d;unfold subscriptTail;refine a_ ?_;rw[getitemInPython_of_ne m.not_modules];refine a_ (aaW m p ?_);have g:wpAny (model prog w) A (subscripted a false o i) (fun r e=>wpAny (model prog w) A (letTemporaryGo b o r >>= fun _=>pure r) Q E e) E c:=by rw[n o i];exact wpAny_operating (ZX d (fun r e j=>a_ (wpAny_letTemporaryGo (h_ j))) fun _ _ x=>x)
 first
  |exact h_ (a_ g)
  |exact a_ (h_ (a_ g))
  |exact a_ g
def rW {Z:St} (I:Inv X c Z H s) (g:acM H a y o):s.TypeIs (.ref a) "dict":=by
 rcases g with ⟨kvs,k,e,_,_⟩ | ⟨kvs,k,b,e,_,_,_⟩
 ·obtain⟨_,_,vs,_,d⟩:=oV I.hok e;exact d.typeIs
 obtain⟨_,_,xs,_,d⟩:=oW I.hok e;exact d.typeIs
def U9 (e c:TE):TE:=fun Z H Q=>e Z H fun x d=>c Z d fun y b=>∃a v,x=.ref a/\acM b a y (some v)/\Q v b
def Yt (c e:TE):TE:=fun Z H Q=>c Z H fun y d=>e Z d fun x b=>∃a o,x=.ref a/\acM b a y o/\Q (.bl o.isSome) b
def Jh (c e:TE):TE:=fun Z H Q=>c Z H fun y d=>e Z d fun x b=>∃a o,x=.ref a/\acM b a y o/\Q (.bl (!o.isSome)) b
def Va (g f e:TE):TS:=fun D Z H=>e Z H fun v c=>g Z c fun x d=>f Z d fun y H3=>∃a b,x=.ref a/\adO H3 a y v b/\D.nx Z b
def xQ (B:X.A.units+1<cLine) (k:PE X o td) (m:PE X i ty) (n:Jf i):PE X (.Subscript o i pos) (U9 td ty):=by
 intro b s Z H Q I h;refine Jg PySem.F.slot_dict_getitem.lookup n (Fl (k b s Z H _ I h) fun u r ⟨x,q,z,w,j⟩=>Fl (m b r Z q _ z j) fun D C ⟨y,e,d,t,a,v,l,g,p⟩=>?_);subst l;obtain rfl:u=Value.ref a:=w;exact⟨rW d g,zQ B d g t fun G E f c=>⟨v,e,f,c,p⟩⟩
def Qi (w:X.A.units+1<cLine) (k:PE X i ty) (f:PE X o td):PC X .In i o (Yt ty td):=by
 intro b s Z H Q I h;refine Fl (k b s Z H _ I h) fun B p ⟨y,n,t,q,e⟩=>Fl (f b p Z n _ t e) fun u z ⟨x,c,m,r,a,v,j,g,l⟩=>?_;subst j;obtain rfl:u=Value.ref a:=r;exact Ys w m g q fun C d=>⟨.bl v.isSome,c,d,rfl,l⟩
def oX (w:X.A.units+1<cLine) (k:PE X i ty) (f:PE X o td):PC X .NotIn i o (Jh ty td):=by
 intro b s Z H Q I h;refine Fl (k b s Z H _ I h) fun B p ⟨y,n,t,q,e⟩=>Fl (f b p Z n _ t e) fun u z ⟨x,c,m,r,a,v,j,g,l⟩=>?_;subst j;obtain rfl:u=Value.ref a:=r;exact Je w m g q fun C d=>⟨.bl (!v.isSome),c,d,rfl,l⟩
def Ji (K:X.A.units+1<cLine) (k:PE X o td) (p:PE X i ty) (n:PE X value tv) (q:swapsWith value (some (.Subscript o i pos')) pos.line X.env=pure false) :
  PS X (.Assign [.Subscript o i pos'] value pos) (Va td ty tv):=by
 intro b s Z H D I h;refine wpAny_Assign_Subscript (Fl (n b s Z H _ I h) fun r B ⟨v,z,G,l,f⟩=>Fl (k b B Z z _ G f) fun u d ⟨x,c,w,F,t⟩=>Fl (p b d Z c _ w t) fun M N ⟨y,H3,e,E,a,C,m,g,J⟩=>?_) q;subst m;obtain rfl:u=Value.ref a:=F;exact zR K e g E l fun L j=>⟨Z,C,j,J⟩
def rY (h:Heap) (a:sysModules<h.objs.size):vy P w H (h.push { cls:=.type "dict",data:=.dict #[]}) h.objs.size (.dK []) :=
 ⟨ZS _,ZM.mpr (Ne.symm (G_ a)),[],.nil,Heap.DictOf.new h⟩
def Qj:TE:=fun _ H Q=>∀p,H p=none->Q (.ref p) (upd H p (.dK []))
def rZ:PE X (.Dict [] [] pos) Qj:=fun b s Z H Q I h =>
 wpAny_Dict_empty ⟨.ref s.heap.objs.size,_,I.laid (a:=s.heap.objs.size) (o:=.dK []) (t':=s.toks) (fun _ _ q=>b_ _ q) (k_ _) (rY s.heap I.big),rfl,h _ (I.hok.fresh (k_ _))⟩
def vM:List (TE × TE)->St->Hp->(List (V × V)->Hp->Prop)->Prop
 |[],_,H,Q=>Q [] H
 | (tk,tv)::r,Z,H,Q=>tk Z H fun x b=>tv Z b fun y a=>vM r Z a fun ps H3=>Q ((x,y)::ps) H3
abbrev VV:List (V × V)->List (Value × Value)->Prop:=Paired fun p q=>RelV p.1 q.1/\RelV p.2 q.2
def PPs (X:Cx) (e:Pos) (c:List (Option Expr)) (a:List Expr) (d:List (TE × TE)):Prop :=
 ∀(b:List (Addr × Obj)) (s:Shared) (Z:St) (H:Hp) (Q:List (V × V)->Hp->Prop),Inv X b Z H s->vM d Z H Q ->
  wpAny (model X.prog X.w) X.A (evalPairs (pairTrees c a X.env e)) (fun vs s'=>∃ps H',Inv X b Z H' s'/\VV ps vs/\Q ps H') X.xe s
def xR:PPs X a [] [] []:=fun b s Z H Q I h=>pairTrees_nil_walk ⟨[],H,I,.nil,h⟩
def sr (m:PE X k tk) (o:PE X v f) (n:PPs X b e vs c):
  PPs X b (some k::e) (v::vs) ((tk,f)::c):=fun a s Z H Q I h =>
 pairTrees_cons_walk (Fl (m a s Z H _ I h) fun u t ⟨x,r,A,z,l⟩=>Fl (o a t Z r _ A l) fun C i ⟨y,g,q,w,p⟩ =>
  Fl (n a i Z g _ q p) fun ws D ⟨ps,H3,j,d,B⟩=>⟨(x,y)::ps,H3,j,.cons ⟨z,w⟩ d,B⟩)
def jc (kvs a:List (Key × V)):List (Key × V):=a.foldl (fun b c=>putK b c.1 c.2) kvs
def KV.merge:∀{a:List (Key × V)}{b:List (Key × Value)}{kvs:List (Key × V)}{vs:List (Key × Value)},KV a b->KV kvs vs->KV (jc kvs a) (merged vs b):=by
 intro a b kvs vs r;unfold KV at r;induction r generalizing kvs vs with
 |nil=>intro q;exact q
 |@cons p q ps f h t d =>
 intro c;have e:KV (putK kvs p.1 p.2) (stored vs q.1 q.2):=by have:=c.put p.1 h.2;rw[<- h.1];exact this
 exact d e
def iY:∀(a kvs:List (Key × V)),(jc kvs a).length<=kvs.length+a.length
 |[],kvs=>by show kvs.length<=kvs.length+0;omega
 |p::r,kvs=>by
  have b:=iY r (putK kvs p.1 p.2)
  have c:=fc kvs p.1 p.2
  show (jc (putK kvs p.1 p.2) r).length<=_
  rw[p_];omega
def mj:∀{kvs:List (Key × V)}{ws:List (Value × Value)},VV (kvs.map fun e=>(kV e.1,e.2)) ws->∃d,Carries (bu P w) ws d/\KV kvs d
 |[],_,r=>by rw[aaB] at r;cases r;exact⟨[],True.intro,.nil⟩
 |p::kvs,_,r=>by
  rw[H_] at r
  cases r with
  |@cons a b j g h t =>
   obtain⟨d,c,q⟩:=mj (P:=P) (w:=w) t
   obtain⟨i,f⟩:=b
   exact⟨(p.1,f)::d,⟨j6 h.1,rfl,c⟩,.cons ⟨rfl,h.2⟩ q⟩
def Vb (a:List (TE × TE)):TE:=fun Z H Q=>∀p,H p=none->vM a Z (upd H p (.dK [])) fun ps c=>c p=some (.dK [])/\∃kvs:List (Key × V),ps=kvs.map (fun b=>(kV b.1,b.2))/\kvs.length<=15/\Q (.ref p) (upd c p (.dK (jc [] kvs)))
def xT (h:PPs X j b d k) (f:b.all (·.isSome)=true) (u:b.length=d.length) (y:b≠[]) (l:b.length<=15):PE X (.Dict b d j) (Vb k):=by
 intro g s Z H Q I q;have D:=I.hok.fresh (k_ s.heap.objs.size);have G:=I.laid (a:=s.heap.objs.size) (o:=.dK []) (h':=s.heap.push { cls:=.type "dict",data:=.dict #[]}) (t':=s.toks) (fun _ _ q=>b_ _ q) (k_ _) (rY s.heap I.big);refine wpAny_Dict_walk (knd:=bu X.prog X.w) f u y l (Fl (h g _ Z _ _ G (q _ D)) fun ws K ⟨ps,L,n,m,e,kvs,ep,M,v⟩=>?_);subst ep;obtain⟨t,c,r⟩:=mj (P:=X.prog) (w:=X.w) m;obtain⟨z,E,J,p,A⟩:=rT n.hok e;cases p;refine⟨t,c,A,fun h' i x=>⟨.ref s.heap.objs.size,_,?_,rfl,v⟩⟩;have F:(jc [] kvs).length<=sizeLine:=by have B:=iY kvs [];rw[ZQ] at B;rw[aby];omega
 have C:∃q,h'.get? s.heap.objs.size=some q:=let ⟨q,_,_,hq,_⟩:=i;⟨q,hq⟩;exact lA n (by rw[e];exact True.intro) x C (vL F E (r.merge .nil) i)
structure M2 (X:Cx) (o:Expr) (m:Str) (apos:Pos) (e f:Expr) (cpos:Pos):Prop where
 base:attributeBase o m X.env (eval o X.env)=eval o X.env
 few:((backTo cpos (starEach [e,f] X.env)).all (fun x=>!x.1)&&(backToKw cpos (keywordEach [] X.env)).all (fun x=>x.1.isSome)
  && decide (([e,f]:List Expr).length+([]:List Keyword).length+(if ([]:List Keyword).isEmpty then 0 else 1)<30))=true
 line:(apos.endLine==cpos.line)=true
 trees:backTo cpos (starEach [e,f] X.env)=[(false,eval e X.env),(false,eval f X.env)]
def IsD (H:Hp) (a:Addr):Prop:=(∃kvs,Rd H a (.dK kvs))\/∃kvs,Rd H a (.dT kvs)
def Cd {Z:St} (I:Inv X f Z H s) (d:IsD H a):
  s.TypeIs (.ref a) "dict"/\(∀b,Value.ref a=.ref b->∃c,s.heap.get? b=some c/\c.dict=none)/\(a==sysModules)=false:=by
 rcases d with ⟨kvs,e⟩ | ⟨kvs,e⟩
 ·obtain⟨_,i,vs,_,g⟩:=oV I.hok e;refine⟨g.typeIs,fun b q=>?_,i⟩;cases q;obtain⟨c,_,_,j,h,_⟩:=g;exact⟨c,j,h.2.1⟩
 obtain⟨_,i,xs,_,g⟩:=oW I.hok e;refine⟨g.typeIs,fun b q=>?_,i⟩;cases q;obtain⟨c,_,_,j,h,_⟩:=g;exact⟨c,j,h.2.1⟩
end L2
namespace Att
open PySem PySem.W PySem.Calls PyProof.Rows
def kW:∀(ns:List Int) (vs:List Value),WellAll P h vs (ns.map WData.int)->IntsAre vs ns:=by
 intro ns;induction ns with
 |nil=>intro vs w;rw[aaB] at w;cases w;exact .nil
 |cons n ns c =>
 intro vs w;rw[H_] at w;cases w with
 |cons a b =>
 cases a;exact .cons _ _ (c _ b)
def zT {l:OpenLaw} (w:l.most=some n) (b:l.row.toRowW.claim.pre args=true) (j:WellAll P h c args):
  ∃a vs ns,c=[Value.ref a]/\args=[WData.list (ns.map WData.int)]/\h.get? a=some { cls:=.type "list",data:=.seq vs.toArray}/\IntsAre vs ns/\ns.length<=n:=by
 have k:WShape.hasAll [] args [.list .int]=true:=(pre_splitW b).1;have m:l.pre.holds [] { args:=args}=true:=(pre_splitW b).2;obtain⟨d,r,rfl,x,t⟩:=hasAllW_cons k;obtain rfl:=hasAllW_nil t;obtain⟨xs,rfl,u⟩:=hasW_list x;obtain⟨ns,rfl⟩:=items_int u;have f:ns.length<=n:=by
  unfold OpenLaw.pre at m;have g:(WTm.not (.lt (.lit (.int (n:Int))) (.len (.arg 0)))).holds [] { args:=[.list (ns.map .int)]}=true:=by have g:=(holds_andW m).1;rw[w] at g;exact g
  have i:=condW_of g (w_not (w_lt w_lit (w_len_list (w_arg rfl))));rw[d_] at i;refine Nat.le_of_not_lt fun q=>?_;have p:(n:Int)<((ns.length:Nat):Int):=by omega
  first
   | (rw[N_ p] at i;exact absurd i (by decide))
   | (simp at i;omega)
 cases j with
 |cons v o =>
 cases o;cases v with
 |list s e=>exact⟨_,_,ns,rfl,rfl,s,kW ns _ e,f⟩
def zU (l:OpenLaw) (args:List WData):l.row.toRowW.claim.post args (.bool true) args=true :=
 postW_of (r:=l.row.toRowW) (X:=(true==true))
  (show WShape.has [] (.bool true) .bool=true by first | rfl | decide | simp [WShape.has,WShape.arms,WShape.armsAll])
  (show (WTm.eq .res (.lit (.bool true))).value [] { args:=args,res:=some (.bool true),after:=args}=some (.bool (true==true)) from w_eq_bool (w_res rfl) w_lit) rfl
def adK {l:OpenLaw} (P:l.most=some n) (v:d.params.defaults=[]) (i:∀(w:World) (c b:Shared) (p t:Str->Option Value) (h:Addr) (o:Obj) (z s e:Value) (a:Addr) (vs:List Value) (ns:List Int),
   Ground q loose [] XP w c p t b.heap->YP w b.heap ->
   b.heap.get? h=some o->o.data=.func (docDef d.name d.params d.body d.scope z s e)->b.heap.CodeRec s d.name->p d.name=some (.ref h) ->
   b.heap.get? a=some { cls:=.type "list",data:=.seq vs.toArray}->IntsAre vs ns->ns.length<=n->b.gens=#[] ->
   codeAny (model l.prog w) callerA (.call (.ref h) ⟨[.ref a],[]⟩) (fun r s'=>r=.ok (.ret (.bool true))/\OldK b.heap s'.heap/\s'.os=b.os/\AllBare s'.gens) b):
  WalkO q loose XP YP l.row.toRowW d [] (fun f vs=>PySem.call f vs):=by
 intro w c b p t G Y h o z s e I kV H Q u D y F A B R m C N x J;obtain rfl:I=.none:=Dflts.none D v;obtain rfl:kV=.none:=Dflts.noKw D;obtain⟨a,vs,ns,rfl,rfl,k,g,j⟩:=zT P m x;refine enter_call (abg (i w c b p t h o z s e a vs ns G Y H (fd_plain Q) u y k g j F) fun r s' K=>?_);obtain⟨rfl,L,M,E⟩:=K;exact⟨.inl ⟨.bool true,.bool true,[],rfl,fun _=>rfl,.bool true,zU l _,fun _=>⟨List.Pairwise.nil,fun _ O=>(nomatch O)⟩⟩,L,M,E⟩
def ledger (h : Heap) (L d : Addr) : List (Addr × Obj):=(List.range h.objs.size).filterMap fun a => if a = L \/ a = d then none else (h.get? a).map fun o => (a,o)
end Att
namespace L2
def oY:∀{vs:List Value}{ns:List Int},IntsAre vs ns->Vals (ns.map V.int) vs
 |_,_,.nil=>.nil
 |_,_,.cons n t h=>.cons ⟨t,rfl⟩ (oY h)
def Only (H:Hp):Prop:=∀b,H b=none\/∃o xs,H b=some (.frz o (.lst xs))
def Ce {K:Frag} (KX:K.In c.heap) (I:c.heap.Ns mainGlobals p) (g:c.heap.Ns builtinsNs Q) (T:∀x:Str,x≠"__name__"->Q x=bootBuiltins x) (B:c.heap.NoLimit) (hg:c.gens=#[]) (J:c.heap.get? a=some { cls:=.type "list",data:=.seq vs.toArray}) (Z:IntsAre vs ns) (X:ns.length<=sizeLine) (hr:tR k callerA) (F:∀base:Heap,K.In base->base.Ns mainGlobals p->acJ P w K p base CX k O fd [x] sp) (l:∀(s:Shared) (u:Value),BindsTo s fd ⟨[u],[]⟩ [(x,u)]) (R:∀H:Hp,Only H->SqL K H a (ns.map V.int)->sp [.ref a] H (fun v _=>v=.bl true) fun _ _ _=>False) (L:∀H e s',CX [] H c (fun _ _ _=>False) e s'->False):
  codeAny (model P w) callerA (.call (.ref O) ⟨[.ref a],[]⟩) (fun r s'=>r=.ok (.ret (.bool true))/\OldK c.heap s'.heap/\s'.os=c.os/\AllBare s'.gens) c:=by
 have Y:=oY Z;have G:=Z.length
 have j:∀H:Hp,Only H->SqL K H a (ns.map V.int)->HOk P w H c.heap->(∀b,H b≠none->b=a)->(H a≠none->K.lookup a=none) ->
   codeAny (model P w) callerA (.call (.ref O) ⟨[.ref a],[]⟩) (fun r s'=>r=.ok (.ret (.bool true))/\OldK c.heap s'.heap/\s'.os=c.os/\AllBare s'.gens) c:=by
  intro H hO hS C W hK
  have f:∀{b:Addr} {o:Obj},c.heap.get? b=some o->H b=none->(pU c.heap H).get? b=some o:=fun e n=>Bt e n
  have S:∀{b:Addr} {o:Obj} {D:Array DictEntry} {ep:Nat},c.heap.get? b=some o->o.data=.dict D ep->H b=none:=fun {b o D ep} e d=>by
   cases q:H b with
   |none=>rfl
   |some u =>
    have M:b=a:=W b (by rw[q];simp)
    subst M
    rw[J] at e;cases e
    have d':Data.seq vs.toArray _=Data.dict D ep:=d
    cases d'
  have i:∀{b:Addr} {m:Str->Option Value},c.heap.Ns b m->(pU c.heap H).Ns b m:=fun {b m} ⟨o,D,ep,e,d,r⟩=>⟨o,D,ep,f e (S e d),d,r⟩
  have y:K.In (pU c.heap H):=fun b o e=>f (KX b o e) (by
   cases q:H b with
   |none=>rfl
   |some u =>
    have M:b=a:=W b (by rw[q];simp)
    subst M
    rw[hK (by rw[q];simp)] at e;cases e)
  have hM:Mod K p (pU c.heap H):=⟨y,i I,⟨Q,i g,T⟩,let ⟨mc,h1,h2⟩:=B;⟨mc,i h1,h2⟩⟩
  have e0:adV P w K p (pU c.heap H) callerA [] c H:=⟨rfl,hM,fun b o e=>HY e,aaM (zE _ _),trivial,fun b g=>absurd (show b∈([]:List Addr) from g) (by simp),C,.of_eq hg⟩
  refine abg ((F _ y (i I)).run callerA [] c H ⟨[.ref a],[]⟩ [.ref a] [.ref a] _ _ hr e0 (l c (.ref a)) (.cons rfl .nil) (R H hO hS)) fun r s' h=>?_
  cases r with
  |error e=>exact (L H e s' h).elim
  |ok fl =>
   cases fl with
   |next=>exact False.elim h
   |brk=>exact False.elim h
   |cont=>exact False.elim h
   |ret u =>
    obtain⟨v,H',os,E,U,t,r',q⟩:=h
    have q':v=.bl true:=q
    subst q'
    obtain rfl:u=Value.bool true:=r'
    refine⟨rfl,OldK.of_keep fun b o e=>?_,os,E⟩
    cases q:H b with
    |none=>exact U.keep b o e q (by intro z;exact absurd (show b∈([]:List Addr) from z) (by simp)) (by simp)
    |some u =>
     rcases hO b with z | ⟨ob,xs,z⟩
     ·
      rw[q] at z;cases z
     ·
      have z2:=U.frzs b ob _ z
      obtain⟨e1,_⟩:=C b _ z
      obtain⟨e2,_⟩:=t b _ z2
      rw[e] at e1;cases e1
      exact e2
 cases N:K.lookup a with
 |some o =>
  have e:=KX a o N
  rw[J] at e
  cases e
  refine j (fun _=>none) (fun _=>.inl rfl) (.inr ⟨_,vs.toArray,_,N,rfl,rfl,rfl,by rw[v_,G];exact X,by simpa using Y⟩) (fun b u z=>by have A:(none:Option HO)=some u:=z;cases A) (fun b z=>absurd rfl z) fun z=>absurd rfl z
 |none =>
 refine j (fun b=>if b=a then some (.frz { cls:=.type "list",data:=.seq vs.toArray} (.lst (ns.map V.int))) else none) (fun b=>?_) (.inl (.inr ⟨{ cls:=.type "list",data:=.seq vs.toArray},if_pos rfl⟩)) (fun b u z=>?_) (fun b z=>?_) fun _=>N
 ·by_cases g:b=a
  ·exact .inr ⟨_,_,if_pos g⟩
  exact .inl (if_neg g)
 ·by_cases g:b=a
  ·have A:=(if_pos g).symm.trans z;cases A;subst g;exact⟨J,by rw[d_];exact X,vs,_,Y,J⟩
  have A:=(if_neg g).symm.trans z;cases A
 by_cases g:b=a
 ·exact g
 exact absurd (if_neg g) z
abbrev KOf {K:Frag}{h:Heap}(_:K.In h):Frag:=K
def aeV {l:PySem.W.OpenLaw}{K:Params->Frag}{CX:World->CXT}{sp:World->Sp} (R:l.most=some n) (C:n<=sizeLine) (y:d.params.defaults=[]) (L:tR k callerA) (N:∀(w:World) (h:Heap),YP w h->(K w.params).In h) (F:∀(w:World) (j:Str->Option Value) (r:Addr) (h:Heap),(K w.params).In h->h.Ns mainGlobals j->j d.name=some (.ref r) ->
   ∃z:FuncData,(∀(s:Shared) (u:Value),BindsTo s z ⟨[u],[]⟩ [(x,u)]) /\
    ∀base:Heap,(K w.params).In base->base.Ns mainGlobals j->acJ l.prog w (K w.params) j base (CX w) k r z [x] (sp w)) (A:∀(w:World) (H:Hp) (a:Addr) (ns:List Int),ns.length<=n->Only H->SqL (K w.params) H a (ns.map V.int)->sp w [.ref a] H (fun v _=>v=.bl true) fun _ _ _=>False) (t:∀(w:World) (H:Hp) (s:Shared) (e:Value) (s':Shared),CX w [] H s (fun _ _ _=>False) e s'->False):
  PySem.W.WalkO q loose XP YP l.row.toRowW d [] (fun f vs=>PySem.call f vs):=by
 refine Att.adK R y fun w E m j X r o pm Z O a vs ns G Y U hd M B p i c I=>?_;have D:=N w _ Y;obtain⟨z,P,Q⟩:=F w j r _ D G.T.g B;exact Ce D G.T.g G.T.b G.T.builtins G.T.nolimit I p i (P_ c C) L Q P (fun H S J=>A w H a ns c S J) fun H e s'=>t w H m e s'
end L2
namespace L2
abbrev CX0:CXT:=fun _ _ _ _ _ _=>False
abbrev E0:XK:=fun _ _ _=>False
def Cg:jL CX0 X E0:=fun _ _ _ _ _ _ _ h=>h.elim
structure Fun (K:Frag) (x qual:Str) (st:Stmt) (f:Addr) (fd:FuncData):Prop where
 ex:∃(oc:Value) (od:Option Addr) (kV doc pm:Value) (an:Option Addr) (cdv ct:Value) (osl:Array (Option Value)),
  fd=fnOf x qual (cN st) (cj st) (aB st) .none kV doc pm an cdv ct/\K.lookup f=some ⟨oc,od,.func fd,osl⟩/\codeIn K cdv qual=true
 kp:keepIn K (.ref f)=true
section
variable {P:Program}{w:World}{K:Frag}
def Fun.ok {st:Stmt} (F:Fun K x a st f i) (S:gk N ps (aB st)) (e:∀vs H Q E,sp vs H Q E->vs.length=ps.length) (c:∀(b:Value) (A:Around) (outer:List Env) (s:Shared) (H:Hp) (vs:List V) (Q:VK) (E:XK),tR k (A.deeper (envOfC a (aB st) s.heap.objs.size f b))->sp vs H Q E ->
   ∃t,PSs (lY CX0 P w K mg base N a (aB st) f b A outer s H E).nox (cj st) t/\t { nx:=fun _ H'=>Q .non H',rt:=Q} (start N vs) H):acJ P w K mg base CX0 (k+1) f i ps sp:=by
 obtain⟨u,od,kV,m,o,r,b,p,n,rfl,l,g⟩:=F.ex;refine Mr l g S e fun A outer s H vs Q E j d=>?_;obtain⟨t,h,q⟩:=c b A outer s H vs Q E j d;exact⟨t,h.nox,q⟩
def Fun.binds {st:Stmt} (F:Fun K x a st f i) (h:∀(kV b d:Value) (e:Option Addr) (c g:Value) (us:List Value),us.length=ps.length->bindArgs (fnOf x a (cN st) (cj st) (aB st) .none kV b d e c g) ⟨us,[]⟩=pure (ps.zip us)):Binds K i ps []:=by
 obtain⟨m,od,kV,b,d,e,c,g,j,rfl,l,k⟩:=F.ex;exact .all (h kV b d e c g)
def Ci {st:Stmt}{kV d g b i:Value} (l:K.lookup f=some ⟨j,od,.func (fnOf x a (cN st) (cj st) (aB st) .none kV d g h b i),e⟩) (c:codeIn K b a=true) (k:keepIn K (.ref f)=true):Fun K x a st f (fnOf x a (cN st) (cj st) (aB st) .none kV d g h b i):=⟨⟨j,od,kV,d,g,h,b,i,e,rfl,l,c⟩,k⟩
variable {X:Cx}
def pv (i:Nat) {b:Pos} (d:X.N[i]?=some x:=by rfl) (c:Vis X.env.scope x:=by first | exact Or.inl rfl | exact Or.inr (Or.inl rfl) | exact Or.inr (Or.inr rfl)) (e:(x==("__debug__":Str))=false:=by decide) (a:(x==("__classdict__":Str))=false:=by decide):PE X (.Name x b) (Ub i):=O1 d c e a
end
def Yu {A B:Prop}(h:B):if false=true then A else B:=by
 rw[if_neg B_];exact h
def Yv {A B:Prop}(h:A):if true=true then A else B:=by
 rw[if_pos rfl];exact h
section
variable {κ:Type}[DecidableEq κ]
def gB:∀{l:List κ}{k:κ},l.Nodup->¬k∈l->(l++[k]).Nodup
 |[],k,_,_=>by simp
 |a::r,k,h,hk=>by
  obtain⟨b,c⟩:=ZJ.mp h
  show (a::(r++[k])).Nodup
  refine ZJ.mpr ⟨fun m=>?_,gB c fun m=>hk (n_.mpr (Or.inr m))⟩
  rcases F_.mp m with q | q
  ·
   exact b q
  ·
   exact hk (n_.mpr (Or.inl (t_.mp q).symm))
end
def j7 {F:Str × NameKind->Str × NameKind} (b:∀p,(F p).1=p.1):∀{a:List (Str × NameKind)},a.lookup x=some k->(a.map F).lookup x=some (F (x,k)).2
 |[],h=>by cases h
 | (m,q)::r,h=>by
  have d:=b (m,q)
  rw[H_,show F (m,q)=(m,(F (m,q)).2) from ab8 d rfl]
  by_cases e:x=m
  ·
   subst e
   rw[List.lookup_cons_self] at h ⊢
   cases h
   rfl
  ·
   have c:(x==m)=false:=ZM.mpr e
   simp only[List.lookup,c] at h ⊢
   exact j7 b h
def iU {env:Env}{a:List (Str × NameKind)} (h:a.lookup x=some .free):
  (a.map fun (n,k)=>if (k==NameKind.free&&env.scope.kind==.function&&env.kindOf n==some .cell) then (n,NameKind.cell) else (n,k)).lookup x=some .cell \/
  (a.map fun (n,k)=>if (k==NameKind.free&&env.scope.kind==.function&&env.kindOf n==some .cell) then (n,NameKind.cell) else (n,k)).lookup x=some .free:=by
 rw[j7 (F:=fun (n,k)=>if (k==NameKind.free&&env.scope.kind==.function&&env.kindOf n==some .cell) then (n,NameKind.cell) else (n,k)) (fun p=>by dsimp only;split <;> rfl) h];dsimp only;split
 ·exact .inl rfl
 exact .inr rfl
def mq (h:∀y∈scope.names,y.2=.free->∃c,env.cells.lookup y.1=some c):
  ∃d,closureFor scope env=pure d/\(∀x c,d.lookup x=some c->env.cells.lookup x=some c)/\∀y∈scope.names,y.2=.free->∃c,d.lookup y.1=some c:=by
 have key:∀(b:List (Str × NameKind)) (g:List (Str × Addr)),(∀y∈b,y.2=.free->∃c,env.cells.lookup y.1=some c)->(∀x c,g.lookup x=some c->env.cells.lookup x=some c) ->
   ∃d:List (Str × Addr),(forIn b g (fun (x:Str × NameKind) (r:List (Str × Addr))=>(do
    if x.2==.free then do
     let a <- cellOf env x.1
     pure (ForInStep.yield ((x.1,a)::r))
    else pure (ForInStep.yield r):Sem (ForInStep (List (Str × Addr))))):Sem (List (Str × Addr)))=pure d/\(∀x c,d.lookup x=some c->env.cells.lookup x=some c) /\
    (∀x c,g.lookup x=some c->∃l,d.lookup x=some l)/\∀y∈b,y.2=.free->∃c,d.lookup y.1=some c:=by
  intro b
  induction b with
  |nil=>intro g _ t;exact⟨g,rfl,t,fun x c e=>⟨c,e⟩,fun y f=>nomatch f⟩
  |cons y r A =>
   intro g w t
   obtain⟨n,k⟩:=y
   by_cases v:k=.free
   ·
    subst v
    obtain⟨c,z⟩:=w (n,.free) l_ rfl
    have i:cellOf env n=pure c:=by unfold cellOf;rw[z]
    obtain⟨d,e,s,o,p⟩:=A ((n,c)::g) (fun y f=>w y (o_ _ f)) (fun x l q=>by
     simp only[aan] at q
     cases j:x==n with
     |true=>rw[j] at q;cases q;rw[eq_of_beq j];exact z
     |false=>rw[j] at q;exact t x l q)
    refine⟨d,?_,s,fun x l q=>?_,fun y f u=>?_⟩
    ·
     rw[abG]
     show ((if (NameKind.free==NameKind.free)=true then (cellOf env n >>= fun a=>pure (ForInStep.yield ((n,a)::g))) else pure (ForInStep.yield g)) >>= _)=_
     rw[i]
     exact e
    ·
     cases j:x==n with
     |true=>exact o x c (by simp only[aan,j])
     |false=>exact o x l (by simp only[aan,j];exact q)
    ·
     rcases n_.mp f with rfl | f
     ·
      exact o n c (by simp [aan])
     ·
      exact p y f u
   ·
    obtain⟨d,e,s,o,p⟩:=A g (fun y f=>w y (o_ _ f)) t
    have B:(k==NameKind.free)=false:=by simpa using v
    refine⟨d,?_,s,o,fun y f u=>?_⟩
    ·
     rw[abG]
     show ((if (k==NameKind.free)=true then (cellOf env n >>= fun a=>pure (ForInStep.yield ((n,a)::g))) else pure (ForInStep.yield g)) >>= _)=_
     rw[B]
     exact e
    ·
     rcases n_.mp f with rfl | f
     ·
      exact absurd u v
     ·
      exact p y f u
 obtain⟨d,e,s,_,p⟩:=key scope.names [] h (fun x c q=>by simp at q);refine⟨d,?_,s,p⟩;unfold closureFor;exact Zk (fun m=>m >>= fun r=>pure r) e
def bM (X:Cx) (N':List Str) (scope:Scope) (c:List (Str × Addr)) (a:List (Addr × Obj)) (s:Shared) (H:Hp) (C:Addr) (b:List Addr):Cx where
 prog:=X.prog
 w:=X.w
 K:=X.K
 mg:=X.mg
 base:=X.base
 A:=X.A
 N:=N'
 s₀:=s
 H₀:=H
 env:=compEnvC scope c C X.env
 outer:=X.stack
 stack:=X.stack
 ex:=b
 fn:=fun x=>scope.names.lookup x==some .cell
 calm:=X.calm
 pn:=X.pn++a
 xe:=fun _ _=>False
def PIf (X:Cx) (b:List Expr) (t:TT):Prop :=
 ∀(a:List (Addr × Obj)) (s:Shared) (Z:St) (H:Hp) (Q:Bool->Hp->Prop),Inv X a Z H s->t Z H Q ->
  wpAny (model X.prog X.w) X.A (forIn b true fun c r=>if r=true then do let d <- isTrue c X.env (eval c X.env);pure (ForInStep.yield d) else pure (ForInStep.yield r)) (TP X a Z Q) X.xe s
def Yw:TT:=fun _ H Q=>Q true H
def Jj:PIf X [] Yw:=fun _ _ _ H _ I h=>wpAny_tests_nil ⟨H,I,h⟩
def Jk (h:PT X c t):PIf X [c] t:=fun a s Z H Q I b=>wpAny_tests_one (h a s Z H Q I b)
def qd (I:Nat->Shared->Prop) (B:∀n s,I n s->wpAny (model prog w) A (pyNext it) (fun r b=>match r with | .none=>R (.ok .next) b | .some v=>wpAny (model prog w) A (letOwnedTupleGo a it v) (fun _ d=>wpAny (model prog w) A (assign a env v) (fun _ g=>wpAny (model prog w) A (forIn q true fun c r=>if r=true then do let F <- isTrue c env (eval c env);pure (ForInStep.yield F) else pure (ForInStep.yield r)) (fun F e=>if F=true then wpAny (model prog w) A (eval t env) (fun x f=>wpAny (model prog w) A (call (.builtin "list.append") [y,x]) (fun _ k=>∃m,m<n/\I m k) (fun _ _=>False) f) (fun _ _=>False) e else ∃m,m<n/\I m e) (fun _ _=>False) g) (fun _ _=>False) d) (fun _ _=>False) b) (fun _ _=>False) s) (n:Nat) (h:I n s):codeAny (model prog w) A (.compLoop (.ListComp t [⟨a,i,q,0⟩] scope z) 0 it y env) R s:=by
 refine codeAny_loop rfl I (fun j p G=>?_) n h;show wpAny _ A ((compTurn (.ListComp t [⟨a,i,q,0⟩] scope z) 0 it y env).onRaise (fun x=>do noteFrame x env;theTreesLotGoes x)) _ _ p;refine wpAny_noted ?_;rw[compTurn_list];refine a_ (abI (a_ (ZX (B j p G) (fun r b l=>?_) fun _ _ h'=>h'.elim)));cases r with
 |none=>exact h_ l
 |some v =>
 refine a_ (ZX l (fun _ d u=>?_) fun _ _ h'=>h'.elim);refine a_ (ZX u (fun _ g E=>a_ (ZX E (fun F e o=>?_) fun _ _ h'=>h'.elim)) fun _ _ h'=>h'.elim);cases F with
 |false=>exact (h_ (And.intro rfl o))
 |true =>
 exact a_ (a_ (ZX o (fun x f D=>a_ (ZX D (fun _ k C=>h_ (h_ ⟨rfl,C⟩)) fun _ _ h'=>h'.elim)) fun _ _ h'=>h'.elim))
def xU (J:It) (g:TG) (tt:TT) (te:TE) (f:List V->Hp->Prop) (d:St) (a:Hp):Prop :=
 ∃W:Nat->Nat->List V->St->Hp->Prop,(∃m,W 0 m [] d a)/\∀i m ys Z H,W i m ys Z H ->
  (J.stop i H/\ys.length<=sizeLine/\f ys H) \/
  (J.go i H/\∀x H',J.yld i H x H'->g x Z H' fun e h=>tt e h fun b H3=>if b=true then te e H3 fun y j=>ys.length<sizeLine/\∃c,c<m/\W (i+1) c (ys++[y]) e j else ∃c,c<m/\W (i+1) c ys e H3)
def nR (nt:Nat) (cap:List Nat) (Z:St):St:=List.replicate nt none++cap.map fun j=>(Z[j]?).getD none
structure acL (X:Cx) (N':List Str) (nt:Nat) (cap:List Nat) (scope:Scope):Prop where
 kind:scope.kind=.function
 cells:∀y∈scope.names,y.2=.cell->scope.names.lookup y.1=some .cell
 names:∀x∈scope.names,x.2=.local->scope.names.lookup x.1=some .local
 free:∀y∈scope.names,y.2=.free->X.env.kindOf y.1=some .cell\/X.env.kindOf y.1=some .free
 len:N'.length=nt+cap.length
 caps:∀(j:Nat) (x:Str),N'[nt+j]?=some x->∃i,cap[j]?=some i/\X.N[i]?=some x/\scope.names.lookup x=some .free
def kY (e:s.heap.get? l=some { cls:=.type "list",data:=.seq a.toArray n}) (f:a.length<sizeLine) (h:∀h' n',h'.get? l=some { cls:=.type "list",data:=.seq (a++[u]).toArray n'}->(∀b o,b≠l->s.heap.get? b=some o->h'.get? b=some o)->Q .none { s with heap:=h'}):
  wpAny (model P w) A (call (.builtin "list.append") [.ref l,u]) Q E s:=by
 refine ab3 F.slot_list_append ⟨_,e,rfl⟩ F.entry_list_append (F.args_list_append_2 _ _) (list_append l a.toArray n u (by rw[v_];omega)) ⟨e,?_⟩;have q:=PySem.IsL.update e (·.push u);rw[List.push_toArray] at q;exact h _ _ q (fun b o c d=>(Y_ s.heap _ (Ne.symm c)).trans d)
def bQ:∀(b:List (Str × NameKind)) (n:Nat) (a:List (Str × Addr)),cellsFrom n b a=cellsFrom n b []++a
 |[],_,_=>rfl
 | (x,k)::r,n,a=>by
  unfold cellsFrom
  split
  ·
   rw[bQ r (n+1) ((x,n)::a),bQ r (n+1) [(x,n)],aah]
   rfl
  ·
   exact bQ r n a
def dM {a:Type}(x:Str):∀(l m:List (Str × a)),(l++m).lookup x=(l.lookup x).or (m.lookup x)
 |[],_=>rfl
 | (y,v)::r,m=>by
  rw[abt,aan,aan,dM x r m]
  cases x==y <;> rfl
def gC (h:(cellsFrom n a b).lookup x=some c):(cellsFrom n a []).lookup x=some c\/((cellsFrom n a []).lookup x=none/\b.lookup x=some c):=by
 rw[bQ,dM] at h;cases e:(cellsFrom n a []).lookup x with
 |some d=>rw[e] at h;exact .inl h
 |none=>rw[e] at h;exact .inr ⟨rfl,h⟩
def jd:∀{a:List (Str × NameKind)}{n:Nat}{b:List (Str × Addr)},(x,c)∈cellsFrom n a b->(x,NameKind.cell)∈a\/(x,c)∈b
 |[],_,_,h=>.inr h
 | (y,k)::r,n,b,h=>by
  unfold cellsFrom at h
  split at h
  ·
   rename_i d
   rcases jd h with q | q
   ·
    exact .inl (o_ _ q)
   ·
    rcases n_.mp q with q | q
    ·
     cases q
     have:k=.cell:=by simpa using d
     subst this
     exact .inl l_
    ·
     exact .inr q
  ·
   rcases jd h with q | q
   ·
    exact .inl (o_ _ q)
   ·
    exact .inr q
def Jl (g:Q (newEnv scope s.heap.objs.size a (cellsFrom (s.heap.objs.size+1) scope.names b) c none .none (some env) builtinsNs) { s with heap:=pushCells (s.heap.push { cls:=.type "dict",data:=.dict #[]}) scope.names}):
  wpAny M A (newFunctionEnv scope a b [] c none .none (some env)) Q E s:=by
 simp only[newFunctionEnv,Option.isSome_some,if_true];refine a_ (wpAny_alloc ?_);refine a_ (wpAny_layCells _ (fun name d f=>by cases e:d==NameKind.cell <;> simp [e]) _ _ _ _ ?_);rw[show ({ s with heap:=s.heap.push { cls:=.type "dict",data:=.dict #[]}}:Shared).heap.objs.size=s.heap.objs.size+1 from aad ..];refine a_ ?_;rw[abY];exact h_ (h_ g)
def Cj {Z:St}{V:List Addr}{C:Addr} (S:acL X N' nt cap scope) (I:Inv X g Z H s) (N:∀x c,r.lookup x=some c->X.env.cells.lookup x=some c) (E:∀y∈scope.names,y.2=.free->∃c,r.lookup y.1=some c) (hf:∀b∈V,lU X g H b) (P:∀b∈V,b<s.heap.objs.size) (t:s.heap.objs.size<C) (hn:h'.Ns C fun _=>none) (F:∀b o,s.heap.get? b=some o->h'.get? b=some o) (hp:∀p∈pl,h'.get? p.1=some p.2/\s.heap.objs.size=p.1/\∀v,p.2.data≠.cell v) (B:CellsOk h' (C+1) (cellsFrom (C+1) scope.names [])):
  Inv (bM X N' scope (cellsFrom (C+1) scope.names r) g s H C V) pl (nR nt cap Z) H { s with heap:=h',toks:=tk}:=by
 have h:∀x c,(cellsFrom (C+1) scope.names r).lookup x=some c->(C+1<=c/\(cellsFrom (C+1) scope.names []).lookup x=some c)\/X.env.cells.lookup x=some c:=fun x c e=>by
  rcases gC e with q | q
  ·exact .inl ⟨(B.empty x c (mem_of_lookup q)).2,q⟩
  exact .inr (N x c q.2)
 have L:∀x c,X.env.cells.lookup x=some c->c<s.heap.objs.size:=fun x c e=>by obtain⟨v,q⟩:=I.cell x c e;exact q.lt
 have hok:(bM X N' scope (cellsFrom (C+1) scope.names r) g s H C V).Ok:=by
  refine⟨I.ok.mod,S.kind,I.ok.glob,I.ok.blt,aaw t,fun x y c e1 l=>?_,fun x hx=>?_,fun x c z e=>?_,I.ok.hd,I.ok.frames,.inl rfl,fun b A=>?_,I.bs,P_ I.ok.bsz I.sz,fun b o e A=>?_,fun b A z=>?_,I.stack,I.stkFree⟩
  ·rcases h x c e1 with ⟨T,p1⟩ | T
   ·rcases h y c l with ⟨K,p2⟩ | K
    ·exact name_of_addr B.apart (mem_of_lookup p1) (mem_of_lookup p2)
    exact absurd (J_ (ZW (ZD (L y c K) t)) T) (Zm _)
   rcases h y c l with ⟨K,p2⟩ | K
   ·exact absurd (J_ (ZW (ZD (L x c T) t)) K) (Zm _)
   exact I.ok.inj x y c T K
  ·have hx':(relabel scope X.env).names.lookup x=some .cell\/(relabel scope X.env).names.lookup x=some .free:=hx;have hm:∃k,(x,k)∈(relabel scope X.env).names/\(k=.cell\/k=.free):=by
    rcases hx' with z | z
    ·exact⟨_,mem_of_lookup z,.inl rfl⟩
    exact⟨_,mem_of_lookup z,.inr rfl⟩
   obtain⟨k,hm,F⟩:=hm;obtain⟨⟨n,U⟩,O,e⟩:=u_.mp hm;have D:(if (U==NameKind.free&&X.env.scope.kind==.function&&X.env.kindOf n==some .cell)=true then (n,NameKind.cell) else (n,U))=(x,k):=e;by_cases G:U=.free
   ·subst G;have en:n=x:=by split at D <;> exact Zk Prod.fst D
    subst en;obtain⟨c,ec⟩:=E (n,.free) O rfl;show ∃c,(cellsFrom (C+1) scope.names r).lookup n=some c;rw[bQ,dM,ec];cases (cellsFrom (C+1) scope.names []).lookup n with
    |none=>exact⟨c,rfl⟩
    |some d=>exact⟨d,rfl⟩
   have A:(U==NameKind.free)=false:=by simpa using G
   rw[A] at D;simp only[Bool.false_and,C_,Zv] at D;cases D;rcases F with rfl | rfl
   ·obtain⟨c,ec⟩:=jt (n:=C+1) (S.cells _ O rfl);refine⟨c,?_⟩;show (cellsFrom (C+1) scope.names r).lookup _=some c;rw[bQ,dM,ec];rfl
   exact absurd rfl G
  ·have z':scope.names.lookup x=some .cell:=by simpa [bM] using z
   obtain⟨d,ed⟩:=jt (n:=C+1) z';have D:(cellsFrom (C+1) scope.names r).lookup x=some c:=e;rw[bQ,dM,ed] at D;cases D;have:=(B.empty x _ (mem_of_lookup ed)).2;show s.heap.objs.size<=_;omega
  ·obtain⟨f0,f1,Y,f3,f4,f5⟩:=hf b A;refine⟨fun z=>absurd (P b A) (abV.mpr (by rw[show b=C from z];exact aaw t)),fun x c e=>?_⟩;rcases h x c e with ⟨q,_⟩ | q
   ·intro z;rw[z] at q;exact absurd (J_ (ZW (ZD (P b A) t)) q) (Zm _)
   exact f4 x c q
  ·obtain⟨f0,f1,Y,f3,f4,f5⟩:=hf b A;rcases f3 with q | q
   ·exact I.ok.noex b o e q
   exact absurd (m_ (I.ok.bs b o e).1) (abV.mpr q)
  obtain⟨f0,f1,Y,f3,f4,f5⟩:=hf b A;rcases n_.mp (I.stkSub b z) with q | q
  ·exact f1 q
  exact Y q
 obtain⟨m,hnm,hl⟩:=id I.loc;refine⟨hok,rfl,I.bare,Un.kept F,⟨_,hn,fun i x v e1 l e3=>?_⟩,fun x c e=>?_,I.hok.fresh (aaw t),fun x c e=>?_,fun p hp'=>?_,I.hok.kept F,?_⟩
 ·-- a name of the block: one that it takes from around
  unfold nR at l;by_cases hi:i<nt
  ·rw[Zx (by simpa using hi),abq] at l;split at l <;> cases l
  obtain⟨j,rfl⟩:∃j,i=nt+j:=⟨i - nt,by omega⟩;obtain⟨k,ck,hN,f⟩:=S.caps j x e1;rw[V_ (by simp),Z0,Nat.add_sub_cancel_left,x_,ck] at l;have w:(Z[k]?).getD none=some v:=D_ l;have R:Z[k]?=some (some v):=by
   cases q:Z[k]? with
   |none=>rw[q] at w;cases w
   |some z=>rw[q] at w;exact Zk some w
  have M:=S.free (x,.free) (mem_of_lookup f) rfl;obtain⟨u,ru,lk⟩:=hl k x v hN R (.inr M);refine⟨u,ru,.inr ⟨iU f,?_⟩⟩;rcases lk with ⟨kl,_⟩ | ⟨_,c,hc,J⟩
  ·rcases M with z | z <;> (rw[kl] at z;cases z)
  obtain⟨c',Q⟩:=E (x,.free) (mem_of_lookup f) rfl;have e:=N x c' Q;rw[hc] at e;cases e;obtain⟨o,W,hd⟩:=J;refine⟨c,?_,o,F _ _ W,hd⟩;show (cellsFrom (C+1) scope.names r).lookup x=some c;rw[bQ,dM];cases q:(cellsFrom (C+1) scope.names []).lookup x with
  |none=>exact Q
  |some d =>
  rcases jd (mem_of_lookup q) with z | z
  ·have:=S.cells _ z rfl;rw[f] at this;cases this
  cases z
 ·rcases h x c e with ⟨_,q⟩ | q
  ·exact⟨none,(B.empty x c (mem_of_lookup q)).1⟩
  obtain⟨v,o,W,hd⟩:=I.cell x c q;exact⟨v,o,F _ _ W,hd⟩
 ·rcases h x c e with ⟨q,_⟩ | q
  ·exact I.hok.fresh (aaw (J_ (ZW t) q))
  exact I.freeC x c q
 ·rcases F_.mp hp' with z | z
  ·obtain⟨e,n,n1,n2,d⟩:=I.pin p z;refine⟨F _ _ e,n,fun q=>?_,fun q=>?_,d⟩
   ·exact absurd (m_ e) (abV.mpr (by rw[show p.1=C from q];exact aaw t))
   rcases n_.mp (I.stkSub p.1 q) with q | q
   ·exact n1 q
   exact n2 q
  obtain⟨e,n,d⟩:=hp p z;refine⟨e,I.hok.fresh (by omega),fun q=>?_,fun q=>?_,d⟩
  ·exact absurd (n.trans (show p.1=C from q)) (G_ t)
  have:=I.stkSub p.1 q;rcases n_.mp this with q | q
  ·exact absurd I.lt (abV.mpr (by rw[<- q,n];exact k_ _))
  exact I.nofs (by omega) q
 unfold nR;show _=N'.length;rw[g_,Z0,d_,S.len]
def HOk.track (x:HOk P w H h) (j:H a=none) (l:H C=none) (k:∀b u,b≠C->h.get? b=some u->h'.get? b=some u) (f:vy P w (upd H a o) h' a o):HOk P w (upd H a o) h':=fun b u e=>by
 by_cases i:b=a
 ·subst i;rw[aY] at e;cases e;exact f
 rw[aM i] at e;have g:∀c z,H c=some z->c≠C:=fun c z q r=>by rw[r,l] at q;cases q
 refine (x b u e).stay (fun c v d q=>k c v ?_ q) (fun c q=>by rw[aM (cz q j)];exact q) fun c xs q=>by rw[aM (cz q j)];exact q
 rcases d with rfl | d
 ·exact g c u e
 exact g c _ d
def su {Z:St}{RR:Value->Addr->Result->Shared->Prop} (hc:X.calm=true) (S:acL X N' nt cap scope) (hcl:∀x c,L.lookup x=some c->X.env.cells.lookup x=some c) (hclh:∀y∈scope.names,y.2=.free->∃c,L.lookup y.1=some c) (hX:∀L a s H C l,PG (bM X N' scope L a s H C l) tg g/\PIf (bM X N' scope L a s H C l) ifs tt/\PE (bM X N' scope L a s H C l) elt te) (I:Inv X a Z f s₂) (T:Turn X.prog X.w X.K tg J l it tn) (st:tn 0 s₂.heap) (hf:∀b∈l,lU X a f b) (hw:xU J g tt te fin (nR nt cap Z) f) (hRR:∀(D C:Addr) (s₄:Shared) (m:Str->Option Value) (ys:List V) (H':Hp),s₄.heap.Ns C m->s₂.heap.objs.size<=D->s₂.heap.objs.size<=C->C≠D->H' D=none->H' C=none->ys.length<=sizeLine->fin ys H' ->
   (∀h',(∀b o,b≠C->s₄.heap.get? b=some o->h'.get? b=some o)->Inv X a Z (upd H' D (.lst ys)) { s₄ with heap:=h'})->RR (.ref D) C (.ok .next) s₄):
  wpAny (model X.prog X.w) X.A (newList []) (fun acc G=>wpAny (model X.prog X.w) X.A (newFunctionEnv scope X.env.globals L [] X.env.qual none .none (some X.env)) (fun cenv s₄ =>
   codeAny (model X.prog X.w) X.A (.compStart (.ListComp elt [⟨tg,iter,ifs,0⟩] scope pos) 0 (.ref it) acc { cenv with scope:=relabel scope X.env}) (RR acc cenv.locals) s₄) E G) E s₂:=by
 refine Zw (Jl ?_);dsimp only;generalize hH2:s₂.heap.push { cls:=.type "list",dict:=none,data:=.seq ([]:List Value).toArray}=B;generalize Y:s₂.heap.objs.size=D;have hB:B.objs.size=D+1:=by rw[<- hH2,aad,Y]
 have F:CellsOk (pushCells (B.push { cls:=.type "dict",data:=.dict #[]}) scope.names) (B.objs.size+1) (cellsFrom (B.objs.size+1) scope.names []):=by have:=cellsFrom_ok scope.names (B.push { cls:=.type "dict",data:=.dict #[]}) (B.objs.size+1) [] ⟨fun _ _ hm=>(nomatch hm),List.Pairwise.nil⟩ (by rw[aad];exact k_ _);rw[aad] at this;exact this
 have t:(pushCells (B.push { cls:=.type "dict",data:=.dict #[]}) scope.names).Ns B.objs.size fun _=>none:=(Heap.Ns.new B (.type "dict")).keeps (pushCells_keeps _ _);have M:∀b o,B.get? b=some o->(pushCells (B.push { cls:=.type "dict",data:=.dict #[]}) scope.names).get? b=some o:=fun b o e=>pushCells_keeps _ _ b o (b_ _ e);generalize hCe:B.objs.size=C at t F ⊢;generalize pushCells (B.push { cls:=.type "dict",data:=.dict #[]}) scope.names=O at t F M ⊢;have hCD:C=D+1:=hCe.symm.trans hB;have hDC:D≠C:=by rw[hCD];exact G_ (ZK _)
 have P:s₂.heap.objs.size<C:=by rw[Y,hCD];exact ZK _
 have below:∀b o,s₂.heap.get? b=some o->b≠C/\b≠D:=fun b o e=>by have:=m_ e;rw[Y] at this;exact⟨by rw[hCD];exact G_ (ZW this),G_ this⟩
 have old:∀b o,s₂.heap.get? b=some o->O.get? b=some o:=fun b o e=>M b o (hH2▸b_ _ e);have hacc:O.get? D=some { cls:=.type "list",data:=.seq ([]:List Value).toArray 0}:=M _ _ (hH2▸Y▸j_ _ rfl);have N:tn 0 O:=T.keep _ _ _ st fun b j o e=>old b o e;have hfl:∀b∈l,b<s₂.heap.objs.size:=fun b j=>by obtain⟨o,e,_⟩:=T.obj _ _ st b j;exact m_ e
 obtain⟨W,⟨m0,w0⟩,turn⟩:=hw;obtain⟨hg,hi,he⟩:=hX (cellsFrom (C+1) scope.names L) a s₂ f C l;have stat:∀{H':Hp} {k:Nat} {h:List Value},(∀b∈l,H' b=none)->∀b∈l,lU (bM X N' scope (cellsFrom (C+1) scope.names L) a s₂ f C l) [(D,{ cls:=.type "list",data:=.seq h.toArray k})] H' b:=fun {H' k h} hn b j=>by
  obtain⟨f0,f1,f2,f3,f4,f5⟩:=hf b j;have U:=hfl b j;refine⟨hn b j,fun z=>?_,fun z=>?_,.inl j,fun x c e=>?_,fun p hp=>?_⟩
  ·rw[show b=C from z] at U;exact absurd U (abV.mpr (aaw P))
  ·rcases n_.mp (I.stkSub b z) with q | q
   ·exact f1 q
   exact f2 q
  ·rcases gC e with q | q
   ·have:=(F.empty x c (mem_of_lookup q)).2;intro z;rw[z] at this;exact absurd (J_ (ZW (ZD U P)) this) (Zm _)
   exact f4 x c (hcl x c q.2)
  rcases F_.mp hp with z | z
  ·exact f5 p z
  rw[t_.mp z];intro e;rw[<- (show D=b from e),Y] at U;exact Zm _ U
 have loop:∀G:Shared,G={ s₂ with heap:=O}->codeAny (model X.prog X.w) X.A (.compLoop (.ListComp elt [⟨tg,iter,ifs,0⟩] scope pos) 0 (.ref it) (.ref D) (compEnvC scope (cellsFrom (C+1) scope.names L) C X.env)) (RR (.ref D) C) G:=by
  rintro G rfl;refine qd (fun n s'=>∃i ys h k Z' H',Inv (bM X N' scope (cellsFrom (C+1) scope.names L) a s₂ f C l) [(D,{ cls:=.type "list",data:=.seq h.toArray k})] Z' H' s'/\Vals ys h/\tn i s'.heap/\(∀b∈l,H' b=none)/\W i n ys Z' H'/\ys.length<=sizeLine) ?_ m0
   ⟨0,[],[],0,nR nt cap Z,f,Cj (tk:=s₂.toks) S I hcl hclh hf hfl P t old (fun p hp=>?_) F,.nil,N,fun b j=>(hf b j).1,w0,ZS _⟩
  ·rintro n s3 ⟨i,ys,h,k,Z3,H3,I3,rv,st3,fr3,w3,hz⟩;have pD:=I3.pin (D,{ cls:=.type "list",data:=.seq h.toArray k}) (Zi _ (t_.mpr rfl));rcases turn i n ys Z3 H3 w3 with ⟨stop,hz',hfin⟩ | ⟨go,step⟩
   ·refine Fl (T.done (bM X N' scope (cellsFrom (C+1) scope.names L) a s₂ f C l) rfl rfl rfl hc i _ s3 Z3 H3 (fun _ _=>False) I3 (stat fr3) st3 stop) fun r s4 ⟨hr,I4⟩=>?_;subst hr;obtain⟨m4,hn4,_⟩:=I4.loc;have pD4:=I4.pin (D,{ cls:=.type "list",data:=.seq h.toArray k}) (Zi _ (t_.mpr rfl));refine hRR D C s4 m4 ys H3 hn4 (by rw[Y];exact k_ _) (aaw P) (Ne.symm hDC) pD4.2.1 I4.free hz' hfin fun h' k'=>?_;have nD:∀b u,H3 b=some u->b≠D:=fun b u e z=>by rw[z,pD4.2.1] at e;cases e
    have nDs:∀b o,s₂.heap.get? b=some o->b≠D/\b≠C:=fun b o e=>⟨(below b o e).2,(below b o e).1⟩;have B4:=I4.base;refine I.call' (s':={ s4 with heap:=h'}) (ch:=l) I4.os ⟨fun b o e n j hx=>k' b o (nDs b o e).2 (B4.keep b o e n j hx),fun b o e n j hx=>?_,fun b o e n hx=>?_,fun b o e hx=>?_,fun b xs e=>?_,fun b o u e=>?_,fun b ps e=>?_⟩ ?_ I4.bare fun b j=>?_
    ·obtain⟨sl,q⟩:=B4.slot b o e n j hx;exact⟨sl,k' b _ (nDs b o e).2 q⟩
    ·rw[aM (nDs b o e).1];exact B4.free b o e n hx
    ·obtain⟨o',q⟩:=B4.there b o e hx;exact⟨o',k' b _ (nDs b o e).2 q⟩
    ·have q:=B4.tups b xs e;rw[aM (nD _ _ q)];exact q
    ·have q:=B4.frzs b o u e;rw[aM (nD _ _ q)];exact q
    ·obtain⟨more,q⟩:=B4.tbls b ps e;exact⟨more,by rw[aM (nD _ _ q)];exact q⟩
    ·exact I4.hok.track pD4.2.1 I4.free k' ⟨hz',h,k,rv,k' D _ hDC pD4.1⟩
    obtain⟨f0,f1,f2,f3,f4,f5⟩:=hf b j;exact⟨f3,f1,f4,f5⟩
   refine Fl (T.item (bM X N' scope (cellsFrom (C+1) scope.names L) a s₂ f C l) rfl rfl rfl hc i _ s3 Z3 H3 (fun _ _=>False) I3 (stat fr3) st3 go) fun r s4 ⟨u,hr,h4⟩=>?_;subst hr;refine Fl h4 fun _ s5 ⟨x,H5,I5,r5,y5,st5,fr5⟩=>?_;have I5':=I5.pinned (stat fr5) (T.obj _ _ st5);refine Fl (hg _ s5 Z3 H5 x u _ I5' r5 (step x H5 y5)) fun _ s6 ⟨Z6,H6,I6,q6⟩=>?_;refine Fl (hi _ s6 Z6 H6 _ I6 q6) fun ok s7 ⟨H7,I7,q7⟩=>?_;have Q:∀{Z8:St} {H8:Hp} {s8:Shared},Inv (bM X N' scope (cellsFrom (C+1) scope.names L) a s₂ f C l) ([(D,{ cls:=.type "list",data:=.seq h.toArray k})]++lV l s5.heap) Z8 H8 s8->tn (i+1) s8.heap/\∀b∈l,H8 b=none:=fun {Z8 H8 s8} I8 =>
    ⟨T.keep _ _ _ st5 fun b j o e=>(I8.pin (b,o) (Zi _ (Zi _ (gA j e)))).1,fun b j=>by
     obtain⟨o,e,d⟩:=T.obj _ _ st5 b j
     exact (I8.pin (b,o) (Zi _ (Zi _ (gA j e)))).2.1⟩
   cases ok with
   |false=>rw[if_neg B_] at q7 ⊢;obtain⟨m',hm,w7⟩:=q7;exact⟨m',hm,i+1,ys,h,k,Z6,H7,I7.unpinned,rv,(Q I7).1,(Q I7).2,w7,hz⟩
   |true =>
   rw[if_pos rfl] at q7 ⊢;refine Fl (he _ s7 Z6 H7 _ I7 q7) fun uy s8 ⟨y,H8,I8,ry,hz8,m',hm,w8⟩=>?_;have R:=I8.pin (D,{ cls:=.type "list",data:=.seq h.toArray k}) (Zi _ (Zo _ (t_.mpr rfl)));have hl:=rv.length;refine kY R.1 (by omega) fun h' k' e' kk=>?_;have I9:Inv (bM X N' scope (cellsFrom (C+1) scope.names L) a s₂ f C l) [] Z6 H8 { s8 with heap:=h'}:=by
    refine Inv.turned (t':=s8.toks) (it:=D) (I8.pins_of (pins':=[]) (fun p hp=>nomatch hp)) (fun b o j e=>kk b o j e) R.2.1 R.2.2.1 (.inr (by show s₂.heap.objs.size<=D;rw[Y];exact k_ _)) (fun x c e z=>?_) (fun p hp z=>?_)
    ·rcases gC e with q | q
     ·have:=(F.empty x c (mem_of_lookup q)).2;rw[z,hCD] at this;omega
     obtain⟨v,q⟩:=I.cell x c (hcl x c q.2);have:=q.lt;rw[z,Y] at this;exact Zm _ this
    rw[W_] at hp;have:=m_ (I.pin p hp).1;rw[z,Y] at this;exact Zm _ this
   refine⟨m',hm,i+1,ys++[y],h++[uy],k',Z6,H8,I9.pins_of fun p hp=>?_,rv.append (.cons ry .nil),?_,(Q I8).2,w8,?_⟩
   ·rw[t_.mp hp];exact⟨e',R.2.1,R.2.2.1,R.2.2.2.1,fun v z=>by cases z⟩
   ·refine T.keep _ _ _ (Q I8).1 fun b j o e=>kk b o (fun z=>?_) e;have:=hfl b j;rw[z,Y] at this;exact Zm _ this
   rw[g_,K_];omega
  rw[t_.mp hp];exact⟨hacc,Y,fun v z=>by cases z⟩
 exact codeAny_compStart_list (loop _ rfl) (T.self _ 0 _ _ _ N (loop _ rfl))
def Vc (b:TI) (g:TG) (tt:TT) (te:TE) (nt:Nat) (cap:List Nat):TE:=fun Z H Q=>b Z H fun J a=>xU J g tt te (fun ys H'=>∀p,H' p=none->Q (.ref p) (upd H' p (.lst ys))) (nR nt cap Z) a
def Jm (hc:X.calm=true) (S:acL X N' nt cap scope) (K:PI X u c E) (R:∀n a s H C p,PG (bM X N' scope n a s H C p) u g/\PIf (bM X N' scope n a s H C p) f tt/\PE (bM X N' scope n a s H C p) i te) (M:∀x,foldedSetIterable c X.env x=pure x:=by intro _;rfl):PE X (.ListComp i [⟨u,c,f,0⟩] scope r) (Vc E g tt te nt cap):=by
 intro a s Z H Q I h;rw[eval_ListComp];obtain⟨n,d,q,j⟩:=mq (scope:=scope) (env:=X.env) fun y V O=>I.ok.has y.1 (S.free y V O);refine wpAny_comprehension_free (use:=none) rfl M d S.kind S.names (Fl (K a s Z H _ I h) fun v s1 P=>Fl P fun itv s2 W=>?_);obtain⟨it,p,tn,J,H2,rfl,N,T,t,G,F⟩:=W;refine su (RR:=fun B C=>compPost (model X.prog X.w) X.A X.xe none (EP X a Z Q) B C) hc S q j R N T t G F fun D C s4 m ys H' Y hD hC L nD nC hz l k=>?_;refine⟨m,Y,fun h' z=>?_⟩;exact⟨.ref D,_,k h' fun b o U e=>z.extBut b o U e,rfl,l D nD⟩
def Ck (b:TI) (g:TG) (tt:TT) (te:TE) (nt:Nat) (cap:List Nat) (i:Nat):TS:=fun D Z H=>b Z H fun J a=>xU J g tt te (fun ys H'=>∀p,H' p=none->D.nx (Z.set i (some (.ref p))) (upd H' p (.lst ys))) (nR nt cap Z) a
def Jo {u f r:Pos} (hc:X.calm=true) (hN:X.N.Nodup) (hi':X.N[i]?=some x) (hx:Loc X.env.scope x) (S:acL X N' nt cap scope) (hi:PI X B j wi) (hX:∀M d s H C P,PG (bM X N' scope M d s H C P) B g/\PIf (bM X N' scope M d s H C P) l tt/\PE (bM X N' scope M d s H C P) n te) (U:swapsWith (.ListComp n [⟨B,j,l,0⟩] scope u) (some (.Name x f)) r.line X.env=pure true:=by rfl) (hs:∀x,foldedSetIterable j X.env x=pure x:=by intro _;rfl) (hf:X.fn x=true\/X.env.scope.names.lookup x=some .local:=by first | exact .inl rfl | exact .inr rfl | assumption):
  PS X (.Assign [.Name x f] (.ListComp n [⟨B,j,l,0⟩] scope u) r) (Ck wi g tt te nt cap i):=by
 intro d s Z H Dn I h;rw[exec_Assign_Name_used _ _ _ _ U];obtain⟨M,t,V,G⟩:=mq (scope:=scope) (env:=X.env) fun y hy hf=>I.ok.has y.1 (S.free y hy hf);refine a_ (abI (a_ ?_));show wpAny _ X.A (do let _ <- comprehension (.ListComp n [⟨B,j,l,0⟩] scope u) scope X.env _ (newList []) false (eval j X.env) (some (assign (.Name x f) X.env))) _ _ s;refine a_ (ZX (wpAny_comprehension_free (use:=some (assign (.Name x f) X.env)) (Q:=fun _ s'=>SP X d Dn .next s') rfl hs t S.kind S.names
  (Fl (hi d s Z H _ I h) fun v s1 h1=>Fl h1 fun itv s2 h2=>?_)) (fun _ s' hq=>h_ (h_ hq)) fun _ _ e=>e)
 obtain⟨it,P,tn,J,H2,rfl,E,T,Y,f2,hw⟩:=h2;refine su (RR:=fun acc C=>compPost (model X.prog X.w) X.A X.xe (some (assign (.Name x f) X.env)) (fun _ s'=>SP X d Dn .next s') acc C) hc S V G hX E T Y f2 hw fun D C s4 m ys H' hn hD O W nD nC hz K k=>?_;show wpAny _ X.A (assign (.Name x f) X.env (.ref D)) _ _ s4;have I4:=k s4.heap fun b o _ e=>e;have F:C≠X.env.locals:=fun z=>by have:=E.lt;rw[<- z] at this;exact absurd this (abV.mpr O)
 have L:∀y c,X.env.cells.lookup y=some c->c≠C:=fun y c e z=>by obtain⟨v,q⟩:=E.cell y c e;have:=q.lt;rw[z] at this;exact absurd this (abV.mpr O)
 refine wpAny_assign_Name (oJ I4 hN hi' hx (show RelV (.ref D) (.ref D) from rfl) (fun s5 I5 ⟨a,sb,ha⟩=>?_) hf);have R:C≠a:=by
  rcases ha with rfl | ha
  ·exact F
  exact fun z=>L x a ha z.symm
 refine⟨m,hn.sameBut sb R,fun h' hs'=>⟨_,_,Inv.turned (t':=s5.toks) (it:=C) I5 (fun b o hb e=>hs'.extBut b o hb e) (by rw[aM W];exact nC) F (.inr (P_ E.sz O)) L (fun p hp z=>?_),K D nD⟩⟩;have:=m_ (E.pin p hp).1;rw[z] at this;exact absurd this (abV.mpr O)
def exP (e C:Addr) (d:Option Addr) (b:Bool) (h:Heap):Prop:=∃vs a,h.get? e=some ⟨.ref C,d,.fields vs,a⟩/\(b=true->vs[1]?=some .none)
def exO (e C:Addr) (d:Option Addr) (a:Bool):HO:=.ext (exP e C d a)
def dxP (a:Addr) (fs:List (Str × V)) (h:Heap):Prop:=∃mA,h.Ns1 a mA/\(∀f,acG (fs.lookup f) (mA f))/\PySem.Within mA (fs.map (·.1))
def dxO (a:Addr) (fs:List (Str × V)):HO:=.ext (dxP a fs)
section
variable {P:Program}{w:World}
def exP.at (x:exP e C d rd c) (k:∀o,c.get? e=some o->f.get? e=some o):exP e C d rd f:=let ⟨vs,sl,a,b⟩:=x;⟨vs,sl,k _ a,b⟩
def dxP.at {c d:Heap}(x:dxP dx fs c) (k:∀o,c.get? dx=some o->d.get? dx=some o):dxP dx fs d:=let ⟨mA,a,b⟩:=x;⟨mA,a.at k,b⟩
def exO.ok (x:exP e C d rd h):vy P w H h e (exO e C d rd):=⟨x,let ⟨_,_,a,_⟩:=x;⟨_,a⟩,fun _ _ y k=>y.at k⟩
def dxO.ok (x:dxP dx fs h):vy P w H h dx (dxO dx fs):=⟨x,let ⟨_,⟨_,_,_,a,_⟩,_⟩:=x;⟨_,a⟩,fun _ _ y k=>y.at k⟩
def exO.of (x:HOk P w H h) (q:H e=some (exO e C d rd)):exP e C d rd h:=(x e _ q).1
def dxO.of (x:HOk P w H h) (q:H dx=some (dxO dx fs)):dxP dx fs h:=(x dx _ q).1
end
end L2
set_option maxHeartbeats 1000000
namespace L3
open L2
inductive T where
 |non | bl (b:Bool) | int (i:Int) | str (x:Str) | tup (ts:List T) | ref (a:Addr) | ty (n:String)
mutual
def Rep (K:Frag) (H:Hp):T->V->Prop
 |.non,v=>v=.non
 |.bl b,v=>v=.bl b
 |.int i,v=>v=.int i
 |.str x,v=>v=.str x
 |.tup ts,v=>∃a xs,v=.ref a/\SqT K H a xs/\gV K H ts xs
 |.ref a,v=>v=.ref a
 |.ty n,v=>v=.ty n
def gV (K:Frag) (H:Hp):List T->List V->Prop
 |[],xs=>xs=[]
 |t::ts,xs=>∃x r,xs=x::r/\Rep K H t x/\gV K H ts r
end
def tE (K:Frag) (H H':Hp):Prop:=∀a xs,SqT K H a xs->SqT K H' a xs
def tE.refl {K:Frag}:tE K H H:=fun _ _ h=>h
def tE.trans {K:Frag} (a:tE K H d) (b:tE K d e):tE K H e:=fun c xs h=>b c xs (a c xs h)
mutual
def Rep.mono {K:Frag} (b:tE K H H'):∀{t:T}{v:V},Rep K H t v->Rep K H' t v
 |.non,_,h=>by simp only[Rep] at h ⊢;exact h
 |.bl _,_,h=>by simp only[Rep] at h ⊢;exact h
 |.int _,_,h=>by simp only[Rep] at h ⊢;exact h
 |.str _,_,h=>by simp only[Rep] at h ⊢;exact h
 |.ref _,_,h=>by simp only[Rep] at h ⊢;exact h
 |.ty _,_,h=>by simp only[Rep] at h ⊢;exact h
 |.tup ts,_,h=>by
  simp only[Rep] at h ⊢
  obtain⟨a,xs,e,s,r⟩:=h
  exact⟨a,xs,e,b a xs s,gV.mono b r⟩
def gV.mono {K:Frag} (c:tE K H H'):∀{ts:List T}{xs:List V},gV K H ts xs->gV K H' ts xs
 |[],_,h=>by simp only[gV] at h ⊢;exact h
 |t::ts,_,h=>by
  simp only[gV] at h ⊢
  obtain⟨x,r,e,a,b⟩:=h
  exact⟨x,r,e,Rep.mono c a,gV.mono c b⟩
end
section
variable {K:Frag}
def gV.nil:gV K H [] []:=by simp only[gV]
def gV.cons (a:Rep K H t v) (b:gV K H ts vs):gV K H (t::ts) (v::vs):=by simp only[gV];exact⟨v,vs,rfl,a,b⟩
def gV.inv (h:gV K H (t::ts) vs):∃v r,vs=v::r/\Rep K H t v/\gV K H ts r:=by simp only[gV] at h;exact h
def gV.inv0 (h:gV K H [] vs):vs=[]:=by simp only[gV] at h;exact h
def gV.length:∀{ts:List T}{vs:List V},gV K H ts vs->ts.length=vs.length
 |[],_,h=>by rw[h.inv0];rfl
 |t::ts,_,h=>by obtain⟨v,r,rfl,_,b⟩:=h.inv;simp [gV.length b]
def gV.get:∀{ts:List T}{vs:List V}{i:Nat}{t:T},gV K H ts vs->ts[i]?=some t->∃v,vs[i]?=some v/\Rep K H t v
 |[],_,_,_,_,e=>by simp at e
 |a::ts,_,0,t,h,e=>by obtain⟨v,r,rfl,q,_⟩:=h.inv;simp at e;subst e;exact⟨v,rfl,q⟩
 |a::ts,_,i+1,t,h,e=>by obtain⟨v,r,rfl,_,b⟩:=h.inv;simpa using gV.get b (by simpa using e)
def gV.get':∀{ts:List T}{vs:List V}{i:Nat}{v:V},gV K H ts vs->vs[i]?=some v->∃t,ts[i]?=some t/\Rep K H t v
 |[],_,_,_,h,e=>by rw[h.inv0] at e;simp at e
 |a::ts,_,0,v,h,e=>by obtain⟨x,r,rfl,q,_⟩:=h.inv;simp at e;subst e;exact⟨a,rfl,q⟩
 |a::ts,_,i+1,v,h,e=>by obtain⟨x,r,rfl,_,b⟩:=h.inv;simpa using gV.get' b (by simpa using e)
def gV.append:∀{ts us:List T}{xs ys:List V},gV K H ts xs->gV K H us ys->gV K H (ts++us) (xs++ys)
 |[],_,_,_,h,h'=>by rw[h.inv0];exact h'
 |t::ts,_,_,_,h,h'=>by obtain⟨v,r,rfl,a,b⟩:=h.inv;exact .cons a (gV.append b h')
def gV.take:∀{ts:List T}{xs:List V}(n:Nat),gV K H ts xs->gV K H (ts.take n) (xs.take n)
 |[],_,n,h=>by rw[h.inv0];simp only[List.take_nil];exact .nil
 |t::ts,_,0,h=>.nil
 |t::ts,_,n+1,h=>by obtain⟨v,r,rfl,a,b⟩:=h.inv;exact .cons a (gV.take n b)
def gV.drop:∀{ts:List T}{xs:List V}(n:Nat),gV K H ts xs->gV K H (ts.drop n) (xs.drop n)
 |[],_,n,h=>by rw[h.inv0];simp only[List.drop_nil];exact .nil
 |t::ts,_,0,h=>h
 |t::ts,_,n+1,h=>by obtain⟨v,r,rfl,a,b⟩:=h.inv;exact gV.drop n b
def gV.set:∀{ts:List T}{xs:List V}{t:T}{v:V}(n:Nat),gV K H ts xs->Rep K H t v->gV K H (ts.set n t) (xs.set n v)
 |[],_,_,_,n,h,r=>by rw[h.inv0];exact .nil
 |t::ts,_,_,_,0,h,q=>by obtain⟨v,r,rfl,a,b⟩:=h.inv;exact .cons q b
 |t::ts,_,_,_,n+1,h,q=>by obtain⟨v,r,rfl,a,b⟩:=h.inv;exact .cons a (gV.set n b q)
def gV.reverse (h:gV K H ts xs):gV K H ts.reverse xs.reverse:=by
 induction ts generalizing xs with
 |nil=>rw[h.inv0];exact .nil
 |cons t ts c=>obtain⟨v,r,rfl,a,b⟩:=h.inv;simp only[List.reverse_cons];exact (c b).append (.cons a .nil)
def Rep.non (h:Rep K H .non v):v=.non:=by simp only[Rep] at h;exact h
def Rep.bl (h:Rep K H (.bl b) v):v=.bl b:=by simp only[Rep] at h;exact h
def Rep.int (h:Rep K H (.int i) v):v=.int i:=by simp only[Rep] at h;exact h
def Rep.str (h:Rep K H (.str x) v):v=.str x:=by simp only[Rep] at h;exact h
def Rep.ref (h:Rep K H (.ref a) v):v=.ref a:=by simp only[Rep] at h;exact h
def Rep.ty (h:Rep K H (.ty n) v):v=.ty n:=by simp only[Rep] at h;exact h
def Rep.tup (h:Rep K H (.tup ts) v):∃a xs,v=.ref a/\SqT K H a xs/\gV K H ts xs:=by simp only[Rep] at h;exact h
def Rep.ofNon:Rep K H .non .non:=by simp only[Rep]
def Rep.ofBl:Rep K H (.bl b) (.bl b):=by simp only[Rep]
def Rep.ofInt:Rep K H (.int i) (.int i):=by simp only[Rep]
def Rep.ofStr:Rep K H (.str x) (.str x):=by simp only[Rep]
def Rep.ofRef:Rep K H (.ref a) (.ref a):=by simp only[Rep]
def Rep.ofTy:Rep K H (.ty n) (.ty n):=by simp only[Rep]
def Rep.ofTup (h:SqT K H a xs) (r:gV K H ts xs):Rep K H (.tup ts) (.ref a):=by simp only[Rep];exact⟨a,xs,rfl,h,r⟩
end
inductive O3 where
 |lst (ts:List T) | rol (ts:List T) | dct (kvs:List (Str × T)) | dcp (kvs:List (List Key × T))
 |exc (C:Addr) (d:Option Addr) | xdt (fs:List (Str × T))
 |dci (kvs:List (Int × T)) | dif (o:Obj) (kvs:List (Int × T)) | ins (C:Addr) (fs:List (Str × T))
abbrev gb:=Addr->Option O3
def fY (H:gb) (a:Addr) (o:O3):gb:=fun b=>if b=a then some o else H b
def aq:fY H a o a=some o:=by unfold fY;rw[if_pos rfl]
def aF (h:b≠a):fY H a o b=H b:=by unfold fY;rw[if_neg h]
def qe:fY (fY H a o) a u=fY H a u:=by funext b;unfold fY;split <;> rfl
def acR (K:Frag) (H:Hp):List (Str × T)->List (Key × V)->Prop:=Paired fun (p:Str × T) (q:Key × V)=>q.1=Sum.inr p.1/\Rep K H p.2 q.2
def ae8 (K:Frag) (H:Hp):List (List Key × T)->List (List Key × V)->Prop:=Paired fun (p:List Key × T) (q:List Key × V)=>q.1=p.1/\Rep K H p.2 q.2
def ada (K:Frag) (H:Hp):List (Str × T)->List (Str × V)->Prop:=Paired fun (p:Str × T) (q:Str × V)=>q.1=p.1/\Rep K H p.2 q.2
def ac4 (K:Frag) (H:Hp):List (Int × T)->List (Key × V)->Prop:=Paired fun (p:Int × T) (q:Key × V)=>q.1=Sum.inl p.1/\Rep K H p.2 q.2
def aeY (K:Frag) (H:Hp) (a:Addr):O3->Prop
 |.lst ts=>∃xs,H a=some (.lst xs)/\gV K H ts xs
 |.rol ts=>∃xs,Rd H a (.lst xs)/\gV K H ts xs
 |.dct kvs=>∃vs,H a=some (.dK vs)/\acR K H kvs vs
 |.dcp kvs=>∃vs,H a=some (.dT vs)/\ae8 K H kvs vs
 |.exc C d=>H a=some (exO a C d false)
 |.xdt fs=>∃vs,H a=some (dxO a vs)/\ada K H fs vs
 |.dci kvs=>∃vs,H a=some (.dK vs)/\ac4 K H kvs vs
 |.dif o kvs=>∃vs,H a=some (.frz o (.dK vs))/\ac4 K H kvs vs
 |.ins C fs=>∃b vs,H a=some (.ins C b vs)/\ada K H fs vs
def g8 (K:Frag) (H3:gb) (H:Hp):Prop:=∀a o,H3 a=some o->aeY K H a o
abbrev St3:=List (Option T)
structure acj (K:Frag) (H:Hp) (Z3:St3) (Z:L2.St):Prop where
 len:Z3.length=Z.length
 at':∀(i:Nat) (t:T),Z3[i]?=some (some t)->∃v,Z[i]?=some (some v)/\Rep K H t v
section
variable {K:Frag}{H3:gb}
def acj.mono (s:acj K H Z3 Z) (a:tE K H H'):acj K H' Z3 Z:=⟨s.len,fun i t e=>let ⟨v,e',r⟩:=s.at' i t e;⟨v,e',r.mono a⟩⟩
def acj.set (s:acj K H Z3 Z) (r:Rep K H t v):acj K H (Z3.set i (some t)) (Z.set i (some v)):=by
 refine⟨by simp [s.len],fun j u e=>?_⟩;by_cases b:i=j
 ·subst b;by_cases a:i<Z3.length
  ·rw[aa2 a] at e;have c:t=u:=D_ (D_ e);subst c;exact⟨v,by rw[aa2 (by rw[<- s.len];exact a)],r⟩
  rw[O_ (by simpa using a)] at e;cases e
 rw[abe b] at e;rw[abe b];exact s.at' j u e
def acR.mono (h:acR K H kvs vs) (c:tE K H H'):acR K H' kvs vs:=Paired.mapP h fun _ _ ⟨a,b⟩=>⟨a,b.mono c⟩
def ada.mono (h:ada K H kvs vs) (c:tE K H H'):ada K H' kvs vs:=Paired.mapP h fun _ _ ⟨a,b⟩=>⟨a,b.mono c⟩
def ac4.mono (h:ac4 K H kvs vs) (c:tE K H H'):ac4 K H' kvs vs:=Paired.mapP h fun _ _ ⟨a,b⟩=>⟨a,b.mono c⟩
def ae8.mono (h:ae8 K H kvs vs) (c:tE K H H'):ae8 K H' kvs vs:=Paired.mapP h fun _ _ ⟨a,b⟩=>⟨a,b.mono c⟩
def ne3 (h:H3 a=some o) (h':H3 b=some u) (d:o≠u):a≠b:=by
 intro e;subst e;rw[h] at h';exact d (D_ h')
def bz (h:H3 a=some o) (h':H3 b=none):a≠b:=by
 intro e;subst e;rw[h] at h';cases h'
def aK (b:H p=none):tE K H (upd H p o):=fun a xs h=>by
 rcases h with (h | ⟨c,h⟩) | h
 ·exact .inl (.inl (by rw[aM (cz h b)];exact h))
 ·exact .inl (.inr ⟨c,by rw[aM (cz h b)];exact h⟩)
 exact .inr h
def cu (b:Mut (H p)):tE K H (upd H p o):=fun a xs h=>by
 have key:∀u,H a=some u->¬Mut (some u)->a≠p:=fun u e nm z=>by subst z;rw[e] at b;exact nm b
 rcases h with (h | ⟨c,h⟩) | h
 ·exact .inl (.inl (by rw[aM (key _ h fun z=>z)];exact h))
 ·exact .inl (.inr ⟨c,by rw[aM (key _ h fun z=>z)];exact h⟩)
 exact .inr h
def aeY.stay (h:aeY K H a o) (c:tE K H H') (b:∀u,H a=some u->H' a=some u):aeY K H' a o:=by
 cases o with
 |lst ts=>obtain⟨xs,e,r⟩:=h;exact⟨xs,b _ e,r.mono c⟩
 |rol ts =>
  obtain⟨xs,e,r⟩:=h;refine⟨xs,?_,r.mono c⟩;rcases e with e | ⟨f,e⟩
  ·exact .inl (b _ e)
  exact .inr ⟨f,b _ e⟩
 |dct kvs=>obtain⟨vs,e,r⟩:=h;exact⟨vs,b _ e,r.mono c⟩
 |dcp kvs=>obtain⟨vs,e,r⟩:=h;exact⟨vs,b _ e,r.mono c⟩
 |exc C d=>exact b _ h
 |xdt fs=>obtain⟨vs,e,r⟩:=h;exact⟨vs,b _ e,r.mono c⟩
 |dci kvs=>obtain⟨vs,e,r⟩:=h;exact⟨vs,b _ e,r.mono c⟩
 |dif o kvs=>obtain⟨vs,e,r⟩:=h;exact⟨vs,b _ e,r.mono c⟩
 |ins C fs=>obtain⟨d,vs,e,r⟩:=h;exact⟨d,vs,b _ e,r.mono c⟩
def g8.new (s:g8 K H3 H) (b:H p=none):g8 K H3 (upd H p o):=fun a u e =>
 (s a u e).stay (aK b) fun w q=>by rw[aM (cz q b)];exact q
def g8.fresh (s:g8 K H3 H) (a:H p=none):H3 p=none:=by
 cases e:H3 p with
 |none=>rfl
 |some o =>
  have q:=s p o e
  cases o with
  |lst ts=>obtain⟨xs,z,_⟩:=q;rw[a] at z;cases z
  |dct ts=>obtain⟨xs,z,_⟩:=q;rw[a] at z;cases z
  |dcp ts=>obtain⟨xs,z,_⟩:=q;rw[a] at z;cases z
  |exc C b=>have z:H p=_:=q;rw[a] at z;cases z
  |xdt ts=>obtain⟨xs,z,_⟩:=q;rw[a] at z;cases z
  |dci ts=>obtain⟨xs,z,_⟩:=q;rw[a] at z;cases z
  |dif o ts=>obtain⟨xs,z,_⟩:=q;rw[a] at z;cases z
  |ins C ts=>obtain⟨b,xs,z,_⟩:=q;rw[a] at z;cases z
  |rol ts =>
   obtain⟨xs,z,_⟩:=q
   rcases z with z | ⟨c,z⟩
   ·
    rw[a] at z;cases z
   ·
    rw[a] at z;cases z
end
abbrev v6:=T->gb->Prop
abbrev Ho:=St3->gb->v6->Prop
abbrev TT3:=St3->gb->(Bool->gb->Prop)->Prop
abbrev TA3:=St3->gb->(List T->gb->Prop)->Prop
structure adX where
 nx:St3->gb->Prop
 rt:v6
 bk:St3->gb->Prop:=fun _ _=>False
 ct:St3->gb->Prop:=fun _ _=>False
abbrev TS3:=adX->St3->gb->Prop
abbrev TG3:=T->St3->gb->(St3->gb->Prop)->Prop
abbrev nU:=List T->St3->gb->(St3->gb->Prop)->Prop
abbrev R3:=T->T->gb->v6->Prop
section
variable (K:Frag)
def KV3 (H:Hp) (b:v6) (Q:VK):Prop:=∀v H' t a,tE K H H'->g8 K a H'->Rep K H' t v->b t a->Q v H'
def KS3 (H:Hp) (d:St3->gb->Prop) (N:L2.St->Hp->Prop):Prop:=∀c H' b a,tE K H H'->acj K H' b c->g8 K a H'->d b a->N c H'
def lft (c:Ho):TE:=fun Z H Q=>∃a H3 b,acj K H a Z/\g8 K H3 H/\c a H3 b/\KV3 K H b Q
def zV (e:TT3):TT:=fun Z H Q=>∃c H3 d,acj K H c Z/\g8 K H3 H/\e c H3 d/\∀b H' a,tE K H H'->g8 K a H'->d b a->Q b H'
def Yx (d:TA3):TA:=fun Z H Q=>∃b H3 c,acj K H b Z/\g8 K H3 H/\d b H3 c/\∀vs H' ts a,tE K H H'->g8 K a H'->gV K H' ts vs->c ts a->Q vs H'
def Jp (c:TS3):TS:=fun D Z H=>∃b H3 a,acj K H b Z/\g8 K H3 H/\c a b H3/\KS3 K H a.nx D.nx/\KV3 K H a.rt D.rt/\KS3 K H a.bk D.bk/\KS3 K H a.ct D.ct
def Jq (c:TG3):TG:=fun v Z H Q=>∃t a H3 b,Rep K H t v/\acj K H a Z/\g8 K H3 H/\c t a H3 b/\KS3 K H b Q
def Vd (c:nU):TGs:=fun vs Z H Q=>∃ts a H3 b,gV K H ts vs/\acj K H a Z/\g8 K H3 H/\c ts a H3 b/\KS3 K H b Q
def Qk (d:R3):R2:=fun x y H Q=>∃c a H3 b,Rep K H c x/\Rep K H a y/\g8 K H3 H/\d c a H3 b/\KV3 K H b Q
def Yy (b:List T->gb->v6->Prop):List V->Hp->VK->Prop:=fun xs H Q=>∃ts H3 a,gV K H ts xs/\g8 K H3 H/\b ts H3 a/\KV3 K H a Q
def Yz (c:T->List T->gb->v6->Prop):V->List V->Hp->VK->Prop:=fun x xs H Q=>∃b ts H3 a,Rep K H b x/\gV K H ts xs/\g8 K H3 H/\c b ts H3 a/\KV3 K H a Q
end
section
variable {K:Frag}
def KV3.at (k:KV3 K H b Q) (c:tE K H H1):KV3 K H1 b Q:=fun v H' t a l=>k v H' t a (c.trans l)
def KS3.at (k:KS3 K H e N) (f:tE K H H1):KS3 K H1 e N:=fun a b c d l=>k a b c d (f.trans l)
end
def xr (X:Cx) (e:Expr) (t:Ho):Prop:=PE X e (lft X.K t)
def PT3 (X:Cx) (e:Expr) (t:TT3):Prop:=PT X e (zV X.K t)
def PW3 (X:Cx) (e:Expr) (t:TT3):Prop:=PW X e (zV X.K t)
def PA3 (X:Cx) (a:List Expr) (t:TA3):Prop:=PA X a (Yx X.K t)
def PS3 (X:Cx) (st:Stmt) (t:TS3):Prop:=PS X st (Jp X.K t)
def ju (X:Cx) (st:List Stmt) (t:TS3):Prop:=PSs X st (Jp X.K t)
def PG3 (X:Cx) (e:Expr) (t:TG3):Prop:=PG X e (Jq X.K t)
def Jr (X:Cx) (a:List Expr) (t:nU):Prop:=PGs X a (Vd X.K t)
def dG (X:Cx) (f:Value->Value->Sem Value) (r:R3):Prop:=OpR X f (Qk X.K r)
def dj (X:Cx) (f:Value) (r:List T->gb->v6->Prop):Prop:=ach X f (Yy X.K r)
def Ve (X:Cx) (r:R3):Prop:=IxR X (Qk X.K r)
def zW (X:Cx) (id:String) (r:T->List T->gb->v6->Prop):Prop:=MtR X id (Yz X.K r)
def PE.imp (h:PE X e t) (w:∀Z H Q,t' Z H Q->t Z H Q):PE X e t':=fun a s Z H Q I q=>h a s Z H Q I (w Z H Q q)
def PT.imp (h:PT X e t) (w:∀Z H Q,t' Z H Q->t Z H Q):PT X e t':=fun a s Z H Q I q=>h a s Z H Q I (w Z H Q q)
def PW.imp (h:PW X e t) (w:∀Z H Q,t' Z H Q->t Z H Q):PW X e t':=fun b a s Z H Q I q=>h b a s Z H Q I (w Z H Q q)
def PA.imp (h:PA X c t) (w:∀Z H Q,t' Z H Q->t Z H Q):PA X c t':=fun b a s Z H Q I q=>h b a s Z H Q I (w Z H Q q)
def PS.imp (h:PS X e t) (w:∀D Z H,t' D Z H->t D Z H):PS X e t':=fun a s Z H D I q=>h a s Z H D I (w D Z H q)
def PSs.imp (h:PSs X e t) (w:∀D Z H,t' D Z H->t D Z H):PSs X e t':=fun a s Z H D I q=>h a s Z H D I (w D Z H q)
def PG.imp (h:PG X e t) (w:∀v Z H Q,t' v Z H Q->t v Z H Q):PG X e t':=fun a s Z H v u Q I r q=>h a s Z H v u Q I r (w v Z H Q q)
def PGs.imp (h:PGs X e t) (w:∀v Z H Q,t' v Z H Q->t v Z H Q):PGs X e t':=fun a s Z H v u Q I r q=>h a s Z H v u Q I r (w v Z H Q q)
def OpR.imp (h:OpR X f t) (w:∀x y H Q,t' x y H Q->t x y H Q):OpR X f t':=fun a s Z H x y v u Q I c b q=>h a s Z H x y v u Q I c b (w x y H Q q)
def ach.imp (h:ach X f t) (w:∀x H Q,t' x H Q->t x H Q):ach X f t':=fun a s Z H x v Q I b q=>h a s Z H x v Q I b (w x H Q q)
def IxR.imp (h:IxR X t) (w:∀x y H Q,t' x y H Q->t x y H Q):IxR X t':=fun a b c s Z H x y v u Q I e d q=>h a b c s Z H x y v u Q I e d (w x y H Q q)
def MtR.imp {id:String} (h:MtR X id t) (w:∀x xs H Q,t' x xs H Q->t x xs H Q):MtR X id t':=fun a s Z H x xs v us Q I c b q=>h a s Z H x xs v us Q I c b (w x xs H Q q)
section
variable {X:Cx}{pos:Pos}
def sy (i:Nat):Ho:=fun Z H Q=>match Z[i]? with
 |some (some t)=>Q t H
 |_=>False
def tC3 (t:T):Ho:=fun _ H Q=>Q t H
def v3 (i:Nat) {b:Pos} (j:X.N[i]?=some x:=by rfl) (c:Vis X.env.scope x:=by first | exact Or.inl rfl | exact Or.inr (Or.inl rfl) | exact Or.inr (Or.inr rfl)) (l:(x==("__debug__":Str))=false:=by decide) (a:(x==("__classdict__":Str))=false:=by decide):xr X (.Name x b) (sy i):=by
 refine PE.imp (pv i j c l a) ?_;rintro Z H Q ⟨m,H3,n,d,g,h,k⟩;unfold sy at h;split at h
 ·rename_i t e;obtain⟨v,f,r⟩:=d.at' i t e;exact⟨v,f,k v H t H3 .refl g r h⟩
 exact h.elim
def ao:xr X (.Constant (.int i) j pos) (tC3 (.int i)):=by
 refine PE.imp O2 ?_;rintro Z H Q ⟨b,H3,c,d,a,h,k⟩;exact k _ _ _ H3 .refl a .ofInt h
def cP:xr X (.Constant (.bool b) j pos) (tC3 (.bl b)):=by
 refine PE.imp Uc ?_;rintro Z H Q ⟨c,H3,d,e,a,h,k⟩;exact k _ _ _ H3 .refl a .ofBl h
def jM:xr X (.Constant .none j pos) (tC3 .non):=by
 refine PE.imp O4 ?_;rintro Z H Q ⟨b,H3,c,d,a,h,k⟩;exact k _ _ _ H3 .refl a .ofNon h
def gU:xr X (.Constant (.str x) j pos) (tC3 (.str x)):=by
 refine PE.imp O5 ?_;rintro Z H Q ⟨b,H3,c,d,a,h,k⟩;exact k _ _ _ H3 .refl a .ofStr h
variable {a b c:Expr}{ta tb tc:Ho}
def sE (r:R3) (c tb:Ho):Ho:=fun Z H Q=>c Z H fun x a=>tb Z a fun y b=>r x y b Q
def iG (h:lft X.K (sE r ta tb) Z H Q):tOp (Qk X.K r) (lft X.K ta) (lft X.K tb) Z H Q:=by
 obtain⟨i,H3,p,g,q,h,k⟩:=h;exact⟨i,H3,_,g,q,h,fun x t s c b f l m=>⟨i,c,_,g.mono b,f,m,fun y u o d a e j n=>⟨s,o,d,p,l.mono a,j,e,n,k.at (b.trans a)⟩⟩⟩
def aG {c:Operator} (f:dG X (binaryOp c) r) (d:xr X a ta) (e:xr X b tb):xr X (.BinOp a c b pos) (sE r ta tb):=PE.imp (Ur f d e) fun _ _ _ h=>iG h
def dO {c:CmpOp} (f:dG X (compareOp c) r) (d:xr X a ta) (e:xr X b tb) (g:behindInMarks c b=false:=by first | exact By _ | rfl):xr X (.Compare a [c] [b] pos) (sE r ta tb):=PE.imp (Ip f d e g) fun _ _ _ h=>iG h
def aJ (d:Ve X r) (e:xr X a ta) (c:xr X b tb) (f:xP b:=by exact fun _ _=>rfl):xr X (.Subscript a b pos) (sE r ta tb):=PE.imp (U0 d e c f) fun _ _ _ h=>iG h
def jN (t:Ho):TT3:=fun Z H Q=>t Z H fun x H'=>match x with
 |.bl k=>Q k H'
 |_=>False
def aU (m:dG X (compareOp e) r) (j:xr X a ta) (i:xr X b tb) (o:behindInMarks e b=false:=by first | exact By _ | rfl):PT3 X (.Compare a [e] [b] pos) (jN (sE r ta tb)):=by
 refine PT.imp (Ir m j i o) ?_;rintro Z H Q ⟨l,H3,p,g,n,h,k⟩;refine iG (X:=X) ⟨l,H3,_,g,n,h,fun v H' t c f d r q=>?_⟩;cases t with
 |bl b=>exact⟨b,r.bl,k b H' c f d q⟩
 |_=>exact q.elim
variable {rest:List Expr}
def dm (h:xr X a ta) (g:∀whole,isTrue a X.env whole=(do let v <- whole;standAt a.pos;holding [v] (truthy v)):=by intro _;rfl):PT3 X a (jN ta):=by
 refine PT.imp (O6 h g) ?_;rintro Z H Q ⟨i,H3,l,f,j,h,k⟩;refine⟨i,H3,_,f,j,h,fun v H' t c e d r q=>?_⟩;cases t with
 |bl b=>exact⟨b,r.bl,k b H' c e d q⟩
 |_=>exact q.elim
def Mt (t u:TT3):TT3:=fun Z H Q=>t Z H fun c a=>if c=true then u Z a Q else Q false a
def Vf (t u:TT3):TT3:=fun Z H Q=>t Z H fun c a=>if c=true then Q true a else u Z a Q
def Mu (t:TT3):TT3:=fun Z H Q=>t Z H fun c a=>Q (!c) a
def PW3.pt (h:PW3 X a tA):PT3 X a tA:=PW.pt h
def fj (b:PT3 X a tA):PW3 X (.BoolOp .And [a] pos) tA:=Ie b
def je (b:PT3 X a tA):PW3 X (.BoolOp .Or [a] pos) tA:=O7 b
def gW (o:PT3 X a tA) (n:PW3 X (.BoolOp .And (b::rest) pos) tB'):PW3 X (.BoolOp .And (a::b::rest) pos) (Mt tA tB'):=by
 refine PW.imp (O8 o n) ?_;rintro Z H Q ⟨m,H3,s,l,r,h,k⟩;refine⟨m,H3,_,l,r,h,fun b H' d g e q=>?_⟩;cases b with
 |true=>exact⟨m,d,_,l.mono g,e,q,fun b i f j c p=>k b i f (g.trans j) c p⟩
 |false=>exact k false H' d g e q
def j8 (o:PT3 X a tA) (n:PW3 X (.BoolOp .Or (b::rest) pos) tB'):PW3 X (.BoolOp .Or (a::b::rest) pos) (Vf tA tB'):=by
 refine PW.imp (Ud o n) ?_;rintro Z H Q ⟨m,H3,s,l,r,h,k⟩;refine⟨m,H3,_,l,r,h,fun b H' d g e q=>?_⟩;cases b with
 |true=>exact k true H' d g e q
 |false=>exact⟨m,d,_,l.mono g,e,q,fun b i f j c p=>k b i f (g.trans j) c p⟩
def gD (g:PT3 X a tA):PT3 X (.UnaryOp .Not a pos) (Mu tA):=by
 refine PT.imp (O9 g) ?_;rintro Z H Q ⟨i,H3,l,f,j,h,k⟩;exact⟨i,H3,_,f,j,h,fun b H' c e d q=>k _ H' c e d q⟩
def Cm (b tb:Ho):Ho:=fun Z H Q=>b Z H fun x a=>match x with
 |.bl c=>if c=true then tb Z a Q else Q (.bl false) a
 |_=>False
def Mv (b tb:Ho):Ho:=fun Z H Q=>b Z H fun x a=>match x with
 |.bl c=>if c=true then Q (.bl true) a else tb Z a Q
 |_=>False
def Cp {b:PySem.BoolOp} (h:xr X a t):xr X (.BoolOp b [a] pos) t:=Pa h
def Ql (j:xr X a ta) (i:xr X (.BoolOp .And (b::rest) pos) tb):xr X (.BoolOp .And (a::b::rest) pos) (Cm ta tb):=by
 refine PE.imp (Pb j i) ?_;rintro Z H Q ⟨g,H3,m,f,l,h,k⟩;refine⟨g,H3,_,f,l,h,fun v H' t c e d r q=>?_⟩;cases t with
 |bl b =>
  refine⟨b,r.bl,?_⟩;cases b with
  |true=>exact⟨g,c,_,f.mono e,d,q,k.at e⟩
  |false=>exact k _ H' _ c e d .ofBl q
 |_=>exact q.elim
def Vg (j:xr X a ta) (i:xr X (.BoolOp .Or (b::rest) pos) tb):xr X (.BoolOp .Or (a::b::rest) pos) (Mv ta tb):=by
 refine PE.imp (Ug j i) ?_;rintro Z H Q ⟨g,H3,m,f,l,h,k⟩;refine⟨g,H3,_,f,l,h,fun v H' t c e d r q=>?_⟩;cases t with
 |bl b =>
  refine⟨b,r.bl,?_⟩;cases b with
  |true=>exact k _ H' _ c e d .ofBl q
  |false=>exact⟨g,c,_,f.mono e,d,q,k.at e⟩
 |_=>exact q.elim
def YB (t:TT3) (b tb:Ho):Ho:=fun Z H Q=>t Z H fun c a=>if c=true then b Z a Q else tb Z a Q
def Mw:TA3:=fun _ H Q=>Q [] H
def Cq (d:Ho) (a:TA3):TA3:=fun Z H Q=>d Z H fun x b=>a Z b fun xs c=>Q (x::xs) c
def ak:PA3 X [] Mw:=by
 refine PA.imp P0 ?_;rintro Z H Q ⟨b,H3,c,d,a,h,k⟩;exact k _ _ _ _ .refl a .nil h
def aa (l:xr X e te) (u:PA3 X es t) (o:starEach (e::es) X.env=(false,eval e X.env)::starEach es X.env:=by rfl):PA3 X (e::es) (Cq te t):=by
 refine PA.imp (Iz l u o) ?_;rintro Z H Q ⟨i,H3,w,g,s,h,k⟩;exact⟨i,H3,_,g,s,h,fun v H' t c f d r q=>⟨i,c,_,g.mono f,d,q,fun vs p ts j b a m n=>k _ _ _ _ (f.trans b) a (.cons (r.mono b) m) n⟩⟩
def Mx (t:TA3):Ho:=fun Z H Q=>t Z H fun xs a=>xs.length<=sizeLine/\Q (.tup xs) a
def Mz (t:TA3):Ho:=fun Z H Q=>t Z H fun xs a=>xs.length<=sizeLine/\∀p,a p=none->Q (.ref p) (fY a p (.lst xs))
def g8.newTup {K:Frag}{H3:gb} (a:H p=none) (r:gV K H ts xs):Rep K (upd H p (.tup xs)) (.tup ts) (.ref p) :=
 .ofTup (.of aY) (r.mono (aK a))
def g8.newLst {K:Frag} (s:g8 K H3 H) (b:H p=none) (r:gV K H ts xs):g8 K (fY H3 p (.lst ts)) (upd H p (.lst xs)):=fun a o e=>by
 by_cases c:a=p
 ·subst c;rw[aq] at e;cases e;exact⟨xs,aY,r.mono (aK b)⟩
 rw[aF c] at e;exact s.new b a o e
def bB (h:PA3 X es t):xr X (.Tuple es x1 pos) (Mx t):=by
 refine PE.imp (Qa h) ?_;rintro Z H Q ⟨f,H3,i,e,g,h,k⟩;refine⟨f,H3,_,e,g,h,fun vs H' ts a d b r q=>⟨by rw[<- r.length];exact q.1,fun p c=>?_⟩⟩;exact k _ _ _ a (d.trans (aK c)) (b.new c) (g8.newTup (H3:=a) c r) q.2
def bx (h:PA3 X es t):xr X (.List es pos) (Mz t):=by
 refine PE.imp (Qc h) ?_;rintro Z H Q ⟨e,H3,i,d,g,h,k⟩;refine⟨e,H3,_,d,g,h,fun vs H' ts f c a r q=>⟨by rw[<- r.length];exact q.1,fun p b=>?_⟩⟩;exact k _ _ _ _ (c.trans (aK b)) (a.newLst b r) .ofRef (q.2 p (a.fresh b))
end
section
variable {X:Cx}{st:Stmt}{rest:List Stmt}{pos:Pos}
def Cr:TS3:=fun D Z H=>D.nx Z H
def xV (t u:TS3):TS3:=fun D Z H=>t { D with nx:=u D} Z H
def aR:ju X [] Cr:=by
 refine PSs.imp Ig ?_;rintro D Z H ⟨e,H3,d,a,b,h,c,_⟩;exact c _ _ _ _ .refl a b h
def aj (p:PS3 X st t) (m:ju X rest u):ju X (st::rest) (xV t u):=by
 refine PSs.imp (rN p m) ?_;rintro D Z H ⟨l,H3,j,k,n,h,o,i,f,g⟩;exact⟨l,H3,_,k,n,h,fun r H' b c a e d q=>⟨b,c,j,e,d,q,o.at a,i.at a,f.at a,g.at a⟩,i,f,g⟩
def aA (a:PS3 X st t):ju X [st] t:=xK a
def Cu (te:Ho):TS3:=fun D Z H=>te Z H fun _ a=>D.nx Z a
def bZ (d:xr X e te) (i:swapsWith e none pos.line X.env=pure false:=by rfl):PS3 X (.Expr e pos) (Cu te):=by
 refine PS.imp (Ih d i) ?_;rintro D Z H ⟨f,H3,l,c,j,h,k,_⟩;exact⟨f,H3,_,c,j,h,fun v H' t g b a r q=>k _ _ _ _ b (c.mono b) a q⟩
def MF (te:Ho):TS3:=fun D Z H=>te Z H D.rt
def aL (b:xr X e te):PS3 X (.Return (some e) pos) (MF te):=by
 refine PS.imp (Pg b) ?_;rintro D Z H ⟨c,H3,g,a,d,h,i,f,_⟩;exact⟨c,H3,_,a,d,h,f⟩
def Qm:TS3:=fun D _ H=>D.rt .non H
def MJ (c:TT3) (t u:TS3):TS3:=fun D Z H=>c Z H fun b a=>if b=true then t D Z a else u D Z a
def bA (o:PT3 X c tc) (r:ju X a t) (p:ju X b u):PS3 X (.If c a b pos) (MJ tc t u):=by
 refine PS.imp (Uj o r p) ?_;rintro D Z H ⟨i,H3,j,g,s,h,m,n,k,l⟩;refine⟨i,H3,_,g,s,h,fun b H' e d f q=>?_⟩;cases b with
 |true=>exact⟨i,e,j,g.mono d,f,q,m.at d,n.at d,k.at d,l.at d⟩
 |false=>exact⟨i,e,j,g.mono d,f,q,m.at d,n.at d,k.at d,l.at d⟩
def eX (i:Nat):TG3:=fun v Z H Q=>Q (Z.set i (some v)) H
def aC (i:Nat) (f:X.N.Nodup) (b:X.N[i]?=some x:=by rfl) (d:Loc X.env.scope x:=by first | exact Or.inl rfl | exact Or.inr rfl) (e:X.fn x=true\/X.env.scope.names.lookup x=some .local:=by first | exact .inl rfl | exact .inr rfl | assumption):PG3 X (.Name x pos) (eX i):=by
 refine PG.imp (Ii f b d e) ?_;rintro v Z H Q ⟨t,g,H3,j,r,a,c,h,k⟩;exact k _ _ _ _ .refl (a.set r) c h
def xW:nU:=fun ts Z H Q=>match ts with
 |[]=>Q Z H
 |_=>False
def jf (t:TG3) (u:nU):nU:=fun ts Z H Q=>match ts with
 |x::r=>t x Z H fun a H'=>u r a H' Q
 |[]=>False
def bI:Jr X [] xW:=by
 refine PGs.imp Ij ?_;rintro vs Z H Q ⟨ts,c,H3,d,r,b,a,h,k⟩;cases ts with
 |nil=>exact⟨r.inv0,k _ _ _ _ .refl b a h⟩
 |cons _ _=>exact h.elim
def aH {t:TG3}{u:nU} (y:PG3 X e t) (n:Jr X a u) (m:(assignEach (e::a) X.env).map (·.2)=assign e X.env::(assignEach a X.env).map (·.2):=by rfl):Jr X (e::a) (jf t u):=by
 refine PGs.imp (Bw y n m) ?_;rintro vs Z H Q ⟨ts,l,H3,o,r,j,p,h,k⟩;cases ts with
 |nil=>exact h.elim
 |cons x ts =>
 obtain⟨v,i,rfl,w,s⟩:=r.inv;exact⟨v,i,rfl,x,l,H3,_,w,j,p,h,fun z H' b c g f d q=>⟨ts,b,c,o,s.mono g,f,d,q,k.at g⟩⟩
def xX (n:Nat) (g:nU):TG3:=fun t Z H Q=>match t with
 |.tup ts=>ts.length=n/\g ts Z H Q
 |_=>False
def cA {k:Nat}{t:nU} (f:X.calm=true) (h:Jr X b t) (l:(assignEach b X.env).length=n:=by rfl) (c:(assignEach b X.env).findIdx? (·.1)=none:=by rfl):PG3 X (.Tuple b k pos) (xX n t):=by
 refine PG.imp (Ph f h l c) ?_;rintro v Z H Q ⟨t,g,H3,i,r,e,j,h,k⟩;cases t with
 |tup ts=>obtain⟨a,xs,rfl,s,d⟩:=r.tup;exact⟨a,xs,rfl,s,by rw[<- d.length];exact h.1,ts,g,H3,i,d,e,j,h.2,k⟩
 |_=>exact h.elim
def xY (te:Ho) (g:TG3):TS3:=fun D Z H=>te Z H fun x a=>g x Z a D.nx
def my (k:xr X e te) (j:PG3 X a g) (m:swapsWithSole [a] e pos.line X.env=pure false:=by rfl) (l:swappedStores [a] e X.env=pure none:=by rfl) (p:(assignEach [a] X.env).map (·.2)=[assign a X.env]:=by rfl):PS3 X (.Assign [a] e pos) (xY te g):=by
 refine PS.imp (Pk k j m l p) ?_;rintro D Z H ⟨i,H3,s,f,n,h,o,_⟩;exact⟨i,H3,_,f,n,h,fun v H' t b d c r q=>⟨t,i,b,_,r,f.mono d,c,q,o.at d⟩⟩
def aD (i:Nat) {a:Pos} (p:X.N.Nodup) (f:xr X e te) (g:X.N[i]?=some x:=by rfl) (n:Loc X.env.scope x:=by first | exact Or.inl rfl | exact Or.inr rfl) (l:swapsWith e (some (.Name x a)) pos.line X.env=pure false:=by rfl) (o:X.fn x=true\/X.env.scope.names.lookup x=some .local:=by first | exact .inl rfl | exact .inr rfl | assumption):
  PS3 X (.Assign [.Name x a] e pos) (xY te (eX i)):=by
 refine PS.imp (Pn p g n f l o) ?_;rintro D Z H ⟨j,H3,u,d,m,h,s,_⟩;exact⟨j,H3,_,d,m,h,fun v H' t k c b r q=>s _ _ _ _ c ((d.mono c).set r) b q⟩
end
abbrev sG:=T->T->T->gb->(gb->Prop)->Prop
def Qn (K:Frag) (f:sG):Bv:=fun o i v H Q=>∃e b c H3 d,Rep K H e o/\Rep K H b i/\Rep K H c v/\g8 K H3 H/\f e b c H3 d/\∀H' a,tE K H H'->g8 K a H'->d a->Q H'
def MK (X:Cx) (t:sG):Prop:=adU X (Qn X.K t)
def adU.imp (h:adU X t) (w:∀o i v H Q,t' o i v H Q->t o i v H Q):adU X t':=fun a s Z H o i v f b u Q I d c e q=>h a s Z H o i v f b u Q I d c e (w o i v H Q q)
def MN (d c:Ho) (t:sG):TG3:=fun v Z H Q=>d Z H fun o a=>c Z a fun i b=>t o i v b fun H3=>Q Z H3
def Cv (w:xr X o d) (y:xr X i c) (A:MK X t) (D:∀v,assign (.Subscript o i pos) X.env v=(do
   let ov <- holding [v] (eval o X.env)
   let iv <- holding [v,ov] (eval i X.env)
   standAt pos
   holding [v,ov,iv] (setItem ov iv v)
   release [v,ov,iv] []):=by intro _;rfl):PG3 X (.Subscript o i pos) (MN d c t):=by
 refine PG.imp (Pj w y A D) ?_;rintro v Z H Q ⟨t,p,H3,G,r,e,x,h,k⟩;exact⟨p,H3,_,e,x,h,fun o F d g b l s u=>⟨p,g,_,e.mono b,l,u,fun i E c m a f C B=>⟨d,c,t,m,_,s.mono a,C,r.mono (b.trans a),f,B,fun H' z n j q=>k _ _ _ _ (b.trans (a.trans n)) (e.mono (b.trans (a.trans n))) j q⟩⟩⟩
abbrev TI3:=St3->gb->(List T->(gb->Prop)->gb->Prop)->Prop
def jw (K:Frag) (J:It) (ts:List T) (still:gb->Prop) (H:Hp):Prop:=∀H' b,tE K H H'->g8 K b H'->still b ->
 (∀i,ts.length<=i->J.stop i H')/\∀i t,ts[i]?=some t->J.go i H'/\∀x a,J.yld i H' x a->tE K H' a/\g8 K b a/\Rep K a t x
def YC (K:Frag) (c:TI3):TI:=fun Z H R=>∃b H3 R3,acj K H b Z/\g8 K H3 H/\c b H3 R3/\∀J ts still H' a,tE K H H'->g8 K a H'->jw K J ts still H'->R3 ts still a->R J H'
def PI3 (X:Cx) (b a:Expr) (t:TI3):Prop:=PI X b a (YC X.K t)
def PI.imp (h:PI X b e t) (w:∀Z H R,t' Z H R->t Z H R):PI X b e t':=fun a s Z H R I q=>h a s Z H R I (w Z H R q)
def cI:gb->Prop:=fun _=>True
def bh (a:Addr) (ts:List T):gb->Prop:=fun H=>H a=some (.lst ts)\/H a=some (.rol ts)
def g8.sqL {K:Frag} (s:g8 K H3 H) (h:bh a ts H3):∃xs,SqL K H a xs/\gV K H ts xs:=by
 rcases h with h | h
 ·obtain⟨xs,e,r⟩:=s a _ h;exact⟨xs,.of e,r⟩
 obtain⟨xs,e,r⟩:=s a _ h;exact⟨xs,.inl e,r⟩
section
variable {tg l:Expr}{pos p:Pos}
def Cw (c:Ho):TI3:=fun Z H R=>c Z H fun x b=>match x with
 |.ref a=>match b a with
  |some (.lst ts)=>R ts (bh a ts) b
  |some (.rol ts)=>R ts (bh a ts) b
  |_=>False
 |_=>False
def oZ {K:Frag}:jw K (Itl K a) ts (bh a ts) H:=fun H' g l d st=>by
 obtain⟨xs,b,c⟩:=d.sqL st;have n:=c.length;refine⟨fun i m=>⟨xs,b,by omega⟩,fun i t e=>?_⟩;obtain⟨v,f,k⟩:=c.get e;refine⟨⟨xs,v,b,f⟩,fun x h y=>?_⟩;obtain⟨j,y⟩:=y;subst j;have:=y xs b;rw[f] at this;cases this;exact⟨.refl,d,k⟩
def c7 (n:xr X l tl):PI3 X tg l (Cw tl):=by
 refine PI.imp (Ik n) ?_;rintro Z H R ⟨j,H3,R3,i,o,h,k⟩;refine⟨j,H3,_,i,o,h,fun v H' t b g c r q=>?_⟩;cases t with
 |ref a =>
  have d:(match b a with
   |some (.lst ts)=>R3 ts (bh a ts) b
   |some (.rol ts)=>R3 ts (bh a ts) b
   |_=>False):=q
  split at d
  ·
   rename_i ts e
   obtain⟨xs,f,m⟩:=c.sqL (.inl e)
   exact⟨a,r.ref,⟨xs,f⟩,k _ ts (bh a ts) H' b g c oZ d⟩
  ·
   rename_i ts e
   obtain⟨xs,f,m⟩:=c.sqL (.inr e)
   exact⟨a,r.ref,⟨xs,f⟩,k _ ts (bh a ts) H' b g c oZ d⟩
  ·
   exact d.elim
 |_=>exact q.elim
def MP (a:Ho):TI3:=fun Z H R=>a Z H fun x b=>match x with
 |.tup ts=>R ts cI b
 |_=>False
def Cy {K:Frag} (c:SqT K H a xs) (d:gV K H ts xs):jw K (Itt K a) ts cI H:=fun H' g b j st=>by
 have n:=d.length;refine⟨fun i m=>⟨xs,b _ _ c,by omega⟩,fun i t e=>?_⟩;obtain⟨v,f,l⟩:=d.get e;refine⟨⟨xs,v,b _ _ c,f⟩,fun x h y=>?_⟩;obtain⟨k,y⟩:=y;subst k;have:=y xs (b _ _ c);rw[f] at this;cases this;exact⟨.refl,j,l.mono b⟩
def bF (m:xr X l tl):PI3 X tg l (MP tl):=by
 refine PI.imp (Pu m) ?_;rintro Z H R ⟨i,H3,R3,f,n,h,k⟩;refine⟨i,H3,_,f,n,h,fun v H' t b g c r q=>?_⟩;cases t with
 |tup ts=>obtain⟨a,xs,e,d,j⟩:=r.tup;exact⟨a,e,⟨xs,d⟩,k _ ts cI H' b g c (Cy d j) q⟩
 |_=>exact q.elim
def dX (a:Int) (n:Nat):List T:=(List.range n).map fun (i:Nat)=>T.int (a+i)
def sH {K:Frag}:jw K (Itr b n) (dX b n) cI H:=fun H' d j g st=>by
 refine⟨fun i a=>by unfold dX at a;simp at a;exact a,fun i t e=>?_⟩;unfold dX at e;rw[x_] at e;by_cases a:i<n
 ·rw[Zy a] at e;cases e;refine⟨a,fun x f y=>?_⟩;obtain⟨h,c⟩:=y;subst h;subst c;exact⟨.refl,g,.ofInt⟩
 rw[O_ (by simpa using a)] at e;cases e
def Cz (b:TA3):TI3:=fun Z H R=>b Z H fun vs a=>match vs with
 |[.int j]=>-(2^62)<=j/\j<2^62/\R (dX 0 j.toNat) cI a
 |[.int i,.int j]=>(-(2^62)<=i/\i<2^62 /\ -(2^62)<=j/\j<2^62)/\R (dX i (j - i).toNat) cI a
 |_=>False
def bR (g:Gl X "range") (w:X.mg "range"=none) (n:PA3 X [a] d) (s:starEach [a] X.env=[(false,eval a X.env)]:=by rfl):PI3 X tg (.Call (.Name "range" p) [a] [] pos) (Cz (fun Z H Q=>d Z H fun vs f=>vs.length=1/\Q vs f)):=by
 refine PI.imp (zG g w n s) ?_;rintro Z H R ⟨o,H3,R3,l,u,h,k⟩;refine⟨o,H3,_,l,u,h,fun vs H' ts b m c r q=>?_⟩;obtain⟨e,q⟩:=q;cases ts with
 |nil=>cases e
 |cons t ts =>
 cases ts with
 |cons _ _=>simp at e
 |nil =>
 cases t with
 |int j=>obtain⟨v,_,rfl,x,i⟩:=r.inv;rw[i.inv0,x.int];exact⟨j,rfl,q.1,q.2.1,k _ _ _ H' b m c sH q.2.2⟩
 |_=>exact q.elim
def zX (l:Gl X "range") (y:X.mg "range"=none) (A:PA3 X [a,b] g) (u:starEach [a,b] X.env=[(false,eval a X.env),(false,eval b X.env)]:=by rfl) (d:starEach [b] X.env=[(false,eval b X.env)]:=by rfl):
  PI3 X tg (.Call (.Name "range" p) [a,b] [] pos) (Cz (fun Z H Q=>g Z H fun vs w=>vs.length=2/\Q vs w)):=by
 refine PI.imp (zH l y A u d) ?_;rintro Z H R ⟨B,H3,R3,m,o,h,k⟩;refine⟨B,H3,_,m,o,h,fun vs H' ts e z f r q=>?_⟩;obtain⟨n,q⟩:=q
 match ts,n,r with
 |[t1,t2],_,r =>
 obtain⟨v,_,rfl,t,s⟩:=r.inv;obtain⟨C,_,rfl,c,x⟩:=s.inv;cases t1 with
 |int i =>
  cases t2 with
  |int j=>rw[x.inv0,t.int,c.int];exact⟨i,j,rfl,q.1,k _ _ _ H' e z f sH q.2⟩
  |_=>exact q.elim
 |_=>cases t2 <;> exact q.elim
end
def acs (g:TG3) (tb:TS3) (D:adX) (still:gb->Prop):List T->St3->gb->Prop
 |[],Z,H=>still H/\D.nx Z H
 |t::r,Z,H=>still H/\g t Z H fun b a=>tb { D with nx:=acs g tb D still r,ct:=acs g tb D still r,bk:=D.nx} b a
def acs.st (h:acs g tb D still ts Z H):still H:=by
 cases ts with
 |nil=>exact h.1
 |cons t r=>exact h.1
def MT (b:TI3) (g:TG3) (tb:TS3):TS3:=fun D Z H=>b Z H fun ts still a=>acs g tb D still ts Z a
def bj (hp:PassesOwn (model X.prog X.w) X.A X.env X.xe) (hc:X.calm=true) (T:PI3 X tg iter U) (hg:PG3 X tg g) (hb:ju X k tb) (hs:∀x,foldedSetIterable iter X.env x=pure x:=by intro _;rfl):PS3 X (.For tg iter k [] pos) (MT U g tb):=by
 refine PS.imp (Px hp hc T hg hb hs) ?_;rintro D Z H ⟨f,H3,z,S,sh,h,W,k2,k3,k4⟩;refine⟨f,H3,_,S,sh,h,fun J ts still u I C P wk q=>?_⟩;refine⟨fun i m Z H=>∃f H3,tE X.K u H/\acj X.K H f Z/\g8 X.K H3 H/\m=ts.length - i/\i<=ts.length/\acs g tb z still (ts.drop i) f H3,⟨ts.length,f,I,.refl,S.mono C,P,rfl,ZS _,by simpa using q⟩,?_⟩;rintro i m Z H ⟨Z4,V,n,p,r,rfl,T,it⟩;have w:=wk H V n r it.st;by_cases o:i<ts.length
 ·have e:=e_ o;have ed:ts.drop i=ts[i]::ts.drop (i+1):=List.drop_eq_getElem_cons o;rw[ed] at it;obtain⟨st,it⟩:=it;obtain⟨go,yl⟩:=w.2 i _ e;refine .inr ⟨go,fun t H'=>∃f H3,tE X.K u H'/\acj X.K H' f t/\g8 X.K H3 H'/\acs g tb z still (ts.drop (i+1)) f H3,fun t H' ⟨s5,h5,a,b,c,d⟩=>⟨ts.length - (i+1),by omega,s5,h5,a,b,c,rfl,o,d⟩,fun x H' y=>?_⟩;obtain⟨v,N,rx⟩:=yl x H' y;refine⟨ts[i],Z4,V,_,rx,p.mono v,N,it,fun Z2 E M R O F G q2=>?_⟩;have j:tE X.K u E:=n.trans (v.trans O);have Y:∀(B:tE X.K u E),KS3 X.K E (acs g tb z still (ts.drop (i+1))) (fun t H'=>∃f H3,tE X.K u H'/\acj X.K H' f t/\g8 X.K H3 H'/\acs g tb z still (ts.drop (i+1)) f H3) :=
   fun B t H' Q L l s h q=>⟨Q,L,B.trans l,s,h,q⟩
  exact⟨M,R,_,F,G,q2,Y j,k2.at (C.trans j),W.at (C.trans j),Y j⟩
 have e:i=ts.length:=by omega
 subst e;rw[List.drop_length] at it;exact .inl ⟨w.1 _ (k_ _),W _ _ _ _ (C.trans n) p r it.2⟩
def xZ (c:TT3) (tb:TS3):TS3:=fun D Z H=>∃W:Nat->St3->gb->Prop,(∃m,W m Z H)/\∀m Z H,W m Z H ->
 c Z H fun b e=>if b=true then tb { D with nx:=fun d H'=>∃a,a<m/\W a d H',ct:=fun d H'=>∃a,a<m/\W a d H',bk:=D.nx} Z e else D.nx Z e
def mz (J:PassesOwn (model X.prog X.w) X.A X.env X.xe) (N:PT3 X c u) (G:ju X e tb):PS3 X (.While c e [] pos) (xZ u tb):=by
 refine PS.imp (Bx J N G) ?_;rintro D Z H ⟨j,H3,R,B,C,⟨W,⟨I,E⟩,n⟩,x,F,P,Q⟩;refine⟨fun m g H'=>∃j H3,tE X.K H H'/\acj X.K H' j g/\g8 X.K H3 H'/\W m j H3,⟨I,j,H3,.refl,B,C,E⟩,?_⟩;rintro m T S ⟨o,v,d,f,r,L⟩;refine⟨o,v,_,f,r,n m o v L,fun b z O a k q=>?_⟩;cases b with
 |true =>
  rw[if_pos rfl] at q ⊢;have y:KS3 X.K z (fun g H'=>∃i,i<m/\W i g H') (fun g H'=>∃i,i<m/\∃j H3,tE X.K H H'/\acj X.K H' j g/\g8 X.K H3 H'/\W i j H3) :=
   fun g H' t p l s h ⟨i,M,w⟩=>⟨i,M,t,p,d.trans (a.trans l),s,h,w⟩
  exact⟨_,fun g H' h=>h,o,O,_,f.mono a,k,q,y,F.at (d.trans a),x.at (d.trans a),y⟩
 |false =>
 rw[if_neg B_] at q ⊢;exact x _ _ _ _ (d.trans a) (f.mono a) k q
def Js (X:Cx) (a:List Expr) (t:TT3):Prop:=PIf X a (zV X.K t)
def yc:TT3:=fun _ H Q=>Q true H
def bN:Js X [] yc:=fun a s Z H Q I ⟨d,H3,e,c,b,h,k⟩=>Jj a s Z H Q I (k _ _ _ .refl b h)
def fB (h:PT3 X c t):Js X [c] t:=Jk h
def qg (nt:Nat) (cap:List Nat) (Z:St3):St3:=List.replicate nt none++cap.map fun j=>(Z[j]?).getD none
def yd {K:Frag} (s:acj K H a Z):acj K H (qg nt cap a) (nR nt cap Z):=by
 refine⟨by simp [qg,nR],fun i t e=>?_⟩;unfold qg at e;unfold nR;by_cases c:i<nt
 ·rw[Zx (by simpa using c),abq] at e;split at e <;> cases e
 rw[V_ (by simpa using c),x_] at e;rw[V_ (by simpa using c),x_];simp only[Z0] at e ⊢;cases q:cap[i - nt]? with
 |none=>rw[q] at e;cases e
 |some j =>
 rw[q] at e;have b:(a[j]?).getD none=some t:=D_ e;have d:a[j]?=some (some t):=by
  cases z:a[j]? with
  |none=>rw[z] at b;cases b
  |some y=>rw[z] at b;exact Zk some b
 obtain⟨v,f,r⟩:=s.at' j t d;exact⟨v,by simp [f],r⟩
def Z7 (g:TG3) (tt:TT3) (te:Ho) (still:gb->Prop) (a:List T->gb->Prop):List T->List T->St3->gb->Prop
 |[],ys,Z,H=>still H/\ys.length<=sizeLine/\a ys H
 |t::r,ys,Z,H=>still H/\g t Z H fun c d=>tt c d fun b H3=>if b=true then te c H3 fun y e=>ys.length<sizeLine/\Z7 g tt te still a r (ys++[y]) c e else Z7 g tt te still a r ys c H3
def Z7.st (h:Z7 g tt te still a ts ys Z H):still H:=by
 cases ts with
 |nil=>exact h.1
 |cons t r=>exact h.1
def CG {K:Frag} (U:jw K J ts still p) (P:acj K p q Z) (R:g8 K n p) (h:Z7 g tt te still a ts [] q n) (hf:∀ys us H' H3',tE K p H'->g8 K H3' H'->gV K H' ys us->a ys H3'->u us H'):xU J (Jq K g) (zV K tt) (lft K te) u Z p:=by
 refine⟨fun i m us Z H=>∃q H3 ys,tE K p H/\acj K H q Z/\g8 K H3 H/\gV K H ys us/\m=ts.length - i/\i<=ts.length/\Z7 g tt te still a (ts.drop i) ys q H3,⟨ts.length,q,n,[],.refl,P,R,.nil,rfl,ZS _,by simpa using h⟩,?_⟩;rintro i m us Z H ⟨Q,O,ys,k,F,s,A,rfl,hi,it⟩;have w:=U H O k s it.st;by_cases l:i<ts.length
 ·have e:=e_ l;have W:ts.drop i=ts[i]::ts.drop (i+1):=List.drop_eq_getElem_cons l;rw[W] at it;obtain⟨st,it⟩:=it;obtain⟨X,S⟩:=w.2 i _ e;refine .inr ⟨X,fun x H' y=>?_⟩;obtain⟨z,G,rx⟩:=S x H' y;refine⟨ts[i],Q,O,_,rx,F.mono z,G,it,fun Z2 H2 j M L c D Y=>?_⟩;refine⟨j,M,_,c,D,Y,fun b H3 r f B C=>?_⟩;have d:tE K H H3:=z.trans (L.trans f);cases b with
  |true=>rw[if_pos rfl] at C;refine Yv ?_;refine⟨j,r,_,c.mono f,B,C,fun v H5 t E o I rt N=>⟨by rw[<- A.length];exact N.1,ts.length - (i+1),by omega,j,E,ys++[t],k.trans (d.trans o),c.mono (f.trans o),I,(A.mono (d.trans o)).append (.cons rt .nil),rfl,l,N.2⟩⟩
  |false =>
  rw[if_neg B_] at C;refine Yu ?_;exact⟨ts.length - (i+1),by omega,j,r,ys,k.trans d,c.mono f,B,A.mono d,rfl,l,C⟩
 have e:i=ts.length:=by omega
 subst e;rw[List.drop_length] at it;exact .inl ⟨w.1 _ (k_ _),by rw[<- A.length];exact it.2.1,hf _ _ _ _ k s A it.2.2⟩
def CJ (b:TI3) (g:TG3) (tt:TT3) (te:Ho) (nt:Nat) (cap:List Nat):Ho:=fun Z H Q=>b Z H fun ts still a=>Z7 g tt te still (fun ys H'=>∀p,H' p=none->Q (.ref p) (fY H' p (.lst ys))) ts [] (qg nt cap Z) a
def o4 (b:TI3) (g:TG3) (tt:TT3) (te:Ho) (nt:Nat) (cap:List Nat) (i:Nat):TS3:=fun D Z H=>b Z H fun ts still a=>Z7 g tt te still (fun ys H'=>∀p,H' p=none->D.nx (Z.set i (some (.ref p))) (fY H' p (.lst ys))) ts [] (qg nt cap Z) a
section
variable {pos pos' spos:Pos}
def bO (v:X.calm=true) (S:acL X N' nt cap scope) (m:PI3 X tg iter wi)
  (t:∀cl pins s H C fp,PG3 (bM X N' scope cl pins s H C fp) tg g/\Js (bM X N' scope cl pins s H C fp) ifs tt/\xr (bM X N' scope cl pins s H C fp) elt te)
  (r:∀x,foldedSetIterable iter X.env x=pure x:=by intro _;rfl):xr X (.ListComp elt [⟨tg,iter,ifs,0⟩] scope pos) (CJ wi g tt te nt cap):=by
 refine PE.imp (Jm (g:=Jq X.K g) (tt:=zV X.K tt) (te:=lft X.K te) v S m t r) ?_;rintro Z H Q ⟨w,H3,z,e,i,h,k⟩;refine⟨w,H3,_,e,i,h,fun J ts still y l f b j q=>?_⟩;exact CG j (yd (e.mono f)) b q fun ys us H' o c a u n p d=>k _ _ _ _ (f.trans (c.trans (aK d))) (a.newLst d u) .ofRef (n p (a.fresh d))
def fC (B:X.calm=true) (n:X.N.Nodup) (S:acL X N' nt cap scope) (r:PI3 X tg iter wi) (y:∀cl pins s H C fp,PG3 (bM X N' scope cl pins s H C fp) tg g/\Js (bM X N' scope cl pins s H C fp) ifs tt/\xr (bM X N' scope cl pins s H C fp) elt te) (j:X.N[i]?=some x:=by rfl) (F:Loc X.env.scope x:=by first | exact Or.inl rfl | exact Or.inr rfl) (e:swapsWith (.ListComp elt [⟨tg,iter,ifs,0⟩] scope pos) (some (.Name x pos')) spos.line X.env=pure true:=by rfl) (v:∀x,foldedSetIterable iter X.env x=pure x:=by intro _;rfl) (w:X.fn x=true\/X.env.scope.names.lookup x=some .local:=by first | exact .inl rfl | exact .inr rfl | assumption):
  PS3 X (.Assign [.Name x pos'] (.ListComp elt [⟨tg,iter,ifs,0⟩] scope pos) spos) (o4 wi g tt te nt cap i):=by
 refine PS.imp (Jo (g:=Jq X.K g) (tt:=zV X.K tt) (te:=lft X.K te) B n j F S r y e v w) ?_;rintro D Z H ⟨E,H3,G,d,l,h,z,_⟩;refine⟨E,H3,_,d,l,h,fun J ts still I o k f m q=>?_⟩;exact CG m (yd (d.mono k)) f q fun ys us H' u b a A t p c =>
  z _ _ _ _ (k.trans (b.trans (aK c))) ((d.mono (k.trans (b.trans (aK c)))).set .ofRef) (a.newLst c A) (t p (a.fresh c))
end
abbrev Sp3:=List T->gb->v6->Prop
def sI (K:Frag) (sp:Sp3):Sp:=fun vs H Q _=>∃ts H3 a,gV K H ts vs/\g8 K H3 H/\sp ts H3 a/\KV3 K H a Q
def eH (H H':gb):Prop:=∀a o,H a=some o->H' a=some o
def eH.refl:eH H H:=fun _ _ h=>h
def eH.trans (a:eH H d) (b:eH d e):eH H e:=fun c o h=>b c o (a c o h)
def eH.new (h:H p=none):eH H (fY H p o):=fun a u e=>by rw[aF (bz e h)];exact e
def g8.sub {K:Frag} (s:g8 K b H) (h:eH H3 b):g8 K H3 H:=fun a o e=>s a o (h a o e)
def t6 (Q:v6):v6:=fun v H=>∃H',eH H' H/\Q v H'
def t6.of (h:eH H' H) (q:Q v H'):t6 Q v H:=⟨H',h,q⟩
def aQ (N:List Str) (ts:List T):St3:=ts.map some++List.replicate (N.length - ts.length) none
def o5 {K:Frag} (r:gV K H ts vs):acj K H (aQ N ts) (L2.start N vs):=by
 refine⟨by simp [aQ,L2.start,r.length],fun i t e=>?_⟩;unfold aQ at e;unfold L2.start;have d:=r.length;by_cases a:i<ts.length
 ·rw[Zx (by simpa using a),x_] at e;rw[Zx (by rw[d_];omega),x_];cases q:ts[i]? with
  |none=>rw[q] at e;cases e
  |some u =>
  rw[q] at e;cases e;obtain⟨v,c,b⟩:=r.get q;exact⟨v,by rw[c];rfl,b⟩
 rw[V_ (by simpa using a),abq] at e;split at e <;> cases e
section
variable {p pos:Pos}
def j9 (P:Program) (w:World) (K:Frag) (a:Str->Option Value) (base:Heap) (k:Nat) (f:Addr) (b:FuncData) (ps:List Str) (sp:Sp3):Prop:=acJ P w K a base CX0 k f b ps (sI K sp)
def qi (sp:Sp3) (t:TA3):Ho:=fun Z H Q=>t Z H fun vs a=>sp vs a Q
def Jt (F:j9 X.prog X.w X.K X.mg X.base k f fd ps sp) (z:tR k X.A) (g:Gl X x) (y:X.mg x=some (.ref f)) (s:keepIn X.K (.ref f)=true) (m:Binds X.K fd ps [])
  (n:PA3 X (e::es) t) (a:(x==("__debug__":Str))=false:=by decide) (l:starEach (e::es) X.env=(false,eval e X.env)::starEach es X.env:=by rfl) (c:(backTo pos (starEach es X.env)).any (·.1)=false:=by rfl) :
  xr X (.Call (.Name x p) (e::es) [] pos) (qi sp t):=by
 refine PE.imp (IK (dvs:=[]) (E:=E0) F z g y s m .nil Cg n a l c) ?_;rintro Z H Q ⟨o,H3,u,j,v,h,k⟩;refine⟨o,H3,_,j,v,h,fun vs H' ts b i d r q=>?_⟩;show sI X.K sp (vs++[]) H' Q E0;rw[W_];exact⟨ts,b,u,r,d,q,k.at i⟩
def fn3 {K:Frag}{st:Stmt} (F:Fun K x a st f fd) (S:gk N ps (aB st)) (g:∀ts H Q,sp ts H Q->ts.length=ps.length) (d:∀(b:Value) (A:Around) (outer:List Env) (s:Shared) (H:Hp) (E:XK) (ts:List T) (H3:gb) (Q:v6),tR k (A.deeper (envOfC a (aB st) s.heap.objs.size f b))->sp ts H3 Q ->
   ∃t,ju (lY CX0 P w K j base N a (aB st) f b A outer s H E).nox (cj st) t/\t { nx:=fun _ H'=>t6 Q .non H',rt:=t6 Q} (aQ N ts) H3):j9 P w K j base (k+1) f fd ps sp:=by
 refine F.ok S (fun vs H Q E ⟨ts,H3,m,r,l,q,k⟩=>by rw[<- r.length];exact g _ _ _ q) fun b A outer s H vs Q E o ⟨ts,H3,m,r,l,q,k⟩=>?_;obtain⟨t,p,u⟩:=d b A outer s H E ts H3 m o q;exact⟨_,p,aQ N ts,H3,_,o5 r,l,u,fun D H' B e h C c ⟨y,i,q⟩=>k _ _ _ _ h (c.sub i) .ofNon q,fun v H' t e h c n ⟨y,i,q⟩=>k _ _ _ _ h (c.sub i) n q,fun _ _ _ _ _ _ _ z=>z,fun _ _ _ _ _ _ _ z=>z⟩
end
noncomputable instance:DecidableEq T:=fun a b=>Classical.propDecidable (a=b)
def pl:Nat->T->Bool
 |_,.non=>true
 |_,.int _=>true
 |_,.str _=>true
 |d+1,.tup ts=>ts.all (pl d)
 |_,_=>false
section
variable {X:Cx}{pins:List (Addr × Obj)}{Z:L2.St}{H:Hp}{s:Shared}
def ye (I:Inv X pins Z H s):∀(d:Nat) (x y:T) (v:V),pl d x=true->pl d y=true->Rep X.K H x v->Rep X.K H y v->x=y:=by
 intro d;induction d with
 |zero =>
  intro x y v i g f c;cases x <;> cases y <;> first
   |rfl
   | (simp only[Rep] at f c;subst f;cases c <;> rfl)
   | (simp [pl] at i;done)
   | (simp [pl] at g;done)
 |succ d w =>
 intro x y v i g f c;cases x with
 |tup ts =>
  cases y with
  |tup us =>
   obtain⟨a,xs,rfl,o,r⟩:=f.tup;obtain⟨b,ys,e,j,n⟩:=c.tup;cases e;have:=I.tuple_inj o j;subst this;simp only[pl,aay] at i g;congr 1;have key:∀(ts us:List T) (xs:List V),(∀t∈ts,pl d t=true)->(∀t∈us,pl d t=true)->gV X.K H ts xs->gV X.K H us xs->ts=us:=by
    intro ts;induction ts with
    |nil =>
     intro us xs _ _ h h';rw[h.inv0] at h';cases us with
     |nil=>rfl
     |cons u us=>obtain⟨_,_,e,_⟩:=h'.inv;cases e
    |cons t ts l =>
    intro us xs p1 m h h';obtain⟨v,r,rfl,a,b⟩:=h.inv;cases us with
    |nil=>exact absurd h'.inv0 (by simp)
    |cons u us =>
    obtain⟨z,n,e,q,p⟩:=h'.inv;cases e;rw[w t u v (p1 t l_) (m u l_) a q,l us r (fun t k=>p1 t (o_ _ k)) (fun t k=>m t (o_ _ k)) b p]
   exact key ts us xs i g r n
  |_=>first | (simp only[Rep] at f c;obtain⟨a,xs,e,_⟩:=f;subst e;cases c;done) | (simp [pl] at g;done)
 |_=>cases y <;> first
  |rfl
  | (simp only[Rep] at f c;subst f;cases c <;> rfl)
  | (simp [pl] at i;done)
  | (simp [pl] at g;done)
  | (simp only[Rep] at f c;obtain⟨a,xs,e,_⟩:=c;subst e;cases f;done)
def units_in1 (A:Around):A.in1.units=A.units+1:=by rfl
def mC {a:Type} [DecidableEq (Option a)] (ts us:List a):((List.range (min ts.length us.length)).all (fun j=>decide (ts[j]?=us[j]?))&&ts.length==us.length)=true↔ts=us:=by
 rw[Zq,aay,aaf];constructor
 ·rintro⟨h,b⟩;refine abh fun i=>?_;by_cases c:i<ts.length
  ·exact aat (h i (X_.mpr (by omega)))
  rw[O_ (by omega),O_ (by omega)]
 rintro rfl;exact⟨fun i _=>by simp,rfl⟩
def Ju {us:List Value} (h:i<us.toArray.size) (e:us[i]?=some v):us.toArray[i]=v:=by
 have:us.toArray[i]?=some v:=by simpa using e
 rw[aab h] at this;exact D_ this
def yf (I:Inv X pins Z H s):∀(d:Nat) (A:Around) (x y:T) (m l:V) (u v:Value),pl d x=true->pl d y=true->Rep X.K H x m->Rep X.K H y l->RelV m u->RelV l v->A.units+d<cLine->SeqAt.EqAt A s u v (decide (x=y)):=by
 have lW:∀(A:Around) (x y:T) (m l:V) (u v:Value),pl 0 x=true->pl 0 y=true->Rep X.K H x m->Rep X.K H y l->RelV m u->RelV l v->SeqAt.EqAt A s u v (decide (x=y)):=by
  intro A x y m l u v z q k f g c;cases x with
  |non =>
   cases k.non;cases g;cases y with
   |non=>cases f.non;cases c;simp only[aaF];exact SeqAt.EqAt.same _
   |int j=>cases f.int;obtain⟨t',rfl⟩:=c;rw[E_ (by simp)];exact SeqAt.EqAt.none_int _ _
   |str j=>cases f.str;obtain⟨t',rfl⟩:=c;rw[E_ (by simp)];exact SeqAt.EqAt.none_str _ _
   |_=>simp [pl] at q
  |int i =>
   cases k.int;obtain⟨t,rfl⟩:=g;cases y with
   |non=>cases f.non;cases c;rw[E_ (by simp)];exact SeqAt.EqAt.int_none _ _
   |int j=>cases f.int;obtain⟨t',rfl⟩:=c;rw[show decide (T.int i=T.int j)=(i==j) by by_cases h:i=j <;> simp [h]];exact abW _ _ _ _
   |str j=>cases f.str;obtain⟨t',rfl⟩:=c;rw[E_ (by simp)];exact SeqAt.EqAt.int_str _ _ _ _
   |_=>simp [pl] at q
  |str i =>
   cases k.str;obtain⟨t,rfl⟩:=g;cases y with
   |non=>cases f.non;cases c;rw[E_ (by simp)];exact SeqAt.EqAt.str_none _ _
   |int j=>cases f.int;obtain⟨t',rfl⟩:=c;rw[E_ (by simp)];exact SeqAt.EqAt.str_int _ _ _ _
   |str j=>cases f.str;obtain⟨t',rfl⟩:=c;rw[show decide (T.str i=T.str j)=(i==j) by by_cases h:i=j <;> simp [h]];exact SeqAt.EqAt.str_str _ _ _ _
   |_=>simp [pl] at q
  |_=>simp [pl] at z
 intro d;induction d with
 |zero=>intro A x y m l u v z q k f g c _;exact lW A x y m l u v z q k f g c
 |succ d ih =>
 intro A x y m l u v z q k f g c hu;have p:A.units<cLine:=by omega
 cases x with
 |tup ts =>
  obtain⟨a,xs,rfl,L,r⟩:=k.tup;cases g;obtain⟨B,D,F,_⟩:=I.tuple L;cases y with
  |tup us =>
   obtain⟨b,ys,rfl,n,C⟩:=f.tup;cases c;obtain⟨its',w,o,_⟩:=I.tuple n;by_cases E:a=b
   ·subst E;have e:T.tup ts=T.tup us:=ye I (d+1) _ _ (.ref a) z q (.ofTup L r) (.ofTup n C);rw[e,N_ rfl];exact SeqAt.EqAt.same _
   have M:=r.length;have Q:=C.length;have l3:=D.length;have l4:=w.length;have key:=SeqAt.RcAt.tuples (A:=A) (s:=s) (e:=fun j=>decide (ts[j]?=us[j]?)) (show s.heap.IsTuple a B.toArray from F) (show s.heap.IsTuple b its'.toArray from o) p (fun j h1 h2=>by
    rw[v_] at h1 h2
    have G:j<ts.length:=by omega
    have J:j<us.length:=by omega
    obtain⟨p1,e1,N⟩:=r.get (e_ G)
    obtain⟨p2,S,Y⟩:=C.get (e_ J)
    obtain⟨z1,R,P⟩:=D.get e1
    obtain⟨W,O,U⟩:=w.get S
    rw[Ju _ R,Ju _ O,e_ G,e_ J]
    simp only[pl,aay] at z q
    have:=ih A.in1 ts[j] us[j] p1 p2 z1 W (z _ (Z_ G)) (q _ (Z_ J)) N Y P U (by rw[units_in1];omega)
    rw[show decide (some ts[j]=some us[j])=decide (ts[j]=us[j]) by by_cases h:ts[j]=us[j] <;> simp [h]]
    exact this)
   have eb:((List.range (min B.toArray.size its'.toArray.size)).all (fun j=>decide (ts[j]?=us[j]?))&&B.toArray.size==its'.toArray.size)=decide (T.tup ts=T.tup us):=by
    rw[v_,v_,<- l3,<- M,<- l4,<- Q,Zn,mC,q_];constructor
    ·rintro rfl;rfl
    intro h;injection h
   rw[eb] at key;exact .of_refs E key
  |non=>cases f.non;cases c;rw[E_ (by simp)];exact SeqAt.EqAt.tuple_none F p
  |int j=>cases f.int;obtain⟨t',rfl⟩:=c;rw[E_ (by simp)];exact SeqAt.EqAt.tuple_int _ _ F p
  |str j=>cases f.str;obtain⟨t',rfl⟩:=c;rw[E_ (by simp)];exact SeqAt.EqAt.tuple_str _ _ F p
  |_=>simp [pl] at q
 |non =>
  cases y with
  |tup us=>obtain⟨b,ys,rfl,n,C⟩:=f.tup;cases c;obtain⟨its',w,o,_⟩:=I.tuple n;cases k.non;cases g;rw[E_ (by simp)];exact SeqAt.EqAt.none_tuple o p
  |non=>exact lW A _ _ m l u v rfl rfl k f g c
  |int j=>exact lW A _ _ m l u v rfl rfl k f g c
  |str j=>exact lW A _ _ m l u v rfl rfl k f g c
  |_=>simp [pl] at q
 |int i =>
  cases y with
  |tup us=>obtain⟨b,ys,rfl,n,C⟩:=f.tup;cases c;obtain⟨its',w,o,_⟩:=I.tuple n;cases k.int;obtain⟨t,rfl⟩:=g;rw[E_ (by simp)];exact SeqAt.EqAt.int_tuple _ _ o p
  |non=>exact lW A _ _ m l u v rfl rfl k f g c
  |int j=>exact lW A _ _ m l u v rfl rfl k f g c
  |str j=>exact lW A _ _ m l u v rfl rfl k f g c
  |_=>simp [pl] at q
 |str i =>
  cases y with
  |tup us=>obtain⟨b,ys,rfl,n,C⟩:=f.tup;cases c;obtain⟨its',w,o,_⟩:=I.tuple n;cases k.str;obtain⟨t,rfl⟩:=g;rw[E_ (by simp)];exact SeqAt.EqAt.str_tuple _ _ o p
  |non=>exact lW A _ _ m l u v rfl rfl k f g c
  |int j=>exact lW A _ _ m l u v rfl rfl k f g c
  |str j=>exact lW A _ _ m l u v rfl rfl k f g c
  |_=>simp [pl] at q
 |_=>simp [pl] at z
end
def rI3 (C:Int->Int->Prop) (g:Int->Int->T):R3:=fun x y H Q=>match x,y with
 |.int i,.int j=>C i j/\Q (g i j) H
 |_,_=>False
def qj (g:Int->Int->T):R3:=fun x y H Q=>match x,y with
 |.int i,.int j=>Q (g i j) H
 |_,_=>False
section
variable {X:Cx}
def Jv (h:OpR X f (rI C g')) (a:∀i j H,Rep X.K H (g i j) (g' i j)):dG X f (rI3 C g):=by
 refine OpR.imp h ?_;rintro x y H Q ⟨l,d,H3,m,c,b,e,h,k⟩;cases l with
 |int i =>
  cases d with
  |int j=>exact⟨i,j,c.int,b.int,h.1,k _ _ _ _ .refl e (a i j H) h.2⟩
  |_=>exact h.elim
 |_=>exact h.elim
def mD (h:OpR X f (rI0 g')) (a:∀i j H,Rep X.K H (g i j) (g' i j)):dG X f (qj g):=by
 refine OpR.imp h ?_;rintro x y H Q ⟨l,d,H3,m,c,b,e,h,k⟩;cases l with
 |int i =>
  cases d with
  |int j=>exact⟨i,j,c.int,b.int,k _ _ _ _ .refl e (a i j H) h⟩
  |_=>exact h.elim
 |_=>exact h.elim
def yg (_ j:Int):Prop:=0<j/\j.natAbs.log2<9000
def CK:OpR X (binaryOp .FloorDiv) (rI yg fun i j=>.int (i / j)):=opI fun i j _ _ _ _ _ a q=>by
 have e:i / j=i.fdiv j:=(Int.fdiv_eq_ediv_of_nonneg i (Int.le_of_lt a.1)).symm;rw[e] at q;exact floordiv_int (Int.ne_of_gt a.1) q (.inl (PyProof.noPylong_of_log2 a.2))
def vN:dG X (binaryOp .Sub) (qj fun i j=>.int (i - j)):=mD Pz fun _ _ _=>.ofInt
def aX:dG X (binaryOp .FloorDiv) (rI3 yg fun i j=>.int (i / j)):=Jv CK fun _ _ _=>.ofInt
def aV:dG X (binaryOp .Mod) (rI3 (fun _ j=>0<j) fun i j=>.int (i%j)):=Jv PJ fun _ _ _=>.ofInt
def jg:dG X (binaryOp .Pow) (rI3 Ut fun i j=>.int (i^j.toNat)):=Jv PK fun _ _ _=>.ofInt
def Vh:dG X (compareOp .Lt) (qj fun i j=>.bl (decide (i<j))):=mD Uv fun _ _ _=>.ofBl
def M3:dG X (compareOp .LtE) (qj fun i j=>.bl (decide (i<=j))):=mD Uw fun _ _ _=>.ofBl
def sJ:dG X (compareOp .Gt) (qj fun i j=>.bl (decide (j<i))):=mD Ux fun _ _ _=>.ofBl
def Vi:dG X (compareOp .GtE) (qj fun i j=>.bl (decide (j<=i))):=mD Uy fun _ _ _=>.ofBl
def cW:dG X (binaryOp .Mult) (rI3 aed fun i j=>.int (i*j)):=Jv PB fun _ _ _=>.ofInt
def sO:R3:=fun x y H Q=>match x,y with
 |.int i,.int j=>Q (.int (i+j)) H
 |.str i,.str j=>i.length+j.length<=sizeLine/\Q (.str (i++j)) H
 |.ref a,.ref b=>match H a,H b with
  |some (.lst xs),some (.lst ys)=>xs.length+ys.length<=sizeLine/\∀p,H p=none->Q (.ref p) (fY H p (.lst (xs++ys)))
  |_,_=>False
 |.tup xs,.tup ys=>xs.length+ys.length<=sizeLine/\Q (.tup (xs++ys)) H
 |_,_=>False
def CN:OpR X (binaryOp .Add) (fun x y H Q=>∃a b ys,x=.ref a/\y=.ref b/\SqT X.K H a []/\SqT X.K H b ys/\Q (.ref b) H):=by
 intro l s Z H x y v u Q I G E h;obtain⟨a,b,ys,rfl,rfl,J,D,q⟩:=h;cases G;cases E;obtain⟨z,w,p1,_⟩:=I.tuple J;obtain⟨f,M,B,_⟩:=I.tuple D;cases w;obtain⟨⟨t,C,m,L⟩,k,p,n,o⟩:=id p1;obtain⟨⟨r,i,g,j⟩,c,d,A,e⟩:=id B;simp only at p o d e;subst p o d e;exact concat_meets ⟨_,k,rfl⟩ ⟨_,c,rfl⟩ noFill_tuple_add seq_tuple_add PySem.F.slot_tuple_add PySem.F.entry_tuple_add (abP _ _)
   (tuple_addW0 a b _ f.toArray n A C i L j (by simp)) ⟨k,c,⟨.ref b,H,I,rfl,q⟩⟩
def aW:dG X (binaryOp .Add) sO:=by
 refine OpR.imp (af3.or (adT.or (af8.or (afe.or CN)))) ?_;rintro x y H Q ⟨C,n,H3,z,m,l,c,h,k⟩;cases C with
 |int i =>
  cases n with
  |int j=>exact .inl ⟨i,j,m.int,l.int,k _ _ _ _ .refl c .ofInt h⟩
  |_=>exact h.elim
 |str i =>
  cases n with
  |str j=>exact .inr (.inl ⟨i,j,m.str,l.str,h.1,k _ _ _ _ .refl c .ofStr h.2⟩)
  |_=>exact h.elim
 |ref a =>
  cases n with
  |ref b =>
   have h':(match H3 a,H3 b with
    |some (.lst xs),some (.lst ys)=>xs.length+ys.length<=sizeLine/\∀p,H3 p=none->z (.ref p) (fY H3 p (.lst (xs++ys)))
    |_,_=>False):=h
   split at h'
   ·
    rename_i xs ys A u
    obtain⟨vs,w,d⟩:=c a _ A
    obtain⟨ws,v,f⟩:=c b _ u
    refine .inr (.inr (.inl ⟨a,b,vs,ws,m.ref,l.ref,w,v,by rw[<- d.length,<- f.length];exact h'.1,fun p g=>?_⟩))
    exact k _ _ _ _ (aK g) (c.newLst g (d.append f)) .ofRef (h'.2 p (c.fresh g))
   ·
    exact h'.elim
  |_=>exact h.elim
 |tup xs =>
  cases n with
  |tup ys =>
   obtain⟨a,vs,rfl,r,d⟩:=m.tup;obtain⟨b,ws,rfl,o,f⟩:=l.tup;by_cases s:vs=[]
   ·subst s;have B:xs=[]:=aau d.length;subst B;exact .inr (.inr (.inr (.inr ⟨a,b,ws,rfl,rfl,r,o,k _ _ _ _ .refl c (.ofTup o f) h.2⟩)))
   refine .inr (.inr (.inr (.inl ⟨a,b,vs,ws,rfl,rfl,r,o,s,by rw[<- d.length,<- f.length];exact h.1,fun t=>?_,fun t p g=>?_⟩)))
   ·have e:ys=[]:=by have:=f.length;rw[t] at this;exact aau this
    have q:=h.2;rw[e,W_] at q;exact k _ _ _ _ .refl c (.ofTup r d) q
   exact k _ _ _ _ (aK g) (c.new g) (g8.newTup (H3:=H3) g (d.append f)) h.2
  |_=>exact h.elim
 |_=>exact h.elim
variable {pins:List (Addr × Obj)}{Z:L2.St}{H:Hp}{s:Shared}
def sS (c:Bool):R3:=fun x y H Q=>match x,y with
 |.int i,.int j=>Q (.bl (if c then !decide (i=j) else decide (i=j))) H
 |.str i,.str j=>Q (.bl (if c then !decide (i=j) else decide (i=j))) H
 |.bl i,.bl j=>Q (.bl (if c then !decide (i=j) else decide (i=j))) H
 |.non,.non=>Q (.bl (if c then false else true)) H
 |.tup xs,.tup ys=>xs.all (pl 20)=true/\ys.all (pl 20)=true/\Q (.bl (if c then !decide (xs=ys) else decide (xs=ys))) H
 |.ref a,.ref b=>match H a,H b with
  |some (.lst xs),some (.lst ys)=>a≠b/\xs.all (pl 20)=true/\ys.all (pl 20)=true/\Q (.bl (if c then !decide (xs=ys) else decide (xs=ys))) H
  |_,_=>False
 |_,_=>False
def sU (I:Inv X pins Z H s) {A:Around} (E:A.units+30<cLine) (f:ts.all (pl 20)=true) (i:us.all (pl 20)=true) (r:gV X.K H ts xs) (l:gV X.K H us ys) (c:Vals xs a) (b:Vals ys its'):
  ∀j (g:j<a.toArray.size) (k:j<its'.toArray.size),SeqAt.EqAt A.in1 s a.toArray[j] its'.toArray[j] (decide (ts[j]?=us[j]?)):=fun j g k=>by
 have z:=r.length;have B:=l.length;have C:=c.length;have D:=b.length;rw[v_] at g k;have d:j<ts.length:=by omega
 have e:j<us.length:=by omega
 obtain⟨p1,w,m⟩:=r.get (e_ d);obtain⟨x,q,v⟩:=l.get (e_ e);obtain⟨y,p,o⟩:=c.get w;obtain⟨u,n,t⟩:=b.get q;rw[Ju _ p,Ju _ n,e_ d,e_ e];rw[aay] at f i;have:=yf I 20 A.in1 ts[j] us[j] p1 x y u (f _ (Z_ d)) (i _ (Z_ e)) m v o t (by rw[units_in1];omega);rw[show decide (some ts[j]=some us[j])=decide (ts[j]=us[j]) by by_cases h:ts[j]=us[j] <;> simp [h]];exact this
def sV {ts us:List T}:((List.range (min ts.length us.length)).all (fun j=>decide (ts[j]?=us[j]?))&&ts.length==us.length)=decide (ts=us):=by
 rw[Zn,mC,q_]
def zY {c:Type} [BEq c] [LawfulBEq c] [DecidableEq c] (a b:c):(a==b)=decide (a=b):=by rw[Zn];simp
def M4 (f:Bool) (L:X.A.units+30<cLine):dG X (compareOp (bif f then .NotEq else .Eq)) (sS f):=by
 intro D s Z H x y v u Q I n o h;obtain⟨U,C,H3,K,B,w,J,h,k⟩:=h;have d:∀{b c:Bool},K (.bl b) H3->c=b->EP X D Z Q (.bool c) s:=fun q e=>e▸⟨.bl _,H,I,rfl,k _ _ _ _ .refl J .ofBl q⟩;cases U with
 |int i =>
  cases C with
  |int j =>
   rw[B.int] at n;rw[w.int] at o;obtain⟨t,rfl⟩:=n;obtain⟨t',rfl⟩:=o;cases f
   ·exact eq_int (d h (zY ..))
   exact ne_int (d h (Zk not (zY ..)))
  |_=>exact h.elim
 |str i =>
  cases C with
  |str j =>
   rw[B.str] at n;rw[w.str] at o;obtain⟨t,rfl⟩:=n;obtain⟨t',rfl⟩:=o;cases f
   ·exact eq_str (d h (zY ..))
   exact ne_str (d h (Zk not (zY ..)))
  |_=>exact h.elim
 |bl i =>
  cases C with
  |bl j =>
   rw[B.bl] at n;rw[w.bl] at o;cases n;cases o;cases f
   ·exact eq_bool (d h (zY ..))
   exact ne_bool (d h (Zk not (zY ..)))
  |_=>exact h.elim
 |non =>
  cases C with
  |non =>
   rw[B.non] at n;rw[w.non] at o;cases n;cases o;cases f
   ·exact PySem.EqNone.eq_none_none (d h rfl)
   exact PySem.EqNone.ne_none_none (d h rfl)
  |_=>exact h.elim
 |tup ts =>
  cases C with
  |tup us =>
   obtain⟨a,xs,rfl,T,r⟩:=B.tup;obtain⟨b,ys,rfl,G,F⟩:=w.tup;cases n;cases o;obtain⟨E,m,p,_⟩:=I.tuple T;obtain⟨its',l,g,_⟩:=I.tuple G;have e:=sV (ts:=ts) (us:=us);rw[r.length,F.length,m.length,l.length] at e;have key:=sU I L h.1 h.2.1 r F m l;cases f
   ·exact SeqAt.eq_tupleAt (e:=fun j=>decide (ts[j]?=us[j]?)) p g (by omega) key (d h.2.2 e)
   exact SeqAt.RcNeAt.tuples (e:=fun j=>decide (ts[j]?=us[j]?)) p g (by omega) key _ _ _ _ (d h.2.2 (Zk not e))
  |_=>exact h.elim
 |ref a =>
  cases C with
  |ref b =>
   have h':(match H3 a,H3 b with
    |some (.lst xs),some (.lst ys)=>a≠b/\xs.all (pl 20)=true/\ys.all (pl 20)=true/\K (.bl (if f then !decide (xs=ys) else decide (xs=ys))) H3
    |_,_=>False):=h
   split at h'
   ·
    rename_i ts us S P
    obtain⟨xs,M,r⟩:=J a _ S
    obtain⟨ys,R,F⟩:=J b _ P
    cases B.ref;cases w.ref;cases n;cases o
    obtain⟨E,m,p,_⟩:=I.list (X:=X) (.of M)
    obtain⟨its',l,g,_⟩:=I.list (X:=X) (.of R)
    have O:E.length=ts.length:=by rw[<- m.length,<- r.length]
    have N:its'.length=us.length:=by rw[<- l.length,<- F.length]
    have key:=sU I L h'.2.1 h'.2.2.1 r F m l
    by_cases hsz:ts.length=us.length
    ·
     have e:=sV (ts:=ts) (us:=us)
     rw[<- hsz,Nat.min_self,beq_self_eq_true,Bool.and_true,<- O] at e
     cases f
     ·
      exact SeqAt.eq_listAt (e:=fun j=>decide (ts[j]?=us[j]?)) p.isList g.isList (by simp;omega) (by omega) key (d h'.2.2.2 e)
     ·
      exact SeqAt.RcNeAt.lists (e:=fun j=>decide (ts[j]?=us[j]?)) p.isList g.isList (by simp;omega) (by omega) key _ _ _ _ (d h'.2.2.2 (Zk not e))
    ·
     have e:decide (ts=us)=false:=E_ fun z=>hsz (by rw[z])
     cases f
     ·
      exact SeqAt.eq_list_lengthsAt p.isList g.isList (by simp;omega) (by omega) (d h'.2.2.2 e.symm)
     ·
      exact SeqAt.RcNeAt.lists_lengths p.isList g.isList (by simp;omega) (by omega) _ _ _ _ (d h'.2.2.2 (by show true=!decide (ts=us);rw[e];rfl))
   ·
    exact h'.elim
  |_=>exact h.elim
 |_=>exact h.elim
def dC (a:X.A.units+30<cLine):dG X (compareOp .Eq) (sS false):=M4 false a
def gM (a:X.A.units+30<cLine):dG X (compareOp .NotEq) (sS true):=M4 true a
def dH (a:Bool) (x:T) (ts:List T):Bool:=if a then !decide (x∈ts) else decide (x∈ts)
def occ (a:Bool) (i j:Str):Bool:=if a then !(!(Builtin.Str.occurrences j i 0 j.length 1).isEmpty) else !(Builtin.Str.occurrences j i 0 j.length 1).isEmpty
def sW (b:Bool):R3:=fun x y H Q=>match y with
 |.tup ts=>pl 20 x=true/\ts.all (pl 20)=true/\Q (.bl (dH b x ts)) H
 |.ref a=>match H a with
  |some (.lst ts)=>pl 20 x=true/\ts.all (pl 20)=true/\Q (.bl (dH b x ts)) H
  |some (.rol ts)=>pl 20 x=true/\ts.all (pl 20)=true/\Q (.bl (dH b x ts)) H
  |_=>False
 |.str j=>match x with
  |.str i=>Q (.bl (occ b i j)) H
  |_=>False
 |_=>False
def CP (I:Inv X pins Z H s) (p:pl 20 x=true) (g:ts.all (pl 20)=true) (r:gV X.K H ts xs) (m:Vals xs a) (A:Around) (P:A.units+30<cLine) (J:Rep X.K H x o) (E:RelV o u):
  ∃e:Value->Bool,(∀y,y∈a->SeqAt.EqAt A s y u (e y))/\a.any e=decide (x∈ts):=by
 rw[aay] at g;have h:∀y,y∈a->∃t v,t∈ts/\Rep X.K H t v/\RelV v y:=fun y j=>by
  obtain⟨i,n,e⟩:=List.mem_iff_getElem.mp j;have N:=m.length;have C:a[i]?=some y:=by rw[e_ n,e]
  have k:xs[i]?=some xs[i]:=e_ (by omega);obtain⟨z,w,B⟩:=m.get k;rw[C] at w;cases w;obtain⟨t,L,c⟩:=r.get' k;exact⟨t,_,Zh L,c,B⟩
 have d:∀t v y,t∈ts->Rep X.K H t v->RelV v y->(@decide (∃v,RelV v y/\Rep X.K H x v) (Classical.propDecidable _)=true↔t=x):=fun t v y f c b=>by
  rw[@q_ _ (Classical.propDecidable _)];constructor
  ·rintro⟨O,D,F⟩;cases D.inj b;exact ye I 20 t x _ (g t f) p c F
  rintro rfl;exact⟨v,b,c⟩
 refine⟨fun y=>@decide (∃v,RelV v y/\Rep X.K H x v) (Classical.propDecidable _),fun y j=>?_,?_⟩
 ·obtain⟨t,v,f,c,b⟩:=h y j;have q:=yf I 20 A t x v o y u (g t f) p c J b E (by omega);have e:@decide (∃v,RelV v y/\Rep X.K H x v) (Classical.propDecidable _)=decide (t=x):=by rw[Zn,d t v y f c b,q_]
  show SeqAt.EqAt A s y u (@decide (∃v,RelV v y/\Rep X.K H x v) (Classical.propDecidable _));rw[e];exact q
 rw[Zn,aao,q_];constructor
 ·rintro⟨y,j,e⟩;obtain⟨t,v,f,c,b⟩:=h y j;rw[<- (d t v y f c b).mp e];exact f
 intro k;obtain⟨i,n,e⟩:=List.mem_iff_getElem.mp k;obtain⟨v,M,l⟩:=r.get (show ts[i]?=some x by rw[e_ n,e]);obtain⟨y,G,b⟩:=m.get M;exact⟨y,Zh G,(d x v y k l b).mpr rfl⟩
def M5 (d:Bool) (P:X.A.units+31<cLine):dG X (compareOp (bif d then .NotIn else .In)) (sW d):=by
 intro f s Z H x y v u Q I G z h;obtain⟨t,O,H3,M,L,J,B,h,k⟩:=h;have F:X.A.in1.units+30<cLine:=by rw[units_in1];omega
 have l:∀{b c:Bool},M (.bl b) H3->c=b->EP X f Z Q (.bool c) s:=fun q e=>e▸⟨.bl _,H,I,rfl,k _ _ _ _ .refl B .ofBl q⟩;have D:∀{a:Addr} {ts:List T} {xs:List V},SqL X.K H a xs->gV X.K H ts xs->u=.ref a->pl 20 t=true->ts.all (pl 20)=true->M (.bl (dH d t ts)) H3->wpAny (model X.prog X.w) X.A (compareOp (bif d then .NotIn else .In) v u) (EP X f Z Q) X.xe s:=by
  intro a ts xs p r e p1 N q;subst e;obtain⟨g,o,C,_⟩:=I.list p;obtain⟨e,E,m⟩:=CP I p1 N r o X.A.in1 F L G;rw[<- show g.toArray.any e=g.any e by simp] at m;cases d
  ·exact SeqAt.in_listAt e C.isList (fun y n=>E y (by simpa using n)) (l q m)
  exact SeqAt.notIn_listAt e C.isList (fun y n=>E y (by simpa using n)) (l q (Zk not m))
 cases O with
 |tup ts =>
  obtain⟨a,xs,rfl,p,r⟩:=J.tup;cases z;obtain⟨g,o,C,_⟩:=I.tuple p;obtain⟨e,E,m⟩:=CP I h.1 h.2.1 r o X.A.in1 F L G;rw[<- show g.toArray.any e=g.any e by simp] at m;cases d
  ·exact SeqAt.in_tupleAt e C (fun y n=>E y (by simpa using n)) (l h.2.2 m)
  exact SeqAt.notIn_tupleAt e C (fun y n=>E y (by simpa using n)) (l h.2.2 (Zk not m))
 |ref a =>
  have h':(match H3 a with
   |some (.lst ts)=>pl 20 t=true/\ts.all (pl 20)=true/\M (.bl (dH d t ts)) H3
   |some (.rol ts)=>pl 20 t=true/\ts.all (pl 20)=true/\M (.bl (dH d t ts)) H3
   |_=>False):=h
  rw[J.ref] at z
  split at h'
  ·
   rename_i ts e
   obtain⟨xs,p,r⟩:=B.sqL (.inl e)
   exact D p r z h'.1 h'.2.1 h'.2.2
  ·
   rename_i ts e
   obtain⟨xs,p,r⟩:=B.sqL (.inr e)
   exact D p r z h'.1 h'.2.1 h'.2.2
  ·
   exact h'.elim
 |str j =>
  cases t with
  |str i =>
   cases d
   ·exact zK f s Z H x y v u Q I G z ⟨i,j,L.str,J.str,k _ _ _ _ .refl B .ofBl h⟩
   exact pX f s Z H x y v u Q I G z ⟨i,j,L.str,J.str,k _ _ _ _ .refl B .ofBl h⟩
  |_=>exact h.elim
 |_=>exact h.elim
def mF (a:X.A.units+31<cLine):dG X (compareOp .In) (sW false):=M5 false a
def sX (a:X.A.units+31<cLine):dG X (compareOp .NotIn) (sW true):=M5 true a
def oq {a:Type}(o:Option a) (Q:a->Prop):Prop:=match o with
 |some v=>Q v
 |none=>False
def sY:R3:=fun x y H Q=>match x,y with
 |.ref a,.int i=>match H a with
  |some (.lst ts)=>oq (atI ts i) fun t=>Q t H
  |some (.rol ts)=>oq (atI ts i) fun t=>Q t H
  |_=>False
 |.tup ts,.int i=>oq (atI ts i) fun t=>Q t H
 |.str z,.int i=>z.length<=sizeLine/\oq (atI z.cps.toList i) fun c=>Q (.str ⟨#[c]⟩) H
 |_,_=>False
def yh {K:Frag} (r:gV K H ts xs) (h:atI ts i=some t):∃v,atI xs i=some v/\Rep K H t v:=by
 unfold atI at h ⊢;rw[<- r.length];cases e:ixN ts.length i with
 |none=>rw[e] at h;cases h
 |some j =>
 rw[e] at h;exact r.get h
def My:Ve X sY:=by
 refine IxR.imp Qf ?_;rintro x y H Q ⟨u,m,H3,f,l,j,g,h,k⟩;have d:∀{a:Addr} {ts:List T} {xs:List V} {i:Int},SqL X.K H a xs->gV X.K H ts xs->x=.ref a->y=.int i->oq (atI ts i) (fun t=>f t H3)->rIx X.K x y H Q:=by
  intro a ts xs i b r o s q;cases e:atI ts i with
  |none=>rw[e] at q;exact q.elim
  |some t =>
  rw[e] at q;obtain⟨v,n,p⟩:=yh r e;exact .inl ⟨a,xs,i,v,o,s,b,n,k _ _ _ _ .refl g p q⟩
 cases u with
 |ref a =>
  cases m with
  |int i =>
   have h':(match H3 a with
    |some (.lst ts)=>oq (atI ts i) fun t=>f t H3
    |some (.rol ts)=>oq (atI ts i) fun t=>f t H3
    |_=>False):=h
   split at h'
   ·
    rename_i ts e
    obtain⟨xs,b,r⟩:=g.sqL (.inl e)
    exact d b r l.ref j.int h'
   ·
    rename_i ts e
    obtain⟨xs,b,r⟩:=g.sqL (.inr e)
    exact d b r l.ref j.int h'
   ·
    exact h'.elim
  |_=>exact h.elim
 |tup ts =>
  cases m with
  |int i =>
   have h':oq (atI ts i) fun t=>f t H3:=h
   cases e:atI ts i with
   |none=>rw[e] at h';exact h'.elim
   |some t =>
    rw[e] at h'
    obtain⟨a,xs,o,b,r⟩:=l.tup
    obtain⟨v,n,p⟩:=yh r e
    exact .inr (.inl ⟨a,xs,i,v,o,j.int,b,n,k _ _ _ _ .refl g p h'⟩)
  |_=>exact h.elim
 |str z =>
  cases m with
  |int i =>
   have h':z.length<=sizeLine/\oq (atI z.cps.toList i) fun c=>f (.str ⟨#[c]⟩) H3:=h
   cases e:atI z.cps.toList i with
   |none=>rw[e] at h';exact h'.2.elim
   |some c =>
    rw[e] at h'
    exact .inr (.inr ⟨z,i,c,l.str,j.int,h'.1,e,k _ _ _ _ .refl g .ofStr h'.2⟩)
  |_=>exact h.elim
 |_=>exact h.elim
def CQ:sG:=fun o i v H Q=>match o,i with
 |.ref a,.int k=>match H a with
  |some (.lst ts)=>oq (ixN ts.length k) fun j=>Q (fY H a (.lst (ts.set j v)))
  |_=>False
 |_,_=>False
def g8.wrL {K:Frag} (s:g8 K H3 H) (g:H a=some (.lst xs)) (r:gV K H ts c):g8 K (fY H3 a (.lst ts)) (upd H a (.lst c)):=fun b o e=>by
 have f:tE K H (upd H a (.lst c)):=cu (by rw[g];exact trivial);by_cases d:b=a
 ·subst d;rw[aq] at e;cases e;exact⟨c,aY,r.mono f⟩
 rw[aF d] at e;exact (s b o e).stay f fun u q=>by rw[aM d];exact q
def o6:MK X CQ:=by
 refine adU.imp set_list ?_;rintro o i v H Q ⟨s,f,l,H3,m,g,q,p,d,h,k⟩;cases s with
 |ref a =>
  cases f with
  |int n =>
   have h':(match H3 a with
    |some (.lst ts)=>oq (ixN ts.length n) fun j=>m (fY H3 a (.lst (ts.set j l)))
    |_=>False):=h
   split at h'
   ·
    rename_i ts e
    obtain⟨xs,c,r⟩:=d a _ e
    cases b:ixN ts.length n with
    |none=>rw[b] at h';exact h'.elim
    |some j =>
     rw[b] at h'
     exact⟨a,xs,n,j,g.ref,q.int,c,by rw[<- r.length];exact b,k _ _ (cu (by rw[c];exact trivial)) (d.wrL c (r.set j p)) h'⟩
   ·
    exact h'.elim
  |_=>exact h.elim
 |_=>exact h.elim
abbrev TO3:=St3->gb->(Option Int->gb->Prop)->Prop
def YD (K:Frag) (d:TO3):TO:=fun Z H Q=>∃b H3 c,acj K H b Z/\g8 K H3 H/\d b H3 c/\∀o H' a,tE K H H'->g8 K a H'->c o a->Q o H'
def PO3 (X:Cx) (e:Option Expr) (t:TO3):Prop:=PO X e (YD X.K t)
def PO.imp (h:PO X e t) (w:∀Z H Q,t' Z H Q->t Z H Q):PO X e t':=fun a s Z H Q I q=>h a s Z H Q I (w Z H Q q)
def sZ:TO3:=fun _ H Q=>Q none H
def CT (t:Ho):TO3:=fun Z H Q=>t Z H fun x a=>match x with
 |.int i=>Q (some i) a
 |_=>False
def cX:PO3 X none sZ:=by
 refine PO.imp Jb ?_;rintro Z H Q ⟨b,H3,c,d,a,h,k⟩;exact k _ _ _ .refl a h
def bV (h:xr X e te):PO3 X (some e) (CT te):=by
 refine PO.imp (Jc h) ?_;rintro Z H Q ⟨d,H3,j,c,g,h,k⟩;refine⟨d,H3,_,c,g,h,fun v H' t f b a r q=>?_⟩;cases t with
 |int i=>exact⟨i,r.int,k _ _ _ b a q⟩
 |_=>exact q.elim
def Qo:SlR X (fun x g n H Q=>∃z,x=.str z/\z.length<=sizeLine/\Q (.str (Txt.slice z g n)) H):=by
 intro b s Z H x v B C g n A Q I w y pl r h;obtain⟨z,rfl,f,q⟩:=h;obtain⟨t,rfl⟩:=w;refine⟨"str",_,F.slot_str_getitem.lookup,typeIs_str _ _ _,?_⟩;obtain⟨o,e,c,d⟩:=y;have a:∀(t':Tok) (k:Nat),EP X b Z Q (.str (Txt.slice z g n) t') { s with toks:=k}:=fun t' k=>⟨.str _,H,I.tok k,⟨t',rfl⟩,q⟩;cases pl with
 |none =>
  cases r with
  |none=>exact abu (l:=none) (u:=none) (st:=none) ⟨o,e,c,d⟩ rfl (post_val_or_str ⟨P_ (Txt.slice_le z _ _) f,a⟩)
  |int j m=>exact abu (l:=none) (u:=some (j,m)) (st:=none) ⟨o,e,c,d⟩ rfl (post_val_or_str ⟨P_ (Txt.slice_le z _ _) f,a⟩)
 |int i p =>
 cases r with
 |none=>exact abu (l:=some (i,p)) (u:=none) (st:=none) ⟨o,e,c,d⟩ rfl (post_val_or_str ⟨P_ (Txt.slice_le z _ _) f,a⟩)
 |int j m=>exact abu (l:=some (i,p)) (u:=some (j,m)) (st:=none) ⟨o,e,c,d⟩ rfl (post_val_or_str ⟨P_ (Txt.slice_le z _ _) f,a⟩)
def eZ (ts:List T) (a b:Option Int):List T:=(ts.drop (HT.sIx ts.length 0 a)).take (HT.sIx ts.length ts.length b - HT.sIx ts.length 0 a)
def Jw:T->Option Int->Option Int->gb->v6->Prop:=fun x c b H Q=>match x with
 |.ref a=>match H a with
  |some (.lst ts)=>∀p,H p=none->Q (.ref p) (fY H p (.lst (eZ ts c b)))
  |some (.rol ts)=>∀p,H p=none->Q (.ref p) (fY H p (.lst (eZ ts c b)))
  |_=>False
 |.tup ts=>¬(HT.sIx ts.length 0 c=0/\HT.sIx ts.length ts.length b=ts.length)/\Q (.tup (eZ ts c b)) H
 |.str z=>z.length<=sizeLine/\Q (.str (Txt.slice z c b)) H
 |_=>False
def Vj (te:Ho) (c th:TO3):Ho:=fun Z H Q=>te Z H fun x a=>c Z a fun l b=>th Z b fun u H3=>Jw x l u H3 Q
def lB {K:Frag} (r:gV K H ts xs) (b a:Option Int):gV K H (eZ ts b a) (rQ xs b a):=by
 unfold eZ rQ;rw[<- r.length];exact (r.drop _).take _
def gY {K t:Pos} (L:xr X e te) (G:PO3 X B D) (O:PO3 X C th):xr X (.Subscript e (.Slice B C none K) t) (Vj te D th):=by
 refine PE.imp (rP (ae3.or (aev.or Qo)) L G O) ?_;rintro Z H Q ⟨A,H3,E,q,I,h,k⟩;refine⟨A,H3,_,q,I,h,fun x R N v i w M F=>⟨A,v,_,q.mono i,w,F,fun l P y g s J=>⟨A,y,_,q.mono (i.trans g),s,J,fun u S c m b j=>?_⟩⟩⟩;have o:=k.at (i.trans (g.trans m));have f:=M.mono (g.trans m);cases N with
 |ref a =>
  have h':(match c a with
   |some (.lst ts)=>∀p,c p=none->E (.ref p) (fY c p (.lst (eZ ts l u)))
   |some (.rol ts)=>∀p,c p=none->E (.ref p) (fY c p (.lst (eZ ts l u)))
   |_=>False):=j
  split at h'
  ·
   rename_i ts e
   obtain⟨xs,n,r⟩:=b.sqL (.inl e)
   exact .inl ⟨a,xs,f.ref,n,fun p d=>o _ _ _ _ (aK d) (b.newLst d (lB r l u)) .ofRef (h' p (b.fresh d))⟩
  ·
   rename_i ts e
   obtain⟨xs,n,r⟩:=b.sqL (.inr e)
   exact .inl ⟨a,xs,f.ref,n,fun p d=>o _ _ _ _ (aK d) (b.newLst d (lB r l u)) .ofRef (h' p (b.fresh d))⟩
  ·
   exact h'.elim
 |tup ts=>obtain⟨a,xs,rfl,n,r⟩:=f.tup;refine .inr (.inl ⟨a,xs,rfl,n,by rw[<- r.length];exact j.1,fun p d=>o _ _ _ _ (aK d) (b.new d) (g8.newTup (H3:=c) d (lB r l u)) j.2⟩)
 |str z=>exact .inr (.inr ⟨z,f.str,j.1,o _ _ _ _ .refl b .ofStr j.2⟩)
 |_=>exact j.elim
def aN (k:Str):List (Str × T)->Option T
 |[]=>none
 | (k',v)::r=>if k'=k then some v else aN k r
def put3 (k:Str) (v:T) (kvs:List (Str × T)):List (Str × T) :=
 if (kvs.any fun a=>decide (a.1=k))=true then kvs.map (fun a=>if a.1=k then (a.1,v) else a) else kvs++[(k,v)]
def r3D:R3:=fun x y H Q=>match x,y with
 |.ref a,.str k=>match H a with
  |some (.dct kvs)=>oq (aN k kvs) fun t=>Q t H
  |_=>False
 |_,_=>False
def tu {K:Frag}:∀{kvs:List (Str × T)}{vs:List (Key × V)}{t:T},acR K H kvs vs->aN k kvs=some t->∃v,eQ vs (Sum.inr k:Key)=some v/\Rep K H t v
 |[],_,_,_,e=>by cases e
 | (k',t')::r,_,t,.cons (b:=(kk,v')) ⟨e1,rv⟩ rr,e=>by
  simp only at e1 rv
  subst e1
  unfold aN at e
  by_cases a:k'=k
  ·
   rw[if_pos a] at e
   cases e
   exact⟨v',by rw[eU (by rw[a])],rv⟩
  ·
   rw[if_neg a] at e
   obtain⟨v,c,q⟩:=tu rr e
   exact⟨v,by rw[eV (by intro z;exact a (Sum.inr.inj z))];exact c,q⟩
def dh {s q:Ho} (N:X.A.units+1<cLine) (z:xr X o s) (E:xr X i q) (F:Jf i:=by exact fun _ _=>rfl):xr X (.Subscript o i f) (sE r3D s q):=by
 refine PE.imp (xQ N z E F) ?_;rintro Z H Q ⟨u,H3,K,p,B,h,k⟩;refine⟨u,H3,_,p,B,h,fun x P M g c n I w=>⟨u,g,_,p.mono c,n,w,fun y O J d l b G j=>?_⟩⟩;cases M with
 |ref a =>
  cases J with
  |str key =>
   have h':(match d a with
    |some (.dct kvs)=>oq (aN key kvs) fun t=>K t d
    |_=>False):=j
   split at h'
   ·
    rename_i kvs e
    obtain⟨vs,D,r⟩:=b a _ e
    cases m:aN key kvs with
    |none=>rw[m] at h';exact h'.elim
    |some t =>
     rw[m] at h'
     obtain⟨v,L,C⟩:=tu r m
     refine⟨a,v,I.ref,?_,k.at (c.trans l) _ _ _ _ .refl b C h'⟩
     rw[G.str,<- L]
     exact acM.k (k:=Sum.inr key) D
   ·
    exact h'.elim
  |_=>exact j.elim
 |_=>exact j.elim
def CV (f e d:Ho):TS3:=fun D Z H=>d Z H fun v b=>f Z b fun x c=>e Z c fun y H3=>match x,y with
 |.ref a,.str k=>match H3 a with
  |some (.dct kvs)=>kvs.length<sizeLine/\D.nx Z (fY H3 a (.dct (put3 k v kvs)))
  |_=>False
 |_,_=>False
def Jx {K:Frag} (o:Rep K H t v) (r:acR K H kvs vs):acR K H (put3 k t kvs) (putK vs (Sum.inr k:Key) v):=by
 have e:∀{kvs:List (Str × T)} {vs:List (Key × V)},acR K H kvs vs->(kvs.any fun c=>decide (c.1=k))=(vs.any fun c=>decide (c.1=(Sum.inr k:Key)))/\acR K H (kvs.map (fun c=>if c.1=k then (c.1,t) else c)) (vs.map (fun c=>if c.1=(Sum.inr k:Key) then (c.1,v) else c)):=by
  intro kvs;induction kvs with
  |nil=>intro vs r;cases r;exact⟨rfl,.nil⟩
  |cons p l s =>
  intro vs r;cases r with
  |cons q u =>
  rename_i b y;obtain⟨j,g⟩:=s u;obtain⟨m,n⟩:=q;obtain⟨w,x⟩:=b;simp only at m n;subst m;by_cases f:p.1=k
  ·refine⟨by simp [f],?_⟩;simp only[H_,f,if_true];exact .cons ⟨rfl,o⟩ g
  have d:¬(Sum.inr p.1:Key)=Sum.inr k:=fun z=>f (Sum.inr.inj z);refine⟨by simp only[abQ,f,d,aap,Bool.false_or];exact j,?_⟩;simp only[H_,f,d,Zv];exact .cons ⟨rfl,n⟩ g
 obtain⟨j,g⟩:=e r;unfold put3 putK;rw[j];split
 ·exact g
 have i:∀{a:List (Str × T)} {b:List (Key × V)},acR K H a b->acR K H (a++[(k,t)]) (b++[((Sum.inr k:Key),v)]):=fun h=>Paired.snoc h ⟨rfl,o⟩;exact i r
def g8.wrD {K:Frag} (s:g8 K H3 H) (g:H a=some (.dK h)) (r:acR K H kvs c):g8 K (fY H3 a (.dct kvs)) (upd H a (.dK c)):=fun b o e=>by
 have f:tE K H (upd H a (.dK c)):=cu (by rw[g];exact trivial);by_cases d:b=a
 ·subst d;rw[aq] at e;cases e;exact⟨c,aY,r.mono f⟩
 rw[aF d] at e;exact (s b o e).stay f fun u q=>by rw[aM d];exact q
def yj (Y:X.A.units+1<cLine) (L:xr X o I) (Q:xr X i t) (O:xr X b q) (R:swapsWith b (some (.Subscript o i g)) j.line X.env=pure false:=by rfl):
  PS3 X (.Assign [.Subscript o i g] b j) (CV I t q):=by
 refine PS.imp (Ji Y L Q O R) ?_;rintro D Z H ⟨s,H3,P,p,M,h,T,_⟩;refine⟨s,H3,_,p,M,h,fun v H1 q z f C N J=>⟨s,z,_,p.mono f,C,J,fun x H2 W F d w V S=>⟨s,F,_,p.mono (f.trans d),w,S,fun y G t m c l U E=>?_⟩⟩⟩;cases W with
 |ref a =>
  cases t with
  |str key =>
   have h':(match m a with
    |some (.dct kvs)=>kvs.length<sizeLine/\P.nx s (fY m a (.dct (put3 key q kvs)))
    |_=>False):=E
   split at h'
   ·
    rename_i kvs e
    obtain⟨vs,B,r⟩:=l a _ e
    have u:=N.mono (d.trans c)
    have n:tE X.K G (upd G a (.dK (putK vs (Sum.inr key:Key) v))):=cu (by rw[B];exact trivial)
    refine⟨a,_,(V.mono c).ref,?_,T _ _ _ _ (f.trans (d.trans (c.trans n))) (p.mono (f.trans (d.trans (c.trans n)))) (l.wrD B (Jx u r)) h'.2⟩
    rw[U.str]
    exact adO.k (k:=Sum.inr key) B (by rw[<- abj r];exact h'.1)
   ·
    exact h'.elim
  |_=>exact E.elim
 |_=>exact E.elim
def Vk:List (Str × Ho)->St3->gb->(List (Str × T)->gb->Prop)->Prop
 |[],_,H,Q=>Q [] H
 | (k,tv)::r,Z,H,Q=>tv Z H fun y a=>Vk r Z a fun ps H3=>Q ((k,y)::ps) H3
def YF (kvs a:List (Str × T)):List (Str × T):=a.foldl (fun b c=>put3 c.1 c.2 b) kvs
def Qp (a:List (Str × Ho)):Ho:=fun Z H Q=>∀p,H p=none->Vk a Z (fY H p (.dct [])) fun ps b=>b p=some (.dct [])/\ps.length<=15/\Q (.ref p) (fY b p (.dct (YF [] ps)))
variable {p pos:Pos}{es:List Expr}{id Ty:String}
def Qq (r:List T->gb->v6->Prop) (t:TA3):Ho:=fun Z H Q=>t Z H fun vs a=>r vs a Q
def aO (m:dj X (.builtin id) r) (g:Gl X x) (v:X.mg x=none) (f:bootBuiltins x=some (.builtin id)) (n:PA3 X (e::es) t) (w:x≠"__name__":=by decide) (a:(x==("__debug__":Str))=false:=by decide)
  (l:starEach (e::es) X.env=(false,eval e X.env)::starEach es X.env:=by rfl) (c:(backTo pos (starEach es X.env)).any (·.1)=false:=by rfl):xr X (.Call (.Name x p) (e::es) [] pos) (Qq r t):=by
 refine PE.imp (BR m g v f n w a l c) ?_;rintro Z H Q ⟨o,H3,s,j,u,h,k⟩;exact⟨o,H3,_,j,u,h,fun vs H' ts b i d r q=>⟨ts,b,s,r,d,q,k.at i⟩⟩
def bf (m:dj X (.type Ty) r) (g:Gl X x) (v:X.mg x=none) (f:bootBuiltins x=some (.type Ty)) (n:PA3 X (e::es) t) (w:x≠"__name__":=by decide) (a:(x==("__debug__":Str))=false:=by decide)
  (l:starEach (e::es) X.env=(false,eval e X.env)::starEach es X.env:=by rfl) (c:(backTo pos (starEach es X.env)).any (·.1)=false:=by rfl):xr X (.Call (.Name x p) (e::es) [] pos) (Qq r t):=by
 refine PE.imp (zO m g v f n w a l c) ?_;rintro Z H Q ⟨o,H3,s,j,u,h,k⟩;exact⟨o,H3,_,j,u,h,fun vs H' ts b i d r q=>⟨ts,b,s,r,d,q,k.at i⟩⟩
def CW (c:Gl X x) (e:X.mg x=none) (b:bootBuiltins x=some (.type n)) (f:x≠"__name__":=by decide) (a:(x==("__debug__":Str))=false:=by decide):xr X (.Name x pos) (tC3 (.ty n)):=by
 refine PE.imp (Ib (v:=.ty n) c e b rfl f a) ?_;rintro Z H Q ⟨i,H3,j,g,d,h,k⟩;exact k _ _ _ H3 .refl d .ofTy h
def gV.one' {K:Frag}{t:T} (r:gV K H [t] vs):∃v,vs=[v]/\Rep K H t v:=by
 obtain⟨v,_,rfl,a,b⟩:=r.inv;rw[b.inv0];exact⟨v,rfl,a⟩
def gV.two' {K:Frag}{t u:T} (r:gV K H [t,u] vs):∃v w,vs=[v,w]/\Rep K H t v/\Rep K H u w:=by
 obtain⟨v,_,rfl,a,b⟩:=r.inv;obtain⟨w,rfl,c⟩:=b.one';exact⟨v,w,rfl,a,c⟩
def ym:List T->gb->v6->Prop:=fun ts H Q=>match ts with
 |[.ref a]=>match H a with
  |some (.lst xs)=>Q (.int xs.length) H
  |some (.rol xs)=>Q (.int xs.length) H
  |_=>False
 |[.tup xs]=>Q (.int xs.length) H
 |[.str z]=>z.length<=sizeLine/\Q (.int z.length) H
 |_=>False
def cC:dj X (.builtin "len") ym:=by
 refine ach.imp (adx.or p7) ?_;rintro xs H Q ⟨ts,H3,g,r,b,h,k⟩
 match ts,h,r with
 |[.ref a],h,r =>
  obtain⟨v,rfl,c⟩:=r.one';have h':(match H3 a with
   |some (.lst xs)=>g (.int xs.length) H3
   |some (.rol xs)=>g (.int xs.length) H3
   |_=>False):=h
  split at h'
  ·rename_i us e;obtain⟨ys,d,f⟩:=b.sqL (.inl e);exact .inl ⟨a,ys,by rw[c.ref],.inl d,by rw[<- f.length];exact k _ _ _ _ .refl b .ofInt h'⟩
  ·rename_i us e;obtain⟨ys,d,f⟩:=b.sqL (.inr e);exact .inl ⟨a,ys,by rw[c.ref],.inl d,by rw[<- f.length];exact k _ _ _ _ .refl b .ofInt h'⟩
  exact h'.elim
 |[.tup us],h,r=>obtain⟨v,rfl,c⟩:=r.one';obtain⟨a,ys,rfl,d,f⟩:=c.tup;exact .inl ⟨a,ys,rfl,.inr d,by rw[<- f.length];exact k _ _ _ _ .refl b .ofInt h⟩
 |[.str z],h,r =>
 obtain⟨v,rfl,c⟩:=r.one';exact .inr ⟨z,by rw[c.str],h.1,k _ _ _ _ .refl b .ofInt h.2⟩
def CZ:List T->gb->v6->Prop:=fun ts H Q=>match ts with
 |[.ref a]=>match H a with
  |some (.lst xs)=>∀p,H p=none->Q (.ref p) (fY H p (.lst xs))
  |some (.rol xs)=>∀p,H p=none->Q (.ref p) (fY H p (.lst xs))
  |_=>False
 |[.tup xs]=>∀p,H p=none->Q (.ref p) (fY H p (.lst xs))
 |_=>False
def yo:dj X (.type "list") CZ:=by
 refine ach.imp qb ?_;rintro xs H Q ⟨ts,H3,i,r,c,h,k⟩
 match ts,h,r with
 |[.ref a],h,r =>
  obtain⟨v,rfl,g⟩:=r.one';have h':(match H3 a with
   |some (.lst xs)=>∀p,H3 p=none->i (.ref p) (fY H3 p (.lst xs))
   |some (.rol xs)=>∀p,H3 p=none->i (.ref p) (fY H3 p (.lst xs))
   |_=>False):=h
  split at h'
  ·rename_i us e;obtain⟨ys,d,f⟩:=c.sqL (.inl e);exact⟨a,ys,by rw[g.ref],.inl d,fun l b=>k _ _ _ _ (aK b) (c.newLst b f) .ofRef (h' l (c.fresh b))⟩
  ·rename_i us e;obtain⟨ys,d,f⟩:=c.sqL (.inr e);exact⟨a,ys,by rw[g.ref],.inl d,fun l b=>k _ _ _ _ (aK b) (c.newLst b f) .ofRef (h' l (c.fresh b))⟩
  exact h'.elim
 |[.tup us],h,r =>
 obtain⟨v,rfl,g⟩:=r.one';obtain⟨a,ys,rfl,d,f⟩:=g.tup;exact⟨a,ys,rfl,.inr d,fun l b=>k _ _ _ _ (aK b) (c.newLst b f) .ofRef (h l (c.fresh b))⟩
def ql:List T->gb->v6->Prop:=fun ts H Q=>match ts with
 |[.ref a]=>match H a with
  |some (.lst xs)=>Q (.tup xs) H
  |some (.rol xs)=>Q (.tup xs) H
  |_=>False
 |[.tup xs]=>Q (.tup xs) H
 |_=>False
def bW:dj X (.type "tuple") ql:=by
 refine ach.imp nQ ?_;rintro xs H Q ⟨ts,H3,i,r,f,h,k⟩
 match ts,h,r with
 |[.ref a],h,r =>
  obtain⟨v,rfl,g⟩:=r.one';have h':(match H3 a with
   |some (.lst xs)=>i (.tup xs) H3
   |some (.rol xs)=>i (.tup xs) H3
   |_=>False):=h
  split at h'
  ·rename_i us e;obtain⟨ys,c,d⟩:=f.sqL (.inl e);exact⟨a,ys,by rw[g.ref],.inl ⟨c,fun l b=>k _ _ _ _ (aK b) (f.new b) (g8.newTup (H3:=H3) b d) h'⟩⟩
  ·rename_i us e;obtain⟨ys,c,d⟩:=f.sqL (.inr e);exact⟨a,ys,by rw[g.ref],.inl ⟨c,fun l b=>k _ _ _ _ (aK b) (f.new b) (g8.newTup (H3:=H3) b d) h'⟩⟩
  exact h'.elim
 |[.tup us],h,r =>
 obtain⟨v,rfl,g⟩:=r.one';obtain⟨a,ys,rfl,c,d⟩:=g.tup;exact⟨a,ys,rfl,.inr ⟨c,k _ _ _ _ .refl f (.ofTup c d) h⟩⟩
def Dc:List T->gb->v6->Prop:=fun ts H Q=>match ts with
 |[.int i]=>Q (.int i) H
 |[.bl b]=>Q (.int (if b then 1 else 0)) H
 |_=>False
def Jy:dj X (.type "int") Dc:=by
 refine ach.imp zL ?_;rintro xs H Q ⟨ts,H3,d,r,c,h,k⟩
 match ts,h,r with
 |[.int i],h,r=>obtain⟨v,rfl,a⟩:=r.one';exact .inl ⟨i,by rw[a.int],k _ _ _ _ .refl c .ofInt h⟩
 |[.bl b],h,r =>
 obtain⟨v,rfl,a⟩:=r.one';exact .inr ⟨b,by rw[a.bl],k _ _ _ _ .refl c .ofInt h⟩
def ints3:List T->Option (List Int)
 |[]=>some []
 |.int i::r=>(ints3 r).map (i::·)
 |_=>none
def iH:∀(ns:List Int),ints3 (ns.map T.int)=some ns
 |[]=>rfl
 |n::r=>by simp [ints3,iH r]
def jh {K:Frag}:∀{ts:List T}{xs:List V}{us:List Value}{ns:List Int},ints3 ts=some ns->gV K H ts xs->Vals xs us->IntsAre us ns
 |[],xs,us,ns,e,r,v=>by
  cases e
  rw[r.inv0] at v
  cases v
  exact .nil
 |.int i::l,xs,us,ns,e,r,v=>by
  obtain⟨x,h,rfl,d,f⟩:=r.inv
  cases v with
  |cons a b =>
   rw[d.int] at a
   obtain⟨t,rfl⟩:=a
   cases c:ints3 l with
   |none=>simp [ints3,c] at e
   |some g =>
    simp [ints3,c] at e
    subst e
    exact .cons _ _ (jh c f b)
 |.non::_,_,_,_,e,_,_=>by simp [ints3] at e
 |.bl _::_,_,_,_,e,_,_=>by simp [ints3] at e
 |.str _::_,_,_,_,e,_,_=>by simp [ints3] at e
 |.tup _::_,_,_,_,e,_,_=>by simp [ints3] at e
 |.ref _::_,_,_,_,e,_,_=>by simp [ints3] at e
 |.ty _::_,_,_,_,e,_,_=>by simp [ints3] at e
def M6:List T->gb->v6->Prop:=fun ts H Q=>match ts with
 |[.ref a]=>match H a with
  |some (.lst xs)=>oq (ints3 xs) fun ns=>Q (.int ns.sum) H
  |some (.rol xs)=>oq (ints3 xs) fun ns=>Q (.int ns.sum) H
  |_=>False
 |_=>False
def Dd (G:X.calm=true):dj X (.builtin "sum") M6:=by
 intro i s Z H xs us Q I E h;obtain⟨ts,H3,t,r,m,h,k⟩:=h
 match ts,h,r with
 |[.ref a],h,r =>
 obtain⟨v,rfl,n⟩:=r.one';obtain⟨u,rfl,y⟩:=vals1 E;rw[n.ref] at y;cases y;have b:∀{d:List T} {ys:List V},SqL X.K H a ys->gV X.K H d ys->oq (ints3 d) (fun ns=>t (.int ns.sum) H3)->wpAny (model X.prog X.w) X.A (call (.builtin "sum") [.ref a]) (EP X i Z Q) X.xe s:=by
  intro d ys j g q;cases e:ints3 d with
  |none=>rw[e] at q;exact q.elim
  |some ns =>
  rw[e] at q;obtain⟨c,o,D,_⟩:=I.list j;have z:=jh e g o;have f:AllInts c.toArray:=z.allInts;obtain⟨l,x⟩:=f.items;have p:s.heap.IsList a (intItems l):=by rw[<- x];exact D.isList
  refine sum_intListG (I.ok.hd G) p fun h' tk t' C=>?_;have F:preSum (numAt l) l.size=ns.sum:=by have B:=nums_intItems l;rw[<- x,show c.toArray.toList=c from rfl,z.numsOf] at B;rw[preSum_eq,List.take_of_length_le (by simp),<- B]
  rw[F];exact⟨.int ns.sum,H,I.kept C,⟨t',rfl⟩,k _ _ _ _ .refl m .ofInt q⟩
 have h':(match H3 a with
  |some (.lst xs)=>oq (ints3 xs) fun ns=>t (.int ns.sum) H3
  |some (.rol xs)=>oq (ints3 xs) fun ns=>t (.int ns.sum) H3
  |_=>False):=h
 split at h'
 ·rename_i d e;obtain⟨ys,j,g⟩:=m.sqL (.inl e);exact b j g h'
 ·rename_i d e;obtain⟨ys,j,g⟩:=m.sqL (.inr e);exact b j g h'
 exact h'.elim
def isT (n:String):T->gb->Option Bool:=fun x H=>match x with
 |.non=>some (n=="NoneType")
 |.bl _=>some (n=="bool"||n=="int")
 |.int _=>some (n=="int")
 |.str _=>some (n=="str")
 |.tup _=>some (n=="tuple")
 |.ref a=>match H a with
  |some (.lst _)=>some (n=="list")
  |some (.dct _)=>some (n=="dict")
  |_=>none
 |.ty _=>none
def yp:List T->gb->v6->Prop:=fun ts H Q=>match ts with
 |[x,.ty n]=>(n="str"\/n="int"\/n="bool"\/n="tuple"\/n="list")/\oq (isT n x H) fun b=>Q (.bl b) H
 |_=>False
def ji (K:Frag) (a b:String) (c:a="NoneType"\/a="bool"\/a="int"\/a="str"\/a="tuple"\/a="list"\/a="dict") (d:b="str"\/b="int"\/b="bool"\/b="tuple"\/b="list") :
  kitOne K (.type a) (.type b)=some (a==b||(a=="bool"&&b=="int")):=by
 rcases c with rfl | rfl | rfl | rfl | rfl | rfl | rfl <;> rcases d with rfl | rfl | rfl | rfl | rfl <;> rfl
def vO:dj X (.builtin "isinstance") yp:=by
 intro j s Z H xs us Q I B h;obtain⟨ts,H3,y,r,l,h,k⟩:=h
 match ts,h,r with
 |[x,.ty n],h,r =>
 obtain⟨v,w,rfl,g,F⟩:=r.two';obtain⟨L,M,rfl,f,u⟩:=vals2 B;rw[F.ty] at u;cases u;obtain⟨d,h⟩:=h;have c:∀{b:Bool},y (.bl b) H3->∀tk,EP X j Z Q (.bool b) { s with toks:=tk}:=fun q tk=>⟨.bl _,H,I.tok tk,rfl,k _ _ _ _ .refl l .ofBl q⟩;cases x with
 |non=>exact d9 I f (by rw[g.non];exact .non) (ji X.K "NoneType" n (by simp) d) (c (by rcases d with rfl | rfl | rfl | rfl | rfl <;> exact h))
 |bl b=>exact d9 I f (by rw[g.bl];exact .bl b) (ji X.K "bool" n (by simp) d) (c (by rcases d with rfl | rfl | rfl | rfl | rfl <;> exact h))
 |int i=>exact d9 I f (by rw[g.int];exact .int i) (ji X.K "int" n (by simp) d) (c (by rcases d with rfl | rfl | rfl | rfl | rfl <;> exact h))
 |str z=>exact d9 I f (by rw[g.str];exact .str z) (ji X.K "str" n (by simp) d) (c (by rcases d with rfl | rfl | rfl | rfl | rfl <;> exact h))
 |tup us=>obtain⟨a,ys,rfl,G,J⟩:=g.tup;cases f;obtain⟨C,_,⟨o,D,E,_⟩,_⟩:=I.tuple G;exact kia_one kitx_tuple I.kIn ⟨o,D,E⟩ (ji X.K "tuple" n (by simp) d) (fun z=>nomatch z) (c (by rcases d with rfl | rfl | rfl | rfl | rfl <;> exact h))
 |ref a =>
  have h':oq (match H3 a with
   |some (.lst _)=>some (n=="list")
   |some (.dct _)=>some (n=="dict")
   |_=>none) fun b=>y (.bl b) H3:=h
  rw[g.ref] at f
  cases e:H3 a with
  |none=>rw[e] at h';exact h'.elim
  |some o =>
   rw[e] at h'
   cases o with
   |lst t =>
    obtain⟨A,p,_⟩:=l a _ e
    exact d9 I f (.lst p) (ji X.K "list" n (by simp) d) (c (by rcases d with rfl | rfl | rfl | rfl | rfl <;> exact h'))
   |dct t =>
    obtain⟨A,p,_⟩:=l a _ e
    exact d9 I f (.dK p) (ji X.K "dict" n (by simp) d) (c (by rcases d with rfl | rfl | rfl | rfl | rfl <;> exact h'))
   |rol t=>exact h'.elim
   |dcp t=>exact h'.elim
   |exc _ _=>exact h'.elim
   |xdt _=>exact h'.elim
   |dci _=>exact h'.elim
   |dif _ _=>exact h'.elim
   |ins _ _=>exact h'.elim
 |ty m=>exact h.elim
variable {apos cpos:Pos}
def ty3 (b:String):T->gb->Prop:=fun x H=>match x with
 |.str _=>b="str"
 |.tup _=>b="tuple"
 |.ref a=>b="list"/\match H a with
  |some (.lst _)=>True
  |some (.rol _)=>True
  |_=>False
 |_=>False
def M7 {K:Frag}{t:T} (d:g8 K H3 H) (r:Rep K H t v) (h:ty3 Ty t H3):tyV K Ty v H:=by
 cases t with
 |str z=>rw[r.str];exact h
 |tup ts=>obtain⟨a,xs,rfl,c,_⟩:=r.tup;exact .inr (.inl ⟨h,xs,c⟩)
 |ref a =>
  rw[r.ref];refine .inl ⟨h.1,?_⟩;have b:=h.2;cases e:H3 a with
  |none=>rw[e] at b;exact b.elim
  |some o =>
  rw[e] at b;cases o with
  |lst ts=>obtain⟨xs,c,_⟩:=d.sqL (.inl e);exact⟨xs,c⟩
  |rol ts=>obtain⟨xs,c,_⟩:=d.sqL (.inr e);exact⟨xs,c⟩
  |dct _=>exact b.elim
  |dcp _=>exact b.elim
  |exc _ _=>exact b.elim
  |xdt _=>exact b.elim
  |dci _=>exact b.elim
  |dif _ _=>exact b.elim
  |ins _ _=>exact b.elim
 |_=>exact h.elim
def Vl (c:String) (m:T->List T->gb->v6->Prop) (d:Ho) (t:TA3):Ho:=fun Z H Q=>d Z H fun x a=>ty3 c x a/\t Z a fun xs b=>m x xs b Q
def dZ (D:PlainAttrs Ty) (d:Slot Ty name id) (n:typeOf (.builtin id)=pure (.type "method_descriptor")) (C:zW X id m) (w:xr X o to) (E:PA3 X (e::es) t)
  (c:attributeBase o name X.env (eval o X.env)=eval o X.env:=by rfl)
  (j:((backTo cpos (starEach (e::es) X.env)).all (fun x=>!x.1)&&(backToKw cpos (keywordEach [] X.env)).all (fun x=>x.1.isSome)
   && decide ((e::es).length+([]:List Keyword).length+(if ([]:List Keyword).isEmpty then 0 else 1)<30))=true:=by rfl)
  (b:(apos.endLine==cpos.line)=true:=by rfl) (A:starEach (e::es) X.env=(false,eval e X.env)::starEach es X.env:=by rfl) (a:(backTo cpos (starEach es X.env)).any (·.1)=false:=by rfl) :
  xr X (.Call (.Attribute o name apos) (e::es) [] cpos) (Vl Ty m to t):=by
 refine PE.imp (U7 D d n C w E c j b A a) ?_;rintro Z H Q ⟨v,H3,F,r,z,h,k⟩;exact⟨v,H3,_,r,z,h,fun x J G p g i u s=>⟨M7 i u s.1,v,p,_,r.mono g,i,s.2,fun vs I ts q f l y B=>⟨G,ts,q,F,u.mono f,y,l,B,k.at (g.trans f)⟩⟩⟩
def M8:T->List T->gb->v6->Prop:=fun x ts H Q=>match x,ts with
 |.ref a,[t]=>match H a with
  |some (.lst xs)=>xs.length<sizeLine/\Q .non (fY H a (.lst (xs++[t])))
  |_=>False
 |_,_=>False
def bL:zW X "list.append" M8:=by
 refine MtR.imp zP ?_;rintro x xs H Q ⟨j,ts,H3,g,c,d,f,h,k⟩
 match j,ts,h,c,d with
 |.ref a,[t],h,c,d =>
 obtain⟨v,rfl,i⟩:=d.one';have h':(match H3 a with
  |some (.lst xs)=>xs.length<sizeLine/\g .non (fY H3 a (.lst (xs++[t])))
  |_=>False):=h
 split at h'
 ·rename_i l e;obtain⟨ys,b,r⟩:=f a _ e;exact⟨a,ys,v,c.ref,rfl,b,by rw[<- r.length];exact h'.1,k _ _ _ _ (cu (by rw[b];exact trivial)) (f.wrL b (r.append (.cons i .nil))) .ofNon h'.2⟩
 exact h'.elim
def yq:T->List T->gb->v6->Prop:=fun x ts H Q=>match x,ts with
 |.str z,[.str y]=>match Builtin.Str.occurrences z y 0 z.length 1 with
  |i::_=>Q (.int i) H
  |[]=>False
 |_,_=>False
def De:zW X "str.index" yq:=by
 intro g s Z H x xs v us Q I a b m;obtain⟨o,ts,H3,j,c,d,l,h,k⟩:=m
 match o,ts,h,c,d with
 |.str z,[.str y],h,c,d =>
 obtain⟨w,rfl,n⟩:=d.one';obtain⟨u,rfl,f⟩:=vals1 b;rw[n.str] at f;obtain⟨t',rfl⟩:=f;rw[c.str] at a;obtain⟨t,rfl⟩:=a;have h':(match Builtin.Str.occurrences z y 0 z.length 1 with
  |i::_=>j (.int i) H3
  |[]=>False):=h
 split at h'
 ·rename_i i rest e;exact SC.index e ⟨.int i,H,I.tok _,⟨_,rfl⟩,k _ _ _ _ .refl l .ofInt h'⟩
 exact h'.elim
end
def compLook (n0:List (Str × NameKind)) (N:List Str) (b:Bool) (a:List (Str × NameKind)) (N':List Str) (nt:Nat) (cap:List Nat):Bool :=
 b&&a.all (fun y=>y.2 != .cell||a.lookup y.1==some .cell)&&a.all (fun x=>x.2 != .local||a.lookup x.1==some .local)&&a.all (fun y=>y.2 != .free||n0.lookup y.1==some .cell||n0.lookup y.1==some .free)
  && N'.length==nt+cap.length&&(List.range cap.length).all fun j=>match N'[nt+j]?,cap[j]? with
   |some x,some i=>N[i]?==some x&&a.lookup x==some .free
   |_,_=>false
def bG (m:X.env.scope.names=n0) (o:X.N=N) (h:compLook n0 N (scope.kind==.function) scope.names N' nt cap=true):acL X N' nt cap scope:=by
 unfold compLook at h;simp only[Zq,aay,aaf,bne_iff_ne,Bool.or_eq_true,X_] at h;obtain⟨⟨⟨⟨⟨p,k⟩,l⟩,d⟩,f⟩,c⟩:=h;refine⟨p,fun y a e=>(k y a).resolve_left fun z=>z e,fun x n e=>(l x n).resolve_left fun z=>z e,fun y a e=>?_,f,fun j x e=>?_⟩
 ·show X.env.scope.names.lookup y.1=_\/X.env.scope.names.lookup y.1=_;rw[m];rcases d y a with (z | z) | z
  ·exact absurd e z
  ·exact .inl z
  exact .inr z
 have g:j<cap.length:=by have:=(ZC.mp e).1;omega
 have q:=c j g;rw[e] at q;cases b:cap[j]? with
 |none=>rw[b] at q;cases q
 |some i =>
 rw[b] at q;simp only[Zq,aaf] at q;exact⟨i,rfl,by rw[o];exact q.1,q.2⟩
structure G3 (K:Frag) (mg:Str->Option Value) (x:Str) (st:Stmt) (ps:List Str) (f:Addr) (fd:FuncData):Prop where
 fn:Fun K x x st f fd
 b:Binds K fd ps []
 m:mg x=some (.ref f)
structure Bl (mg:Str->Option Value):Prop where
 len_:mg "len"=none
 sum_:mg "sum"=none
 isinstance_:mg "isinstance"=none
 all_:mg "all"=none
 any_:mg "any"=none
 list_:mg "list"=none
 tuple_:mg "tuple"=none
 int_:mg "int"=none
 str_:mg "str"=none
 bool_:mg "bool"=none
 range_:mg "range"=none
 zip_:mg "zip"=none
 reversed_:mg "reversed"=none
 enumerate_:mg "enumerate"=none
 set_:mg "set"=none
 sorted_:mg "sorted"=none
 min_:mg "min"=none
 max_:mg "max"=none
 dict_:mg "dict"=none
 repr_:mg "repr"=none
def cD:bootBuiltins "len"=some (.builtin "len"):=by decide +kernel
def Df:bootBuiltins "sum"=some (.builtin "sum"):=by decide +kernel
def fL:bootBuiltins "isinstance"=some (.builtin "isinstance"):=by decide +kernel
def Qs:bootBuiltins "any"=some (.builtin "any"):=by decide +kernel
def qm:bootBuiltins "list"=some (.type "list"):=by decide +kernel
def bC:bootBuiltins "tuple"=some (.type "tuple"):=by decide +kernel
def Qt:bootBuiltins "int"=some (.type "int"):=by decide +kernel
def Qu:bootBuiltins "str"=some (.type "str"):=by decide +kernel
def tR.u30 (r:tR k A):A.units+30<cLine:=by have:=r.un;omega
def tR.u31 (r:tR k A):A.units+31<cLine:=by have:=r.un;omega
def tR.u1 (r:tR k A):A.units+1<cLine:=by have:=r.un;omega
def vq (o:Option (Option T)) (Q:T->Prop):Prop:=match o with
 |some (some t)=>Q t
 |_=>False
def YG (t:T) (Q:T->Prop):vq (some (some t)) Q=Q t:=rfl
def Dg (i:Nat):sy i Z H Q=vq (Z[i]?) fun t=>Q t H:=rfl
def bq (x:T) (Q:Bool->Prop):Prop:=match x with
 |.bl k=>Q k
 |_=>False
def gQ (b:Bool) (Q:Bool->Prop):bq (.bl b) Q=Q b:=rfl
def Qv (t:Ho) (Q:Bool->gb->Prop):jN t Z H Q=t Z H fun x H'=>bq x fun k=>Q k H':=rfl
def Qw (b tb:Ho):Cm b tb Z H Q=b Z H fun x a=>bq x fun c=>if c=true then tb Z a Q else Q (.bl false) a:=rfl
def Vm (b tb:Ho):Mv b tb Z H Q=b Z H fun x a=>bq x fun c=>if c=true then Q (.bl true) a else tb Z a Q:=rfl
def fM (v:a) (Q:a->Prop):oq (some v) Q=Q v:=rfl
def q_I (C:Int->Int->Prop) (g:Int->Int->T) (i j:Int):rI3 C g (.int i) (.int j) H Q=(C i j/\Q (g i j) H):=rfl
def YH (g:Int->Int->T) (i j:Int):qj g (.int i) (.int j) H Q=Q (g i j) H:=rfl
def Qx (i j:Int):sO (.int i) (.int j) H Q=Q (.int (i+j)) H:=rfl
def Qy (i j:Str):sO (.str i) (.str j) H Q=(i.length+j.length<=sizeLine/\Q (.str (i++j)) H):=rfl
def Qz (xs ys:List T):sO (.tup xs) (.tup ys) H Q=(xs.length+ys.length<=sizeLine/\Q (.tup (xs++ys)) H):=rfl
def Vn (o u:Option O3) (H:gb) (Q:v6):Prop:=match o,u with
 |some (.lst xs),some (.lst ys)=>xs.length+ys.length<=sizeLine/\∀p,H p=none->Q (.ref p) (fY H p (.lst (xs++ys)))
 |_,_=>False
def Dh (a b:Addr):sO (.ref a) (.ref b) H Q=Vn (H a) (H b) H Q:=rfl
def jO (xs ys:List T):Vn (some (.lst xs)) (some (.lst ys)) H Q=(xs.length+ys.length<=sizeLine/\∀p,H p=none->Q (.ref p) (fY H p (.lst (xs++ys)))):=rfl
def Vo (n:Bool) (i j:Int):sS n (.int i) (.int j) H Q=Q (.bl (if n then !decide (i=j) else decide (i=j))) H:=rfl
def Vp (n:Bool) (i j:Str):sS n (.str i) (.str j) H Q=Q (.bl (if n then !decide (i=j) else decide (i=j))) H:=rfl
def Vq (n:Bool) (i j:Bool):sS n (.bl i) (.bl j) H Q=Q (.bl (if n then !decide (i=j) else decide (i=j))) H:=rfl
def Vr (n:Bool) (xs ys:List T):sS n (.tup xs) (.tup ys) H Q=(xs.all (pl 20)=true/\ys.all (pl 20)=true/\Q (.bl (if n then !decide (xs=ys) else decide (xs=ys))) H):=rfl
def eqH (n:Bool) (a b:Addr) (o u:Option O3) (H:gb) (Q:v6):Prop:=match o,u with
 |some (.lst xs),some (.lst ys)=>a≠b/\xs.all (pl 20)=true/\ys.all (pl 20)=true/\Q (.bl (if n then !@decide (xs=ys) (instDecidableEqList xs ys) else @decide (xs=ys) (instDecidableEqList xs ys))) H
 |_,_=>False
def M9 (n:Bool) (a b:Addr):sS n (.ref a) (.ref b) H Q=eqH n a b (H a) (H b) H Q:=rfl
def tD (n:Bool) (a b:Addr) (xs ys:List T):eqH n a b (some (.lst xs)) (some (.lst ys)) H Q=(a≠b/\xs.all (pl 20)=true/\ys.all (pl 20)=true/\Q (.bl (if n then !decide (xs=ys) else decide (xs=ys))) H):=rfl
def Nb (n:Bool) (x:T) (ts:List T):sW n x (.tup ts) H Q=(pl 20 x=true/\ts.all (pl 20)=true/\Q (.bl (dH n x ts)) H):=rfl
def Vs (n:Bool) (i j:Str):sW n (.str i) (.str j) H Q=Q (.bl (occ n i j)) H:=rfl
def inH (n:Bool) (x:T) (o:Option O3) (H:gb) (Q:v6):Prop:=match o with
 |some (.lst ts)=>pl 20 x=true/\ts.all (pl 20)=true/\Q (.bl (dH n x ts)) H
 |some (.rol ts)=>pl 20 x=true/\ts.all (pl 20)=true/\Q (.bl (dH n x ts)) H
 |_=>False
def Nf (n:Bool) (x:T) (a:Addr):sW n x (.ref a) H Q=inH n x (H a) H Q:=rfl
def Ng (n:Bool) (x:T) (ts:List T):inH n x (some (.lst ts)) H Q=(pl 20 x=true/\ts.all (pl 20)=true/\Q (.bl (dH n x ts)) H):=rfl
def ixH (o:Option O3) (i:Int) (H:gb) (Q:v6):Prop:=match o with
 |some (.lst ts)=>oq (atI ts i) fun t=>Q t H
 |some (.rol ts)=>oq (atI ts i) fun t=>Q t H
 |_=>False
def Di (a:Addr) (i:Int):sY (.ref a) (.int i) H Q=ixH (H a) i H Q:=rfl
def yr (ts:List T) (i:Int):ixH (some (.lst ts)) i H Q=oq (atI ts i) fun t=>Q t H:=rfl
def Vt (ts:List T) (i:Int):sY (.tup ts) (.int i) H Q=oq (atI ts i) fun t=>Q t H:=rfl
def Vu (z:Str) (i:Int):sY (.str z) (.int i) H Q=(z.length<=sizeLine/\oq (atI z.cps.toList i) fun c=>Q (.str ⟨#[c]⟩) H):=rfl
def stH (o:Option O3) (a:Addr) (k:Int) (v:T) (H:gb) (Q:gb->Prop):Prop:=match o with
 |some (.lst ts)=>oq (ixN ts.length k) fun j=>Q (fY H a (.lst (ts.set j v)))
 |_=>False
def QB (a:Addr) (k:Int) (v:T) (Q:gb->Prop):CQ (.ref a) (.int k) v H Q=stH (H a) a k v H Q:=rfl
def Vv (ts:List T) (a:Addr) (k:Int) (v:T) (Q:gb->Prop):stH (some (.lst ts)) a k v H Q=oq (ixN ts.length k) fun j=>Q (fY H a (.lst (ts.set j v))):=rfl
def pq (x:T) (Q:Option Int->Prop):Prop:=match x with
 |.int i=>Q (some i)
 |_=>False
def YJ (i:Int) (Q:Option Int->Prop):pq (.int i) Q=Q (some i):=rfl
def QC (t:Ho) (Q:Option Int->gb->Prop):CT t Z H Q=t Z H fun x a=>pq x fun o=>Q o a:=rfl
def slH (o:Option O3) (b a:Option Int) (H:gb) (Q:v6):Prop:=match o with
 |some (.lst ts)=>∀p,H p=none->Q (.ref p) (fY H p (.lst (eZ ts b a)))
 |some (.rol ts)=>∀p,H p=none->Q (.ref p) (fY H p (.lst (eZ ts b a)))
 |_=>False
def Vw (a:Addr) (c b:Option Int):Jw (.ref a) c b H Q=slH (H a) c b H Q:=rfl
def Nh (ts:List T) (b a:Option Int):slH (some (.lst ts)) b a H Q=∀p,H p=none->Q (.ref p) (fY H p (.lst (eZ ts b a))):=rfl
def QD (ts:List T) (b a:Option Int):slH (some (.rol ts)) b a H Q=∀p,H p=none->Q (.ref p) (fY H p (.lst (eZ ts b a))):=rfl
def Vx (ts:List T) (b a:Option Int):Jw (.tup ts) b a H Q=(¬(HT.sIx ts.length 0 b=0/\HT.sIx ts.length ts.length a=ts.length)/\Q (.tup (eZ ts b a)) H):=rfl
def Vy (z:Str) (b a:Option Int):Jw (.str z) b a H Q=(z.length<=sizeLine/\Q (.str (Txt.slice z b a)) H):=rfl
def dgH (o:Option O3) (k:Str) (H:gb) (Q:v6):Prop:=match o with
 |some (.dct kvs)=>oq (aN k kvs) fun t=>Q t H
 |_=>False
def q_D (a:Addr) (k:Str):r3D (.ref a) (.str k) H Q=dgH (H a) k H Q:=rfl
def Vz (kvs:List (Str × T)) (k:Str):dgH (some (.dct kvs)) k H Q=oq (aN k kvs) fun t=>Q t H:=rfl
def dpH (x y v:T) (H:gb) (Q:gb->Prop):Prop:=match x,y with
 |.ref a,.str k=>match H a with
  |some (.dct kvs)=>kvs.length<sizeLine/\Q (fY H a (.dct (put3 k v kvs)))
  |_=>False
 |_,_=>False
def dpO (o:Option O3) (a:Addr) (k:Str) (v:T) (H:gb) (Q:gb->Prop):Prop:=match o with
 |some (.dct kvs)=>kvs.length<sizeLine/\Q (fY H a (.dct (put3 k v kvs)))
 |_=>False
def QF (c b a:Ho) (D:adX):CV c b a D Z H=a Z H fun v d=>c Z d fun x e=>b Z e fun y H3=>dpH x y v H3 fun f=>D.nx Z f:=rfl
def VB (a:Addr) (k:Str) (v:T) (Q:gb->Prop):dpH (.ref a) (.str k) v H Q=dpO (H a) a k v H Q:=rfl
def VD (kvs:List (Str × T)) (a:Addr) (k:Str) (v:T) (Q:gb->Prop):dpO (some (.dct kvs)) a k v H Q=(kvs.length<sizeLine/\Q (fY H a (.dct (put3 k v kvs)))):=rfl
def lnH (o:Option O3) (H:gb) (Q:v6):Prop:=match o with
 |some (.lst xs)=>Q (.int xs.length) H
 |some (.rol xs)=>Q (.int xs.length) H
 |_=>False
def QG (a:Addr):ym [.ref a] H Q=lnH (H a) H Q:=rfl
def VF (xs:List T):lnH (some (.lst xs)) H Q=Q (.int xs.length) H:=rfl
def QH (xs:List T):ym [.tup xs] H Q=Q (.int xs.length) H:=rfl
def QJ (z:Str):ym [.str z] H Q=(z.length<=sizeLine/\Q (.int z.length) H):=rfl
def Jz (xs:List T):CZ [.tup xs] H Q=∀p,H p=none->Q (.ref p) (fY H p (.lst xs)):=rfl
def tpH (o:Option O3) (H:gb) (Q:v6):Prop:=match o with
 |some (.lst xs)=>Q (.tup xs) H
 |some (.rol xs)=>Q (.tup xs) H
 |_=>False
def QK (a:Addr):ql [.ref a] H Q=tpH (H a) H Q:=rfl
def VG (xs:List T):tpH (some (.lst xs)) H Q=Q (.tup xs) H:=rfl
def QL (xs:List T):ql [.tup xs] H Q=Q (.tup xs) H:=rfl
def QM (i:Int):Dc [.int i] H Q=Q (.int i) H:=rfl
def QQ (b:Bool):Dc [.bl b] H Q=Q (.int (if b then 1 else 0)) H:=rfl
def smH (o:Option O3) (H:gb) (Q:v6):Prop:=match o with
 |some (.lst xs)=>oq (ints3 xs) fun ns=>Q (.int ns.sum) H
 |some (.rol xs)=>oq (ints3 xs) fun ns=>Q (.int ns.sum) H
 |_=>False
def QR (a:Addr):M6 [.ref a] H Q=smH (H a) H Q:=rfl
def VH (xs:List T):smH (some (.lst xs)) H Q=oq (ints3 xs) fun ns=>Q (.int ns.sum) H:=rfl
def Ni (x:T) (n:String):yp [x,.ty n] H Q=((n="str"\/n="int"\/n="bool"\/n="tuple"\/n="list")/\oq (isT n x H) fun b=>Q (.bl b) H):=rfl
def VJ (a:String) (z:Str):ty3 a (.str z) H=(a="str"):=rfl
def tyH (o:Option O3):Prop:=match o with
 |some (.lst _)=>True
 |some (.rol _)=>True
 |_=>False
def VL (b:String) (a:Addr):ty3 b (.ref a) H=(b="list"/\tyH (H a)):=rfl
def VM (xs:List T):tyH (some (.lst xs))=True:=rfl
def apH (o:Option O3) (a:Addr) (t:T) (H:gb) (Q:v6):Prop:=match o with
 |some (.lst xs)=>xs.length<sizeLine/\Q .non (fY H a (.lst (xs++[t])))
 |_=>False
def VN (a:Addr) (t:T):M8 (.ref a) [t] H Q=apH (H a) a t H Q:=rfl
def Dj (xs:List T) (a:Addr) (t:T):apH (some (.lst xs)) a t H Q=(xs.length<sizeLine/\Q .non (fY H a (.lst (xs++[t])))):=rfl
def idH (o:List Nat) (H:gb) (Q:v6):Prop:=match o with
 |i::_=>Q (.int i) H
 |[]=>False
def JB (z y:Str):yq (.str z) [.str y] H Q=idH (Builtin.Str.occurrences z y 0 z.length 1) H Q:=rfl
def VP (i:Nat) (r:List Nat):idH (i::r) H Q=Q (.int i) H:=rfl
def rgq (vs:List T) (H:gb) (R:List T->(gb->Prop)->gb->Prop):Prop:=match vs with
 |[.int j]=>-(2^62)<=j/\j<2^62/\R (dX 0 j.toNat) cI H
 |[.int i,.int j]=>(-(2^62)<=i/\i<2^62 /\ -(2^62)<=j/\j<2^62)/\R (dX i (j - i).toNat) cI H
 |_=>False
def VR (a:TA3) (R:List T->(gb->Prop)->gb->Prop):Cz a Z H R=a Z H fun vs b=>rgq vs b R:=rfl
def V0 (j:Int) (R:List T->(gb->Prop)->gb->Prop):rgq [.int j] H R=(-(2^62)<=j/\j<2^62/\R (dX 0 j.toNat) cI H):=rfl
def V1 (i j:Int) (R:List T->(gb->Prop)->gb->Prop):rgq [.int i,.int j] H R=((-(2^62)<=i/\i<2^62 /\ -(2^62)<=j/\j<2^62)/\R (dX i (j - i).toNat) cI H):=rfl
def tuq (x:T) (H:gb) (R:List T->(gb->Prop)->gb->Prop):Prop:=match x with
 |.tup ts=>R ts cI H
 |_=>False
def QS (a:Ho) (R:List T->(gb->Prop)->gb->Prop):MP a Z H R=a Z H fun x b=>tuq x b R:=rfl
def V2 (ts:List T) (R:List T->(gb->Prop)->gb->Prop):tuq (.tup ts) H R=R ts cI H:=rfl
def liq (x:T) (H:gb) (R:List T->(gb->Prop)->gb->Prop):Prop:=match x with
 |.ref a=>match H a with
  |some (.lst ts)=>R ts (bh a ts) H
  |some (.rol ts)=>R ts (bh a ts) H
  |_=>False
 |_=>False
def liO (o:Option O3) (a:Addr) (H:gb) (R:List T->(gb->Prop)->gb->Prop):Prop:=match o with
 |some (.lst ts)=>R ts (bh a ts) H
 |some (.rol ts)=>R ts (bh a ts) H
 |_=>False
def JC (a:Ho) (R:List T->(gb->Prop)->gb->Prop):Cw a Z H R=a Z H fun x b=>liq x b R:=rfl
def Nj (a:Addr) (R:List T->(gb->Prop)->gb->Prop):liq (.ref a) H R=liO (H a) a H R:=rfl
def yt (ts:List T) (a:Addr) (R:List T->(gb->Prop)->gb->Prop):liO (some (.lst ts)) a H R=R ts (bh a ts) H:=rfl
def QT (Q:St3->gb->Prop):xW [] Z H Q=Q Z H:=rfl
def JD (t:TG3) (u:nU) (x:T) (r:List T) (Q:St3->gb->Prop):jf t u (x::r) Z H Q=t x Z H fun a H'=>u r a H' Q:=rfl
def QV (n:Nat) (g:nU) (ts:List T) (Q:St3->gb->Prop):xX n g (.tup ts) Z H Q=(ts.length=n/\g ts Z H Q):=rfl
def yu (h:j<n):ixN n (j:Int)=some j:=by
 unfold ixN;rw[if_pos (abD j),if_pos (by omega),ZV]
def at0 (a:b) (r:List b):atI (a::r) 0=some a:=cG (j:=0) rfl
def at1 (a b:c) (r:List c):atI (a::b::r) 1=some b:=cG (j:=1) rfl
def at2 (a b c:d) (r:List d):atI (a::b::c::r) 2=some c:=cG (j:=2) rfl
def iI (I:List T->St3->gb->Prop) (b:I ts Z H) (e:∀Z H,I [] Z H->still H/\D.nx Z H) (c:∀t r Z H (N:St3->gb->Prop),I (t::r) Z H->(∀a H',I r a H'->N a H')->still H/\g t Z H fun Z2 H2=>tb { D with nx:=N,ct:=N,bk:=D.nx} Z2 H2):acs g tb D still ts Z H:=by
 induction ts generalizing Z H with
 |nil=>exact e Z H b
 |cons t r d=>exact c t r Z H (acs g tb D still r) b fun a H' h=>d h
def jx (I:List T->List T->St3->gb->Prop) (e:I ts ys Z H) (j:∀ys Z H,I [] ys Z H->still H/\ys.length<=sizeLine/\c ys H) (f:∀t r ys Z H (N:List T->St3->gb->Prop),I (t::r) ys Z H->(∀a d H',I r a d H'->N a d H') ->
   still H/\g t Z H fun Z2 H2=>tt Z2 H2 fun b H3=>if b=true then te Z2 H3 fun y H4=>ys.length<sizeLine/\N (ys++[y]) Z2 H4 else N ys Z2 H3):Z7 g tt te still c ts ys Z H:=by
 induction ts generalizing Z H ys with
 |nil=>exact j ys Z H e
 |cons t r i=>exact f t r ys Z H (Z7 g tt te still c r) e fun a d H' h=>i h
def sx0 (n:Nat):HT.sIx n 0 none=0:=rfl
def jP {k:Nat}:eZ ts none (some (k:Int))=ts.take k:=by
 unfold eZ;rw[sx0,HT.ad4,List.drop_zero,Nat.sub_zero];by_cases h:k<=ts.length
 ·rw[Nat.min_eq_left h]
 rw[Nat.min_eq_right (by omega),List.take_length,List.take_of_length_le (by omega)]
def mG {k:Nat}:eZ ts (some (k:Int)) none=ts.drop k:=by
 unfold eZ;rw[HT.aet,HT.ad4];by_cases h:k<=ts.length
 ·rw[Nat.min_eq_left h,List.take_of_length_le (by simp)]
 rw[Nat.min_eq_right (by omega),List.drop_of_length_le (k_ _),List.drop_of_length_le (by omega),List.take_nil]
def cJ (h:fY H a o b=none):b≠a/\H b=none:=by
 by_cases e:b=a
 ·subst e;rw[aq] at h;cases h
 rw[aF e] at h;exact⟨e,h⟩
def Dk (h:a≠b):fY (fY H a o) b u=fY (fY H b u) a o:=by
 funext c;by_cases d:c=b
 ·subst d;rw[aq,aF (Ne.symm h),aq]
 rw[aF d];by_cases e:c=a
 ·subst e;rw[aq,aq]
 rw[aF e,aF e,aF d]
def bH {m:Type} (c f:m->T) (g:List m) (rest:St3) (i:still H) (o:g.length<=sizeLine) (n:∀a∈g,∀Q:v6,Q (f a) H->te (some (c a)::rest) H Q) (l:k (g.map f) H):Z7 (eX 0) yc te still k (g.map c) [] (v::rest) H:=by
 refine jx (fun r ys Z H'=>∃(e h:List m) (v:Option T),Z=v::rest/\r=e.map c/\ys=h.map f/\h++e=g/\H'=H) ⟨g,[],v,rfl,rfl,rfl,rfl,rfl⟩ ?_ ?_
 ·rintro ys Z H' ⟨e,h,v,rfl,d,rfl,b,rfl⟩;have j:e=[]:=abp.mp d.symm;subst j;rw[W_] at b;subst b;exact⟨i,by rw[d_];exact o,l⟩
 rintro x r ys Z H' N ⟨e,h,v,rfl,d,rfl,b,rfl⟩ p;cases e with
 |nil=>cases d
 |cons t e =>
 injection d with e1 e2;subst e1 e2;refine⟨i,?_⟩;show te (some (c t)::rest) H' _;refine n t (by rw[<- b];simp) _ ⟨?_,p _ _ _ ⟨e,h++[t],_,rfl,rfl,by simp,by rw[<- b];simp,rfl⟩⟩;have:=Zk List.length b;simp only[g_,p_] at this;rw[d_];omega
def cg:List T->Option (List Bool)
 |[]=>some []
 |.bl x::r=>(cg r).map (x::·)
 |_=>none
def gF:∀(ns:List Bool),cg (ns.map T.bl)=some ns
 |[]=>rfl
 |n::r=>by simp [cg,gF r]
def fG {K:Frag}:∀{ts:List T}{xs:List V}{us:List Value}{c:List Bool},cg ts=some c->gV K H ts xs->Vals xs us->us=c.map Value.bool
 |[],xs,us,c,e,r,v=>by
  cases e
  rw[r.inv0] at v
  cases v
  rfl
 |.bl i::l,xs,us,c,e,r,v=>by
  obtain⟨x,j,rfl,f,g⟩:=r.inv
  cases v with
  |cons a b =>
   rw[f.bl] at a
   cases d:cg l with
   |none=>simp [cg,d] at e
   |some h =>
    simp [cg,d] at e
    subst e
    cases a
    rw[fG d g b]
    rfl
 |.non::_,_,_,_,e,_,_=>by simp [cg] at e
 |.int _::_,_,_,_,e,_,_=>by simp [cg] at e
 |.str _::_,_,_,_,e,_,_=>by simp [cg] at e
 |.tup _::_,_,_,_,e,_,_=>by simp [cg] at e
 |.ref _::_,_,_,_,e,_,_=>by simp [cg] at e
 |.ty _::_,_,_,_,e,_,_=>by simp [cg] at e
def YK:T->Option Key
 |.int i=>some (.inl i)
 |.str x=>some (.inr x)
 |_=>none
def Dl:List T->Option (List Key)
 |[]=>some []
 |t::r=>match YK t,Dl r with
  |some k,some ks=>some (k::ks)
  |_,_=>none
def Nk (k:List Key):List (List Key × T)->Option T
 |[]=>none
 | (k',v)::r=>if k'=k then some v else Nk k r
def putP (k:List Key) (v:T) (kvs:List (List Key × T)):List (List Key × T) :=
 if (kvs.any fun a=>decide (a.1=k))=true then kvs.map (fun a=>if a.1=k then (a.1,v) else a) else kvs++[(k,v)]
def YL (o:Option O3) (ts:List T) (H:gb) (Q:v6):Prop:=match o with
 |some (.dcp kvs)=>oq (Dl ts) fun a=>oq (Nk a kvs) fun t=>Q t H
 |_=>False
def dgP (x:T) (ts:List T) (H:gb) (Q:v6):Prop:=match x with
 |.ref a=>YL (H a) ts H Q
 |_=>False
def JF (d:Ho) (c:TA3):Ho:=fun Z H Q=>d Z H fun x a=>c Z a fun ts b=>ts.length<=sizeLine/\dgP x ts b Q
def YM (o:Option O3) (a:Addr) (ts:List T) (v:T) (H:gb) (Q:gb->Prop):Prop:=match o with
 |some (.dcp kvs)=>oq (Dl ts) fun b=>kvs.length<sizeLine/\Q (fY H a (.dcp (putP b v kvs)))
 |_=>False
def dpP (x:T) (ts:List T) (v:T) (H:gb) (Q:gb->Prop):Prop:=match x with
 |.ref a=>YM (H a) a ts v H Q
 |_=>False
def JG (f:Ho) (c:TA3) (e:Ho):TS3:=fun D Z H=>e Z H fun v a=>f Z a fun x b=>c Z b fun ts H3=>ts.length<=sizeLine/\dpP x ts v H3 fun d=>D.nx Z d
section
variable {H:gb}{Q:v6}
variable {X:Cx}{o i k value:Expr}
def Dm:Ho:=fun _ H Q=>∀p,H p=none->Q (.ref p) (fY H p (.dct []))
def JH:Ho:=fun _ H Q=>∀p,H p=none->Q (.ref p) (fY H p (.dcp []))
def g8.newD {K:Frag}{H:Hp} (s:g8 K H3 H) (c:H p=none):g8 K (fY H3 p (.dct [])) (upd H p (.dK [])):=fun a o e=>by
 by_cases b:a=p
 ·subst b;rw[aq] at e;cases e;exact⟨[],aY,.nil⟩
 rw[aF b] at e;exact s.new c a o e
def JK:xr X (.Dict [] [] pos) Dm:=by
 refine PE.imp rZ ?_;rintro Z H Q ⟨d,H3,e,c,b,h,k⟩ p a;exact k _ _ _ _ (aK a) (b.newD a) .ofRef (h p (b.fresh a))
def d1q (y:T) (p:Addr) (v:T) (H:gb) (Q:v6):Prop:=match y with
 |.str k=>H p=some (.dct [])/\Q (.ref p) (fY H p (.dct [(k,v)]))
 |_=>False
def Do (tk c:Ho):Ho:=fun Z H Q=>∀p,H p=none->tk Z (fY H p (.dct [])) fun y a=>c Z a fun v b=>d1q y p v b Q
def V3 (x:Str) (p:Addr) (v:T):d1q (.str x) p v H Q=(H p=some (.dct [])/\Q (.ref p) (fY H p (.dct [(x,v)]))):=rfl
def Dp (w:xr X k tk) (x:xr X v tv):xr X (.Dict [some k] [v] pos) (Do tk tv):=by
 refine PE.imp (xT (sr w x xR) rfl rfl (by simp) (by show 1<=15;decide)) ?_;rintro Z H Q ⟨q,H3,C,m,n,h,k⟩ p l;have a:tE X.K H (upd H p (.dK [])):=aK l;refine⟨q,fY H3 p (.dct []),_,m.mono a,n.newD l,h p (n.fresh l),fun y E B g d j A t=>?_⟩;refine⟨q,g,_,m.mono (a.trans d),j,t,fun z D u f c b s o=>?_⟩;cases B with
 |str key =>
  have h':f p=some (.dct [])/\C (.ref p) (fY f p (.dct [(key,u)])):=o
  obtain⟨ws,i,r⟩:=b p _ h'.1
  cases r
  refine⟨i,[(Sum.inr key,z)],by rw[(A.mono c).str];rfl,by show 1<=15;decide,?_⟩
  have e:jc [] [((Sum.inr key:Key),z)]=[((Sum.inr key:Key),z)]:=rfl
  rw[e]
  exact k _ _ _ _ (a.trans (d.trans (c.trans (cu (by rw[i];exact trivial))))) (b.wrD i (.cons ⟨rfl,s⟩ .nil)) .ofRef h'.2
 |_=>exact o.elim
def diH (a:Bool) (y:T) (o:Option O3) (H:gb) (Q:v6):Prop:=match y,o with
 |.str k,some (.dct kvs)=>Q (.bl (if a then !(aN k kvs).isSome else (aN k kvs).isSome)) H
 |_,_=>False
def diq (b:Bool) (y x:T) (H:gb) (Q:v6):Prop:=match x with
 |.ref a=>diH b y (H a) H Q
 |_=>False
def Dq (a:Bool) (d e:Ho):Ho:=fun Z H Q=>d Z H fun y b=>e Z b fun x c=>diq a y x c Q
def V4 (b:Bool) (y:T) (a:Addr):diq b y (.ref a) H Q=diH b y (H a) H Q:=rfl
def V5 (a:Bool) (k:Str) (kvs:List (Str × T)):diH a (.str k) (some (.dct kvs)) H Q=Q (.bl (if a then !(aN k kvs).isSome else (aN k kvs).isSome)) H:=rfl
def o7 {K:Frag}{H:Hp}{k:Str}:∀{kvs:List (Str × T)}{vs:List (Key × V)},acR K H kvs vs->(eQ vs (Sum.inr k:Key)).isSome=(aN k kvs).isSome
 |[],_,.nil=>rfl
 | (k',t')::r,_,.cons (b:=(kk,v')) ⟨e1,rv⟩ rr=>by
  simp only at e1 rv
  subst e1
  unfold aN
  by_cases a:k'=k
  ·
   rw[if_pos a,eU (by rw[a])];rfl
  ·
   rw[if_neg a,eV (by intro z;exact a (Sum.inr.inj z))]
   exact o7 rr
def yw {H:Hp} (n:g8 X.K H3 H) (m:Rep X.K H h x) (j:Rep X.K H d y) (q:diq c d h H3 f):
  ∃a g b,x=.ref a/\acM H a y g/\(if c then !g.isSome else g.isSome)=b/\f (.bl b) H3:=by
 cases h with
 |ref a =>
  have h':diH c d (H3 a) H3 f:=q
  cases d with
  |str k =>
   cases e:H3 a with
   |none=>rw[e] at h';exact h'.elim
   |some i =>
    rw[e] at h'
    cases i with
    |dct kvs =>
     obtain⟨ws,l,r⟩:=n a _ e
     refine⟨a,eQ ws (Sum.inr k:Key),_,m.ref,by rw[j.str];exact acM.k (k:=Sum.inr k) l,rfl,?_⟩
     rw[o7 r]
     exact h'
    |_=>exact h'.elim
  |_=>exact h'.elim
 |_=>exact q.elim
def mH (E:X.A.units+1<cLine) (u:xr X i ti) (s:xr X o td) (z:behindInMarks .In o=false:=by rfl):PT3 X (.Compare i [.In] [o] pos) (jN (Dq false ti td)):=by
 refine PT.imp (vo (Qi E u s) z) ?_;rintro Z H Q ⟨n,H3,J,m,t,h,k⟩;refine⟨n,H3,_,m,t,h,fun y G I j f l B r=>⟨n,j,_,m.mono f,l,r,fun x F K C d c D v=>?_⟩⟩;obtain⟨a,p,b,e,g,w,q⟩:=yw c D (B.mono d) v;exact⟨a,p,e,g,b,by rw[show p.isSome=b from w],k _ _ _ (f.trans d) c q⟩
def o8 (E:X.A.units+1<cLine) (u:xr X i ti) (s:xr X o td) (z:behindInMarks .NotIn o=false:=by rfl):PT3 X (.Compare i [.NotIn] [o] pos) (jN (Dq true ti td)):=by
 refine PT.imp (vo (oX E u s) z) ?_;rintro Z H Q ⟨n,H3,J,m,t,h,k⟩;refine⟨n,H3,_,m,t,h,fun y G I j f l B r=>⟨n,j,_,m.mono f,l,r,fun x F K C d c D v=>?_⟩⟩;obtain⟨a,p,b,e,g,w,q⟩:=yw c D (B.mono d) v;exact⟨a,p,e,g,b,by rw[show (!p.isSome)=b from w],k _ _ _ (f.trans d) c q⟩
end
def zZ (x:T) (H:gb) (R:List T->(gb->Prop)->gb->Prop):Prop:=match x with
 |.tup ts=>R ts cI H
 |.ref a=>liO (H a) a H R
 |_=>False
def QW (ts:List T):zZ (.tup ts) H R=R ts cI H:=rfl
def QX (a:Addr):zZ (.ref a) H R=liO (H a) a H R:=rfl
def Dr (i:Nat):TI3:=fun Z H R=>vq (Z[i]?) fun x=>zZ x H R
def JL (i:Nat):Dr i Z H R=vq (Z[i]?) fun x=>zZ x H R:=rfl
def JM {X:Cx}{p:Expr} (i:Nat) {f:Pos} (m:X.N[i]?=some x:=by rfl) (g:Vis X.env.scope x:=by first | exact Or.inl rfl | exact Or.inr (Or.inl rfl) | exact Or.inr (Or.inr rfl)) (n:(x==("__debug__":Str))=false:=by decide) (d:(x==("__classdict__":Str))=false:=by decide):PI3 X p (.Name x f) (Dr i):=by
 intro b s Z H R I q;obtain⟨c,H3,R3,j,l,h,k⟩:=q;have h':vq (c[i]?) fun x=>zZ x H3 R3:=h;cases e:c[i]? with
 |none=>rw[e] at h';exact h'.elim
 |some o =>
 cases o with
 |none=>rw[e] at h';exact h'.elim
 |some t =>
 rw[e] at h';cases t with
 |tup ts=>exact bF (v3 i m g n d) b s Z H R I ⟨c,H3,R3,j,l,by show sy i c H3 _;rw[Dg,e];exact h',k⟩
 |ref a=>exact c7 (v3 i m g n d) b s Z H R I ⟨c,H3,R3,j,l,by show sy i c H3 _;rw[Dg,e];exact h',k⟩
 |_=>exact h'.elim
def aZ {c:Type} (a:c->T) (xs:List c) (I:List c->St3->gb->Prop) (f:I [] Z H) (j:∀Z H,I xs Z H->still H/\D.nx Z H) (d:∀A x B Z H (N:St3->gb->Prop),xs=A++x::B->I A Z H->(∀b H',I (A++[x]) b H'->N b H')->still H/\g (a x) Z H fun Z2 H2=>tb { D with nx:=N,ct:=N,bk:=D.nx} Z2 H2):acs g tb D still (xs.map a) Z H:=by
 have:∀(B A:List c) (Z:St3) (H:gb),xs=A++B->I A Z H->acs g tb D still (B.map a) Z H:=by
  intro B;induction B with
  |nil=>intro A Z H e h;rw[W_] at e;subst e;exact j Z H h
  |cons x B i =>
  intro A Z H e h;exact d A x B Z H (acs g tb D still (B.map a)) e h fun b H' h'=>i (A++[x]) b H' (by rw[e];simp) h'
 exact this xs [] Z H rfl f
def fX {i:Type} (c:i->T) (xs:List i) (I:List i->List T->St3->gb->Prop) (k:I [] [] Z H) (m:∀ys Z H,I xs ys Z H->still H/\ys.length<=sizeLine/\d ys H) (j:∀A x B ys Z H (N:List T->St3->gb->Prop),xs=A++x::B->I A ys Z H->(∀a f H',I (A++[x]) a f H'->N a f H') ->
   still H/\g (c x) Z H fun Z2 H2=>tt Z2 H2 fun b H3=>if b=true then te Z2 H3 fun y H4=>ys.length<sizeLine/\N (ys++[y]) Z2 H4 else N ys Z2 H3):Z7 g tt te still d (xs.map c) [] Z H:=by
 have:∀(B A:List i) (ys:List T) (Z:St3) (H:gb),xs=A++B->I A ys Z H->Z7 g tt te still d (B.map c) ys Z H:=by
  intro B;induction B with
  |nil=>intro A ys Z H e h;rw[W_] at e;subst e;exact m ys Z H h
  |cons x B l =>
  intro A ys Z H e h;exact j A x B ys Z H (Z7 g tt te still d (B.map c)) e h fun a f H' h'=>l (A++[x]) a f H' (by rw[e];simp) h'
 exact this xs [] [] Z H rfl k
def Ds:typeLookup (.type "tuple") "__reversed__"=pure none:=by rw[aax,ZR];kernel_rfl
def z6:isSubtype (.type "tuple") (.type "dict")=pure false:=by rw[aa7];kernel_rfl
def JN:Slot "reversed" "__init__" "object.__init__":=.of (owner:="object") (n:="__init__") (by rw[aax,ZR];kernel_rfl) (by decide +kernel) (by decide +kernel) (by decide +kernel)
 (by first | exact .inr (by decide +kernel) | exact .inl (by decide +kernel)) (by rw[aa7];kernel_rfl)
def acY:Slot "reversed" "__next__" "reversed.__next__":=.of (owner:="reversed") (n:="__next__") (by rw[aax,ZR];kernel_rfl) (by decide +kernel) (by decide +kernel) (by decide +kernel)
 (by first | exact .inr (by decide +kernel) | exact .inl (by decide +kernel)) (by rw[aa7];kernel_rfl)
def yx:Slot "reversed" "__iter__" "reversed.__iter__":=.of (owner:="reversed") (n:="__iter__") (by rw[aax,ZR];kernel_rfl) (by decide +kernel) (by decide +kernel) (by decide +kernel)
 (by first | exact .inr (by decide +kernel) | exact .inl (by decide +kernel)) (by rw[aa7];kernel_rfl)
def adp:Slot "reversed" "__length_hint__" "reversed.__length_hint__":=.of (owner:="reversed") (n:="__length_hint__") (by rw[aax,ZR];kernel_rfl) (by decide +kernel) (by decide +kernel) (by decide +kernel)
 (by first | exact .inr (by decide +kernel) | exact .inl (by decide +kernel)) (by rw[aa7];kernel_rfl)
def vP:Manifest.owners.lookup (String.ofList ['d','e','s','r','e','v','e','r'].reverse)=some Manifest.sig_reversed:=by kernel_rfl
def o9:entryFor table "reversed.__next__"=some Builtin.«reversed.__next__»:=entryFor_of_tree (by kernel_rfl)
def z7:entryFor table "reversed.__length_hint__"=some Builtin.«reversed.__length_hint__»:=entryFor_of_tree (by kernel_rfl)
def z8:entryFor table "reversed.__iter__"=some Builtin.«dict_keyiterator.__iter__» :=
 entryFor_alias (id':="dict_keyiterator.__iter__") (by kernel_rfl) (by first | rfl | decide +kernel | (unfold String.splitOn;simp +decide [String.splitOnAux])) (by decide +kernel) (by kernel_rfl)
def ph (a:Value):argsOk "reversed.__next__" ⟨[a],[]⟩:=by
 unfold argsOk;rw[signature?_of (id:="reversed.__next__") (n:=['_','_','t','x','e','n','_','_']) (o:=['d','e','s','r','e','v','e','r']) (by kernel_rfl) vP];kernel_rfl
def z9 (a:Value):argsOk "reversed.__iter__" ⟨[a],[]⟩:=by
 unfold argsOk;rw[signature?_of (id:="reversed.__iter__") (n:=['_','_','r','e','t','i','_','_']) (o:=['d','e','s','r','e','v','e','r']) (by kernel_rfl) vP];kernel_rfl
def Aa (a:Value):argsOk "reversed.__length_hint__" ⟨[a],[]⟩:=by
 unfold argsOk;rw[signature?_of (id:="reversed.__length_hint__") (n:=['_','_','t','n','i','h','_','h','t','g','n','e','l','_','_']) (o:=['d','e','s','r','e','v','e','r']) (by kernel_rfl) vP];kernel_rfl
def Dt:typeLookup (.type "reversed") "__len__"=pure none:=by rw[aax,ZR];kernel_rfl
def Nm (t:Addr) (i:Int):Obj:={ cls:=.type "reversed",data:=.fields #[.ref t,rawInt i]}
def acX (h:Heap) (a t:Addr) (i:Int):Prop:=∃o,h.get? a=some o/\o.cls=.type "reversed"/\o.data=.fields #[.ref t,rawInt i]
def acX.ty {s:Shared} (x:acX s.heap a t i):s.TypeIs (.ref a) "reversed":=let ⟨o,ho,hc,_⟩:=x;⟨o,ho,hc⟩
def nW (t:Addr) (c:Array Value) (hsz:c.size<=sizeLine):Meets (Builtin.«reversed.__new__» ⟨[.type "reversed",.ref t],[]⟩) (fun _ R s=>s.heap.IsTuple t c /\
   ∀tk,s.toks<=tk->R (.ok (.ret (.ref s.heap.objs.size))) { s with heap:=s.heap.push (Nm t ((c.size:Int) - 1)),toks:=tk}) :=
 .of_wp fun prog w A R s h=>by
  obtain⟨d,h⟩:=h;unfold Builtin.«reversed.__new__»;refine a_ (aaO (newClass_reversed _) ?_);try dsimp only
  refine a_ (aaO (a:=()) (by first | rfl | kernel_rfl) ?_);refine a_ (aaO (a:=()) (by first | rfl | kernel_rfl) ?_);try dsimp only
  refine a_ (aaW d.typeIs Ds ?_);try dsimp only
  refine a_ ?_;show wpAny _ A.in1 (isInstance (Value.ref t) (.type "dict") >>= fun b=>if b=true then pure false else specialOf (Value.ref t) "__getitem__" >>= fun o=>_) _ _ s;refine a_ (abv (b:=false) d.typeIs z6 ?_);rw[if_neg B_];refine a_ (aaW d.typeIs F.slot_tuple_getitem.lookup ?_);dsimp only;rw[if_pos (by decide +kernel)];refine h_ ?_;rw[if_neg (by decide)];refine a_ (len_tuple d (by have:=fK;omega) ?_);refine a_ (aaO (a:=some (c.size:Int)) rfl ?_);dsimp only;show wpAny _ _ (newObj (.type "reversed") (.fields #[.ref t,rawInt ((c.size:Int) - 1)]) >>= fun v=>ret v) _ _ _;refine a_ (Zw ?_);exact h_ ⟨_,rfl,h _ (by show s.toks<=s.toks+1+1;omega)⟩
def vQ:TypeCalled "reversed" "reversed.__new__" "object.__init__" :=
 ⟨by decide +kernel,by decide +kernel,⟨_,_,F.mro_reversed⟩,F.made_reversed,by decide +kernel,F.sub_reversed_self,JN⟩
def qp (d:s.heap.IsTuple t a) (hsz:a.size<=sizeLine) (h:∀tk,s.toks<=tk->Q (.ref s.heap.objs.size) { s with heap:=s.heap.push (Nm t ((a.size:Int) - 1)),toks:=tk}):
  wpAny (model prog w) A (call (.type "reversed") [.ref t]) Q E s:=by
 refine callType_new vQ (by decide) (F.typeCall_reversed_1 _) (F.newCall_reversed_1 _) (fun c=>F.args_object_init_2 c _) F.entry_reversed_new (nW t a hsz) ⟨d,fun tk b=>?_⟩;exact⟨⟨_,j_ _ rfl,rfl⟩,h tk b⟩
def JP {i:Nat} (c:acX s.heap it t (i:Int)) (f:s.heap.IsTuple t b) (hsz:b.size<=sizeLine) (g:b[i]?=some x) (h:∀h' tk,s.toks<=tk->acX h' it t ((i:Int) - 1)->Heap.SameBut it s.heap h'->Q (some x) { s with heap:=h',toks:=tk}):wpAny (model prog w) A (pyNext (.ref it)) Q E s:=by
 obtain⟨o,e,j,d⟩:=id c;have l:=(Zt.mp g).1;have:=fK;unfold pyNext;refine a_ (abl (Zz (name:=Str.ofString "__next__") c.ty acY
  (ZG acY c.ty o9 ?_ (ph _))))
 unfold Builtin.«reversed.__next__»;refine a_ (aaO (a:=(Value.ref it,[])) rfl ?_);try dsimp only
 refine a_ (T_ e d (x:=.ref t) rfl ?_);refine a_ (T_ e d (x:=rawInt (i:Int)) rfl ?_);show wpAny _ _ (if (i:Int)<0 then _ else _) _ _ s;rw[if_neg (by omega)];refine a_ (aaW f.typeIs F.slot_tuple_getitem.lookup ?_);rw[if_neg (by decide)];refine a_ (wpAny_mkInt ?_);refine a_ (abl (getItem_tuple (k:=i) f (by omega) (by omega) ?_ g ?_))
 ·simp [seqIndex?];omega
 refine a_ (T_ e d (x:=rawInt (i:Int)) rfl ?_);show wpAny _ _ (setField (.ref it) 1 (rawInt ((i:Int) - 1)) >>= fun _=>ret x) _ _ _;refine a_ (abw e d (by simp) ?_);refine h_ ⟨x,rfl,h_ (h _ _ (by show s.toks<=s.toks+1;omega) ?_ (Heap.SameBut.update ..))⟩;exact⟨_,ZL _ e (abJ (aaH d _)),(Obj.cls_mapFields ..).trans j,by
  rw[aaH d];simp⟩
def QZ (i:A.handled=none) (c:acX s.heap it t (-1)) (j:∀h',Heap.ExtBut it s.heap h'->Q none { s with heap:=h'}):wpAny (model prog w) A (pyNext (.ref it)) Q E s:=by
 obtain⟨o,f,l,d⟩:=id c;unfold pyNext;refine a_ (abl (Zz (name:=Str.ofString "__next__") c.ty acY
  (ZG acY c.ty o9 ?_ (ph _))))
 unfold Builtin.«reversed.__next__»;refine a_ (aaO (a:=(Value.ref it,[])) rfl ?_);try dsimp only
 refine a_ (T_ f d (x:=.ref t) rfl ?_);refine a_ (T_ f d (x:=rawInt (-1)) rfl ?_);show wpAny _ _ (if (-1:Int)<0 then _ else _) _ _ s;rw[if_pos (by decide)];refine a_ (ab4 ?_);refine a_ ?_;show wpAny _ _ (setField (.ref it) 1 (rawInt (-1)) >>= fun _=>setField (.ref it) 0 .none) _ _ s;refine a_ (abw f d (by simp) ?_);have k:=abJ (aaH d fun vs=>vs.setIfInBounds 1 (rawInt (-1)));have g:=ZL (Obj.mapFields fun vs=>vs.setIfInBounds 1 (rawInt (-1))) f k;refine abw g (aaH d _) (by simp) ?_;refine a_ ?_;show wpAny _ _ (newExc (.type "StopIteration") [] >>= _) _ _ _;refine a_ ?_;simp only[newExc,newTuple];refine a_ (Zw ?_ (by size_fits));refine a_ (m:=firstArgMember _ _) (aaO (a:=Value.none) (by first | rfl | (simp only[firstArgMember];rfl)) ?_);refine Zw ?_ (by size_fits);simp only[raiseNew];refine a_ (wpAny_handled ?_);first | rw[show A.in1.handled=none from i] | rw[i]
 refine a_ (h_ (wpAny_throw ?_));refine a_ (abv (T:="StopIteration") (b:=true) ⟨_,j_ _ rfl,rfl⟩ isSubtype_stop ?_);refine h_ (j _ fun b n h e=>?_);refine b_ _ (b_ _ ?_);exact (Y_ _ _ (Ne.symm h)).trans ((Y_ _ _ (Ne.symm h)).trans e)
def yz (a:acX s.heap it t i) (h:Q (.ref it) s):wpAny (model prog w) A (pyIter (.ref it)) Q E s:=by
 refine wpAny_pyIter_slot a.ty yx (ZG yx a.ty z8 ?_ (z9 _));show wpAny _ _ (ret (.ref it)) _ _ s;exact h_ ⟨_,rfl,"reversed",_,a.ty,acY.lookup,h⟩
def Du (B:A.handled=none) (I t:Addr) (m:t≠I) (a:Array Value) (hsz:a.size<=sizeLine):
  Walks prog w A I [I,t] [I] a.size (fun i v=>a[a.size - 1 - i]?=some v) (fun i h=>i<=a.size/\acX h I t ((a.size:Int) - 1 - (i:Int))/\h.IsTuple t a) where
 sub:=fun b k=>by rw[t_.mp k];exact l_
 frame:=fun _ _ _ x n=>by
  obtain⟨o,y,r⟩:=x.2.1
  exact⟨x.1,⟨o,n I (by simp) o y,r⟩,x.2.2.at fun o e=>n t (by simp) o e⟩
 item:=fun i s Q E u x f=>by
  have e:(a.size:Int) - 1 - (i:Int)=((a.size - 1 - i:Nat):Int):=by omega
  have c:=x.2.1
  rw[e] at c
  have p:a[a.size - 1 - i]?=some (a[a.size - 1 - i]'(by omega)):=aab (by omega)
  refine JP c x.2.2 hsz p fun h' tk z d g=>?_
  have q:((a.size - 1 - i:Nat):Int) - 1=(a.size:Int) - 1 - ((i+1:Nat):Int):=by omega
  rw[q] at d
  exact f _ h' tk p ⟨u,d,x.2.2.at fun o j=>(g.2 t m).trans j⟩ fun b o k j=>g.extBut b o (fun h=>k (by simp [h])) j
 done:=fun s Q E x f=>by
  have e:(a.size:Int) - 1 - (a.size:Int) = -1:=by omega
  have c:=x.2.1
  rw[e] at c
  exact QZ B c fun h' l=>f h' s.toks fun b o k j=>l b o (fun h=>k (by simp [h])) j
 self:=fun _ _ _ _ x f=>yz x.2.1 f
def Q0 (c:acX s.heap it t ((b.size:Int) - 1)) (g:s.heap.IsTuple t b) (hsz:b.size<=sizeLine) (f:∀u tk,s.toks<=tk->Q (.int (b.size:Int) u) { s with toks:=tk}):wpAny (model prog w) A (call (.builtin "reversed.__length_hint__") [.ref it]) Q E s:=by
 obtain⟨o,d,h,e⟩:=id c;have:=fK;refine ZG adp c.ty z7 ?_ (Aa _);unfold Builtin.«reversed.__length_hint__»;refine a_ (aaO (a:=Value.ref it) rfl ?_);refine a_ (T_ d e (x:=.ref t) rfl ?_);rw[if_neg (show ¬(Value.ref t==Value.none)=true from B_)];refine a_ (len_tuple g (by omega) ?_);refine a_ (aaO (a:=some (b.size:Int)) rfl ?_);dsimp only;refine a_ (T_ d e (x:=rawInt ((b.size:Int) - 1)) rfl ?_);show wpAny _ _ (if (b.size:Int)<(b.size:Int) - 1+1 then _ else _) _ _ _;rw[if_neg (by omega)];show wpAny _ _ (mkInt ((b.size:Int) - 1+1) >>= fun v=>ret v) _ _ _;refine a_ (wpAny_mkInt (h_ ⟨_,rfl,?_⟩));rw[show (b.size:Int) - 1+1=b.size from by omega];exact f _ _ (by show s.toks<=s.toks+1+1+1;omega)
def mJ:Obj:={ cls:=.type "list",data:=.seq ([]:List Value).toArray}
def vR (hh:A.handled=none) (P:t≠I) (hsz:d.size<=sizeLine) (q:acX s.heap I t ((d.size:Int) - 1)) (T:s.heap.IsTuple t d) (X:∀s' f,Moved [I] (fun a b=>b=a) s s'->ItemsOf (fun i v=>d[d.size - 1 - i]?=some v) f d.size->Q f.toList s'):wpAny (model prog w) A (collect (.ref I)) Q E s:=by
 have W:=(Du (prog:=prog) (w:=w) (A:=A.in1) hh I t P d hsz).toS;have l:I<s.heap.objs.size:=by obtain⟨o,M,_⟩:=q;exact m_ M
 have L:t<s.heap.objs.size:=by obtain⟨o,M,_⟩:=T;exact m_ M
 have D:s.heap.objs.size∉[I,t]:=fun p=>by
  rcases n_.mp p with e | e
  ·rw[<- e] at l;exact Zm _ l
  rw[<- t_.mp e] at L;exact Zm _ L
 have S:s.heap.objs.size≠I:=fun e=>by rw[<- e] at l;exact Zm _ l
 have st:(fun (i:Nat) (s:Shared)=>i<=d.size/\acX s.heap I t ((d.size:Int) - 1 - (i:Int))/\s.heap.IsTuple t d) 0 s:=⟨ZS _,by simpa using q,T⟩;unfold collect;refine a_ (wpAny_runValue (aaX F.entry_proto_collect ?_));rw[abM F.plain_proto_collect _];show wpAny _ A.in1 (newList [] >>= fun z=>again (.builtin "list.__iadd__" ⟨[z,.ref I],[]⟩)) _ _ s;refine a_ (Zw ?_);refine h_ ⟨abR F.plain_list_iadd _,aaX F.entry_list_iadd ?_⟩;rw[abM F.plain_list_iadd _];have h:=W.frame 0 s (s.heap.push mJ) s.toks st (k_ _) fun b _ o e=>b_ _ e;have N:(s.heap.push mJ).get? s.heap.objs.size=some mJ:=j_ _ rfl;show wpAny _ A.in1 (Builtin.List.listExtendWith (.ref s.heap.objs.size) (.ref I) (.ref s.heap.objs.size)) _ _ { s with heap:=s.heap.push mJ};unfold Builtin.List.listExtendWith;have k:({ s with heap:=s.heap.push mJ}:Shared).TypeIs (.ref I) "reversed":=acX.ty h.2.1;refine a_ (aa3 k ?_);have n1:Builtin.List.listSameRef (.ref s.heap.objs.size) (.ref I)=false:=by simp [Builtin.List.listSameRef,S]
 have n2:(Value.type "reversed"==Value.type "list")=false:=by decide
 have n3:(Value.type "reversed"==Value.type "tuple")=false:=by decide
 simp only[n1,n2,n3,Bool.or_false,C_,Zv];refine a_ (yz h.2.1 ?_);refine a_ (ZP ?_);unfold Builtin.List.listLengthHint;refine a_ (aaW k Dt ?_);show wpAny _ A.in1 (specialOf (Value.ref I) (Str.ofString "__length_hint__") >>= _) _ _ _;refine a_ (aaW k adp.lookup ?_);generalize m:("reversed.__length_hint__":String)=x
 (fail_if_success (clear m x))
 wp_delta
 rw[show splitId x=some ("reversed","__length_hint__") from by subst m;decide +kernel];subst m;refine a_ (abv (b:=true) k F.sub_reversed_self ?_);rw[if_neg (show ¬(!true)=true from B_)];dsimp only;rw[if_neg (by decide +kernel)];refine a_ (ab4 ?_);refine a_ (aaO (adp.bind _) ?_);dsimp only;have H:acX (s.heap.push mJ) I t ((d.size:Int) - 1):=by have:=h.2.1;simpa using this
 refine a_ (abl (Q0 H h.2.2 hsz fun u tk K=>?_));dsimp only;have e0:asInt? (Value.int (d.size:Int) u)=pure (some (d.size:Int)):=rfl;rw[e0,pure_bind];dsimp only;have V:Builtin.List.listFitsIndex (d.size:Int)=true:=by have:=fK;unfold Builtin.List.listFitsIndex;rw[Zq,q_,q_];omega
 have U:Builtin.List.listTooLong (d.size:Int).toNat=false:=by unfold Builtin.List.listTooLong;rw[aai,ZV];omega
 rw[V,U,if_neg (show ¬(!true)=true from B_),if_neg (show ¬((d.size:Int)<0) from by omega),if_neg B_];refine h_ ?_;have O:=W.frame 0 _ (s.heap.push mJ) tk h K fun b _ o e=>e;have C:∀(J:Heap),(∀b o,b≠s.heap.objs.size->(s.heap.push mJ).get? b=some o->J.get? b=some o)->(∃c,J.get? s.heap.objs.size=some { cls:=.type "list",dict:=none,data:=.seq #[] c,slots:=#[]}) ->
   codeAny (model prog w) A (.builtin "list.extend.loop" ⟨[.ref s.heap.objs.size,.ref I,.ref s.heap.objs.size],[]⟩) (fun r s'=>r=.ok (.ret (.ref s.heap.objs.size))/\∃f c,Moved [I] (fun a b=>b=a) s s'/\s'.heap.get? s.heap.objs.size=some { cls:=.type "list",dict:=none,data:=.seq f c,slots:=#[]}/\ItemsOf (fun i v=>d[d.size - 1 - i]?=some v) f d.size) { s with heap:=J,toks:=tk}:=fun J Y ⟨c,k2⟩=>by
  refine codeAny_extend_loopS W hsz _ D _ d.size 0 _ _ _ rfl (ZS _) (W.frame 0 ({ s with heap:=s.heap.push mJ,toks:=tk}:Shared) J tk O (k_ _) fun b n o e=>Y b o (fun z=>D (z▸n)) e) k2 (ItemsOf.nil _) fun s' y Z p j g=>⟨rfl,y,Z,?_,j,g⟩
  refine Moved.drop_new (o:=mJ) (tk:=tk) (Moved.trans W.gtrans ((Moved.refl (G:=fun a b=>b=a) fun _=>rfl).then_heap (s':={ s with heap:=s.heap.push mJ,toks:=tk}) (k_ _) fun b o n e=>?_) p) K
  exact Y b o (fun z=>n (z▸l_)) e
 clear V U;split
 ·refine a_ (ab4 ?_);refine a_ ?_;show wpAny _ A.in1 (updateSeq s.heap.objs.size (·.push .none) >>= fun _=>updateSeq s.heap.objs.size (·.pop)) _ _ _;refine a_ (wpAny_updateSeq N rfl ?_);have B:=ZL (Obj.mapSeq (·.push Value.none)) N rfl;refine wpAny_updateSeq B rfl ?_;have R:=ZL (Obj.mapSeq (·.pop)) B rfl;refine h_ ⟨abR F.plain_extend_loop _,abg (C _ (fun b o n e=>(Y_ _ _ (Ne.symm n)).trans ((Y_ _ _ (Ne.symm n)).trans e)) ⟨_,R⟩) ?_⟩;rintro r s' ⟨rfl,f,c,p,j,g⟩;show wpAny _ A (load s.heap.objs.size >>= _) _ _ s';exact a_ (wpAny_load j (h_ (X s' f p g)))
 refine h_ ⟨abR F.plain_extend_loop _,abg (C _ (fun b o n e=>e) ⟨_,N⟩) ?_⟩;rintro r s' ⟨rfl,f,c,p,j,g⟩;show wpAny _ A (load s.heap.objs.size >>= _) _ _ s';exact a_ (wpAny_load j (h_ (X s' f p g)))
def Dv {a b:Array Value}(h:ItemsOf (fun i v=>a[a.size - 1 - i]?=some v) b a.size):b=a.reverse:=by
 refine Array.ext (by rw[h.1];simp) fun j c e=>?_;have q:a[a.size - 1 - j]?=some b[j]:=h.2 j b[j] (aab c);have d:j<a.size:=by rw[<- h.1];exact c
 rw[aab (by omega)] at q;rw[Array.getElem_reverse];exact (D_ q).symm
def nY (I t:Addr) (c:Array Value) (hsz:c.size<=sizeLine) (f:t≠I) :
  Meets (Builtin.«tuple.__new__» ⟨[.type "tuple",.ref I],[]⟩)
   (fun A R s=>A.handled=none/\acX s.heap I t ((c.size:Int) - 1)/\s.heap.IsTuple t c/\∀s',Moved [I] (fun a b=>b=a) s s'->R (.ok (.ret (.ref s'.heap.objs.size))) { s' with heap:=s'.heap.push { cls:=.type "tuple",data:=.seq c.reverse}}) :=
 .of_wp fun prog w A R s h=>by
  obtain⟨x,g,d,tk,u⟩:=s;obtain⟨q,k,m,h⟩:=h;have l:=sub_tuple_self;have i:=init_tuple_lookup;have n:=madeHere_tuple;have p:Shared.TypeIs ⟨x,g,d,tk,u⟩ (.ref I) "reversed":=acX.ty k;have j:=k;obtain⟨o,j,z,B⟩:=j
  wp_walk using aaN j,aa3 p,vR (A:=A.in1) q f hsz k m
  intro s' y r e;rw[Dv e];show wpAny _ _ (Builtin.Tuple.tupleExact c.reverse.toList.toArray >>= fun v=>ret v) _ _ _;unfold Builtin.Tuple.tupleExact;refine a_ (Zw ?_ (by show c.reverse.toList.toArray.size<=sizeLine;simpa using hsz));refine h_ ⟨_,rfl,?_⟩;rw[show c.reverse.toList.toArray=c.reverse from Array.toArray_toList];exact h s' r
section
variable {prog:Program}{E:Value->Shared->Prop}
def qt (g:A.handled=none) (e:t≠I) (hsz:c.size<=sizeLine) (j:acX s.heap I t ((c.size:Int) - 1)) (f:s.heap.IsTuple t c) (h:∀s',Moved [I] (fun a b=>b=a) s s'->Q (.ref s'.heap.objs.size) { s' with heap:=s'.heap.push { cls:=.type "tuple",data:=.seq c.reverse}}):
  wpAny (model prog w) A (call (.type "tuple") [.ref I]) Q E s :=
 callType_new F.called_tuple (by decide) (F.typeCall_tuple_1 _) (F.newCall_tuple_1 _) (fun d=>F.args_object_init_2 d _) F.entry_tuple_new
  (nY I t c hsz e) ⟨g,j,f,fun s' i=>⟨⟨_,j_ _ rfl,rfl⟩,h s' i⟩⟩
variable {X:Cx}{p1 p2 pos pos':Pos}
def JQ (te:TE):TE:=fun Z H Q=>te Z H fun x a=>∃p ys,x=.ref p/\SqT X.K a p ys/\∀l,a l=none->Q (.ref l) (upd a l (.tup ys.reverse))
def Ab (R:X.calm=true) (g:Gl X "tuple") (j:X.mg "tuple"=none) (l:Gl X "reversed") (t:X.mg "reversed"=none) (i:bootBuiltins "tuple"=some (.type "tuple")) (A:bootBuiltins "reversed"=some (.type "reversed")) (S:PE X e te)
  (G:starEach [e] X.env=(false,eval e X.env)::starEach [] X.env:=by rfl) (v:(backTo pos (starEach [] X.env)).any (·.1)=false:=by rfl) (d:(backTo pos' (starEach [] X.env)).any (·.1)=false:=by rfl) :
  PE X (.Call (.Name "tuple" p1) [.Call (.Name "reversed" p2) [e] [] pos'] [] pos) (JQ (X:=X) te):=by
 intro a s Z H Q I h;refine ZF (dB I g j i ?_ (by decide) (by decide));refine Zj ?_ rfl v;show wpAny _ _ (spliced ((false,eval (.Call (.Name "reversed" p2) [e] [] pos') X.env)::backTo pos (starEach [] X.env))) _ _ s;refine aac ?_;refine ZF (dB I l t A ?_ (by decide) (by decide));refine Zj ?_ G d;rw[G];show wpAny _ _ (spliced ((false,eval e X.env)::backTo pos' (starEach [] X.env))) _ _ s;refine aac (Fl (S a s Z H _ I h) fun u s1 ⟨x,F,y,K,p,ys,T,P,q⟩=>?_);subst T;cases K;obtain⟨c,B,k,O⟩:=y.tuple P;have C:=B.length;have hsz:c.toArray.size<=sizeLine:=by simp only[v_];omega
 refine aas ?_;refine qp k hsz fun tk N=>?_;refine aas ?_;have m:p≠s1.heap.objs.size:=fun z=>by obtain⟨o,n,_⟩:=k;have:=m_ n;rw[z] at this;exact Zm _ this
 refine qt (y.ok.hd R) m hsz ⟨_,j_ _ rfl,rfl,rfl⟩ (let ⟨o,n,r⟩:=k;⟨o,b_ _ n,r⟩) fun s' f=>?_;have M:∀b u,s1.heap.get? b=some u->s'.heap.get? b=some u:=fun b u E=>f.heap b u (fun z=>by
  have:=m_ E
  rw[t_.mp z] at this
  exact Zm _ this) (b_ _ E)
 have L:s'={ s1 with heap:=s'.heap,toks:=s'.toks}:=by
  obtain⟨V,U,Y,W,a5⟩:=s';have:=f.gens;have:=f.drawn;have:=f.os
  simp_all
 have D:Inv X a Z F { s1 with heap:=s'.heap,toks:=s'.toks}:=y.kept M;have J:Inv X a Z (upd F s'.heap.objs.size (.tup ys.reverse)) { s1 with heap:=s'.heap.push { cls:=.type "tuple",data:=.seq c.toArray.reverse},toks:=s'.toks} :=
  D.laid (t':=s'.toks) (fun b o e=>b_ _ e) (k_ _) (show vy X.prog X.w _ _ _ (.tup ys.reverse) from ⟨by simpa using O,c.reverse,B.reverse,by simpa using ac6.new _ _⟩)
 rw[L];exact⟨.ref s'.heap.objs.size,_,J,rfl,q _ (D.hok.fresh (k_ _))⟩
def tG (te:Ho):Ho:=fun Z H Q=>te Z H fun x a=>match x with
 |.tup xs=>Q (.tup xs.reverse) a
 |_=>False
def Ac {te:Ho}(y:X.calm=true) (c:Gl X "tuple") (d:X.mg "tuple"=none) (g:Gl X "reversed") (m:X.mg "reversed"=none) (z:xr X e te)
  (u:starEach [e] X.env=(false,eval e X.env)::starEach [] X.env:=by rfl) (n:(backTo pos (starEach [] X.env)).any (·.1)=false:=by rfl) (b:(backTo pos' (starEach [] X.env)).any (·.1)=false:=by rfl) :
  xr X (.Call (.Name "tuple" p1) [.Call (.Name "reversed" p2) [e] [] pos'] [] pos) (tG te):=by
 refine PE.imp (Ab y c d g m bC (by decide +kernel) z u n b) ?_;rintro Z H Q ⟨A,H3,B,o,s,h,k⟩;refine⟨A,H3,_,o,s,h,fun v H' t i x j r q=>?_⟩;cases t with
 |tup ts=>obtain⟨a,ys,rfl,w,p⟩:=r.tup;exact⟨a,ys,rfl,w,fun l f=>k _ _ _ _ (x.trans (aK f)) (j.new f) (g8.newTup (H3:=i) f p.reverse) q⟩
 |_=>exact q.elim
def Dw (te:Ho) {Z:St3}{H:gb}{Q:v6}:tG te Z H Q=te Z H fun x a=>match x with
 |.tup xs=>Q (.tup xs.reverse) a
 |_=>False:=rfl
def JR (b:s.heap.IsTupleIter it t i) (h:s.heap.IsTuple t a) (k:a[i]?=some x) (g:∀h',h'.IsTupleIter it t (i+1)->Heap.SameBut it s.heap h'->Q x { s with heap:=h'}):wpAny (model prog w) A (Builtin.SmallTypes.nextOf (.ref it)) Q E s:=by
 obtain⟨o,d,j,c⟩:=id b;obtain⟨m,f,_,l,e⟩:=h;unfold Builtin.SmallTypes.nextOf;refine a_ (Zz (name:=Str.ofString "__next__") b.typeIs aa8
  (ZG aa8 b.typeIs F.entry_tuple_iterator_next ?_ (F.args_tuple_iterator_next_1 _)))
 show wpAny _ _ (field (.ref it) 0 >>= _) _ _ s;refine a_ (T_ d c (x:=.ref t) rfl ?_);show wpAny _ _ (if (Value.ref t==Value.none)=true then _ else _) _ _ s;rw[if_neg (show ¬((Value.ref t==Value.none)=true) from B_)];show wpAny _ _ (field (.ref it) 1 >>= _) _ _ s;refine a_ (T_ d c (x:=.int i 0) rfl ?_);show wpAny _ _ (seqItems? (.ref t) >>= _) _ _ s;refine a_ (aak f e ?_);simp only[ZV,k];refine a_ (abw d c (by simp) (h_ ⟨x,rfl,h_ (g _ ?_ (Heap.SameBut.update ..))⟩));refine⟨_,ZL _ d (abJ (aaH c _)),(Obj.cls_mapFields ..).trans j,?_⟩;rw[aaH c];simp [rawInt]
def Dy (j:A.handled=none) (c:s.heap.IsTupleIter it t i) (k:s.heap.IsTuple t b) (n:b[i]?=none) (l:∀h' e,Heap.ExtBut it s.heap h'->(∃o,h'.get? e=some o/\o.cls=.type "StopIteration")->E (.ref e) { s with heap:=h'}):wpAny (model prog w) A (Builtin.SmallTypes.nextOf (.ref it)) Q E s:=by
 obtain⟨o,d,p,h⟩:=id c;obtain⟨r,g,_,q,f⟩:=k;unfold Builtin.SmallTypes.nextOf;refine a_ (Zz (name:=Str.ofString "__next__") c.typeIs aa8
  (ZG aa8 c.typeIs F.entry_tuple_iterator_next ?_ (F.args_tuple_iterator_next_1 _)))
 show wpAny _ _ (field (.ref it) 0 >>= _) _ _ s;refine a_ (T_ d h (x:=.ref t) rfl ?_);show wpAny _ _ (if (Value.ref t==Value.none)=true then _ else _) _ _ s;rw[if_neg (show ¬((Value.ref t==Value.none)=true) from B_)];show wpAny _ _ (field (.ref it) 1 >>= _) _ _ s;refine a_ (T_ d h (x:=.int i 0) rfl ?_);show wpAny _ _ (seqItems? (.ref t) >>= _) _ _ s;refine a_ (aak g f ?_);simp only[ZV,n];refine a_ (ab4 (a_ (abw d h (by simp) ?_)));show wpAny _ _ (newExc (.type "StopIteration") [] >>= _) _ _ _;refine a_ ?_;simp only[newExc,newTuple];refine a_ (Zw ?_ (by size_fits));refine a_ (m:=firstArgMember _ _) (aaO (a:=Value.none) (by first | rfl | (simp only[firstArgMember];rfl)) ?_);refine Zw ?_ (by size_fits);simp only[raiseNew];refine a_ (wpAny_handled ?_);first | rw[show A.in1.handled=none from j] | rw[j]
 refine a_ (h_ (wpAny_throw ?_));exact l _ _ (((Heap.SameBut.update ..).extBut.push _).push _) ⟨_,j_ _ rfl,rfl⟩
end
def Dz (l:A.handled=none) (it t:Addr) (d:t≠it) (a:Array Value):
  Draws prog w A it [it,t] a.size (fun i v=>a[i]?=some v) (fun i h=>h.IsTupleIter it t i/\h.IsTuple t a) where
 live:=fun _ _ st=>let ⟨o,ho,_⟩:=st.1;⟨o,ho⟩
 frame:=fun _ _ _ st g=>⟨st.1.at fun o e=>g it (by simp) o e,st.2.at fun o e=>g t (by simp) o e⟩
 item:=fun i s Q E f st j=>by
  refine JR st.1 st.2 (x:=a[i]) (by simp [f]) fun h' c b=>?_
  exact j _ h' s.toks (by simp [f]) ⟨c,st.2.extBut b.extBut d⟩ b
 done:=fun s Q E st k=>Dy l st.1 st.2 (by simp) k
structure ZAp (z ti to i1 i2:Addr) (f1 f2:List Addr):Prop where
 ne:ti≠z/\to≠z/\ti≠to/\i1≠i2
 m1:i1∈f1
 m2:i2∈f2
 n1:z∉f1/\ti∉f1/\to∉f1/\i2∉f1
 n2:z∉f2/\ti∉f2/\to∉f2/\i1∉f2
def ZAp.i1z (D:ZAp z ti to i1 i2 f1 f2):i1≠z:=fun e=>D.n1.1 (e▸D.m1)
def ZAp.i2z (D:ZAp z ti to i1 i2 f1 f2):i2≠z:=fun e=>D.n2.1 (e▸D.m2)
def ZAp.i1ti (D:ZAp z ti to i1 i2 f1 f2):i1≠ti:=fun e=>D.n1.2.1 (e▸D.m1)
def ZAp.i2ti (D:ZAp z ti to i1 i2 f1 f2):i2≠ti:=fun e=>D.n2.2.1 (e▸D.m2)
def ZAp.i1to (D:ZAp z ti to i1 i2 f1 f2):i1≠to:=fun e=>D.n1.2.2.1 (e▸D.m1)
def ZAp.i2to (D:ZAp z ti to i1 i2 f1 f2):i2≠to:=fun e=>D.n2.2.2.1 (e▸D.m2)
def z_item {Q:Value->Shared->Prop} (Z:Draws prog w A i1 f1 n1 P1 S1) (V:Draws prog w A i2 f2 n2 P2 S2) (D:ZAp z ti to i1 i2 f1 f2) (O:IsZip s.heap z ti to .none) (hI:IsPair s.heap ti (.ref i1) (.ref i2)) (hO:IsPair s.heap to a b) (h1:S1 k s.heap) (h2:S2 k s.heap) (k1:k<n1) (k2:k<n2) (hQ:∀x y h' tk,P1 k x->P2 k y->IsZip h' z ti to (rawInt s.heap.objs.size)->IsPair h' to x y->S1 (k+1) h'->S2 (k+1) h'->IsPair h' s.heap.objs.size x y->h'.objs.size=s.heap.objs.size+1 ->
   (∀c o,c∉[z,to,i1,i2]->s.heap.get? c=some o->h'.get? c=some o)->Q (.ref s.heap.objs.size) { s with heap:=h',toks:=tk}):
  wpAny (model prog w) A (Builtin.«zip.__next__» ⟨[.ref z],[]⟩) (fun fin s'=>∃v,fin=.done (.ret v)/\Q v s') E s:=by
 show wpAny _ _ (field (.ref z) 2 >>= _) _ _ _;refine a_ (T_ O rfl (x:=.bool false) rfl ?_);show wpAny _ _ (field (.ref z) 3 >>= _) _ _ _;refine a_ (T_ O rfl (x:=.ref ti) rfl ?_);refine a_ (aak hI rfl ?_);show wpAny _ _ (Builtin.SmallTypes.ownedTupleIsFree (.ref z) >>= _) _ _ _;refine a_ ?_;unfold Builtin.SmallTypes.ownedTupleIsFree;refine a_ (T_ O rfl (x:=.none) rfl (h_ ?_));try simp only[if_true]
 refine a_ (ab4 ?_);refine a_ (T_ O rfl (x:=.ref to) rfl ?_);refine a_ (aaI O (by simp) fun ha F j=>?_);replace F:IsZip ha z ti to .ellipsis:=F;refine a_ ?_;simp only[List.zipIdx_cons,List.zipIdx_nil,abG,abY];refine a_ (a_ (wpAny_onRaise ?_));show wpAny _ _ (Builtin.SmallTypes.nextOf (.ref i1) >>= _) _ _ _;have r:∀{i:Nat} {h h':Heap} {c:Addr},S1 i h->Heap.SameBut c h h'->c∉f1->S1 i h':=fun st sb X=>Z.frame _ _ _ st fun b t o e=>(sb.2 b fun q=>X (q▸t)).trans e;have p:∀{i:Nat} {h h':Heap} {c:Addr},S2 i h->Heap.SameBut c h h'->c∉f2->S2 i h':=fun st sb X=>V.frame _ _ _ st fun b t o e=>(sb.2 b fun q=>X (q▸t)).trans e;refine a_ (Z.item k _ _ _ k1 (r h1 j D.n1.1) fun x t tb px T n=>h_ ?_);have R:IsPair t to a b:=(n.2 to (Ne.symm D.i1to)).trans ((j.2 to D.ne.2.1).trans hO);refine a_ (aak R rfl ?_);refine a_ (wpAny_updateSeq_pair R fun f C l=>?_);replace C:IsPair f to x b:=C;refine a_ (wpAny_letGo (h_ ?_));refine a_ (a_ (wpAny_onRaise ?_));show wpAny _ _ (Builtin.SmallTypes.nextOf (.ref i2) >>= _) _ _ _;have s2c:S2 k f:=p (p (p h2 j D.n2.1) n D.n2.2.2.2) l D.n2.2.2.1;refine a_ (V.item k _ _ _ k2 s2c fun y hd td py Y g=>h_ ?_);have P:IsPair hd to x b:=(g.2 to (Ne.symm D.i2to)).trans C;refine a_ (aak P rfl ?_);refine a_ (wpAny_updateSeq_pair P fun d u m=>?_);replace u:IsPair d to x y:=u;refine a_ (wpAny_letGo (h_ (h_ ?_)));refine a_ (aak u rfl ?_);refine a_ (wpAny_newTuple ?_);have hsz:d.objs.size=s.heap.objs.size:=by rw[m.1,g.1,l.1,n.1,j.1]
 have K:IsZip d z ti to .ellipsis:=(m.2 z (Ne.symm D.ne.2.1)).trans ((g.2 z (Ne.symm D.i2z)).trans ((l.2 z (Ne.symm D.ne.2.1)).trans ((n.2 z (Ne.symm D.i1z)).trans F)));have hke:∀c o,c∉[z,to,i1,i2]->s.heap.get? c=some o->d.get? c=some o:=fun c o f e=>by simp only[n_,L_,aaa,not_or] at f;exact (m.2 c f.2.1).trans ((g.2 c f.2.2.2).trans ((l.2 c f.2.1).trans ((n.2 c f.2.2.1).trans ((j.2 c f.1).trans e))))
 have s1e:S1 (k+1) d:=r (r (r T l D.n1.2.2.1) g D.n1.2.2.2) m D.n1.2.2.1;have U:S2 (k+1) d:=p Y m D.n2.2.2.1;have M:z<d.objs.size:=m_ K;show wpAny _ _ (Builtin.SmallTypes.ownedTupleHandOut (.ref z) (.ref d.objs.size) >>= _) _ _ _;refine a_ ?_;unfold Builtin.SmallTypes.ownedTupleHandOut;have W:IsZip (d.push { cls:=.type "tuple",data:=.seq #[x,y]}) z ti to .ellipsis:=b_ _ K;refine a_ (aaI W (by simp) fun hg I G=>?_);replace I:IsZip hg z ti to (rawInt d.objs.size):=I;refine aaI I (by simp) fun N B H=>?_;replace B:IsZip N z ti to (rawInt d.objs.size):=B;have S:∀c o,c≠z->d.get? c=some o->N.get? c=some o:=fun c o c1 e=>(H.2 c c1).trans ((G.2 c c1).trans (b_ _ e));have J:IsPair N d.objs.size x y:=(H.2 _ (Ze M)).trans ((G.2 _ (Ze M)).trans (j_ _ rfl));have L:N.objs.size=d.objs.size+1:=by rw[H.1,G.1,aad]
 rw[hsz] at B J L;refine h_ ⟨_,rfl,?_⟩;show Q (.ref d.objs.size) _;rw[hsz];exact hQ x y N _ px py B (S _ _ D.ne.2.1 u) (Z.frame _ _ _ s1e fun b t o e=>S b o (fun q=>D.n1.1 (q▸t)) e) (V.frame _ _ _ U fun b t o e=>S b o (fun q=>D.n2.1 (q▸t)) e) J L fun c o f e=>S c o (fun q=>f (q▸l_)) (hke c o f e)
def z_end (I:Draws prog w A i1 f1 n1 P1 S1) (M:Draws prog w A i2 f2 n2 P2 S2) (D:ZAp z ti to i1 i2 f1 f2) (y:IsZip s.heap z ti to .none) (Z:IsPair s.heap ti (.ref i1) (.ref i2)) (Y:IsPair s.heap to a b) (O:S1 k s.heap) (U:S2 k s.heap) (S:k=n1\/(k<n1/\k=n2)) (N:∀h' e tk,(∀c o,c∉[z,to,i1,i2]->s.heap.get? c=some o->h'.get? c=some o)->(∃o,h'.get? e=some o/\o.cls=.type "StopIteration")->E (.ref e) { s with heap:=h',toks:=tk}):
  wpAny (model prog w) A (Builtin.«zip.__next__» ⟨[.ref z],[]⟩) Q E s:=by
 show wpAny _ _ (field (.ref z) 2 >>= _) _ _ _;refine a_ (T_ y rfl (x:=.bool false) rfl ?_);show wpAny _ _ (field (.ref z) 3 >>= _) _ _ _;refine a_ (T_ y rfl (x:=.ref ti) rfl ?_);refine a_ (aak Z rfl ?_);show wpAny _ _ (Builtin.SmallTypes.ownedTupleIsFree (.ref z) >>= _) _ _ _;refine a_ ?_;unfold Builtin.SmallTypes.ownedTupleIsFree;refine a_ (T_ y rfl (x:=.none) rfl (h_ ?_));try simp only[if_true]
 refine a_ (ab4 ?_);refine a_ (T_ y rfl (x:=.ref to) rfl ?_);refine a_ (aaI y (by simp) fun X n j=>?_);replace n:IsZip X z ti to .ellipsis:=n;refine a_ ?_;simp only[List.zipIdx_cons,List.zipIdx_nil,abG,abY];refine a_ (a_ (wpAny_onRaise ?_));show wpAny _ _ (Builtin.SmallTypes.nextOf (.ref i1) >>= _) _ _ _;have v:∀{i:Nat} {h h':Heap} {c:Addr},S1 i h->Heap.SameBut c h h'->c∉f1->S1 i h':=fun st K d=>I.frame _ _ _ st fun b r o e=>(K.2 b fun q=>d (q▸r)).trans e;have p:∀{i:Nat} {h h':Heap} {c:Addr},S2 i h->Heap.SameBut c h h'->c∉f2->S2 i h':=fun st K d=>M.frame _ _ _ st fun b r o e=>(K.2 b fun q=>d (q▸r)).trans e;rcases S with rfl | ⟨W,rfl⟩
 ·refine a_ (I.done _ _ _ (v O j D.n1.1) fun r e g ⟨H,f,m⟩=>?_);have B:IsZip r z ti to .ellipsis:=g z _ (Ne.symm D.i1z) n;have t:e≠z:=fun x=>by subst x;rw[B] at f;cases f;simp at m
  refine aaI B (by simp) fun L _ l=>N L e _ (fun c o d x=>?_) ⟨H,(l.2 e t).trans f,m⟩;simp only[n_,L_,aaa,not_or] at d;exact (l.2 c d.1).trans (g c _ d.2.2.1 ((j.2 c d.1).trans x))
 refine a_ (I.item k _ _ _ W (v O j D.n1.1) fun x r tb px P g=>h_ ?_);have F:IsPair r to a b:=(g.2 to (Ne.symm D.i1to)).trans ((j.2 to D.ne.2.1).trans Y);refine a_ (aak F rfl ?_);refine a_ (wpAny_updateSeq_pair F fun L R l=>?_);refine a_ (wpAny_letGo (h_ ?_));refine a_ (a_ (wpAny_onRaise ?_));show wpAny _ _ (Builtin.SmallTypes.nextOf (.ref i2) >>= _) _ _ _;have J:S2 k L:=p (p (p U j D.n2.1) g D.n2.2.2.2) l D.n2.2.2.1;refine a_ (M.done _ _ _ J fun V e u ⟨H,f,m⟩=>?_);have G:IsZip V z ti to .ellipsis:=u z _ (Ne.symm D.i2z) ((l.2 z (Ne.symm D.ne.2.1)).trans ((g.2 z (Ne.symm D.i1z)).trans n));have t:e≠z:=fun x=>by subst x;rw[G] at f;cases f;simp at m
 refine aaI G (by simp) fun T _ C=>N T e _ (fun c o d x=>?_) ⟨H,(C.2 e t).trans f,m⟩;simp only[n_,L_,aaa,not_or] at d;exact (C.2 c d.1).trans (u c _ d.2.2.2 ((l.2 c d.2.1).trans ((g.2 c d.2.2.1).trans ((j.2 c d.1).trans x))))
def yC (i:Draws prog w A.in1 i1 f1 n1 P1 S1) (h:Draws prog w A.in1 i2 f2 n2 P2 S2) (D:ZAp z ti to i1 i2 f1 f2) (e:IsZip s.heap z ti to .none) (H:IsPair s.heap ti (.ref i1) (.ref i2)) (C:IsPair s.heap to a b) (l:S1 k s.heap) (r:S2 k s.heap) (v:k<n1) (m:k<n2) (n:∀x y h' tk,P1 k x->P2 k y->IsZip h' z ti to (rawInt s.heap.objs.size)->IsPair h' to x y->S1 (k+1) h'->S2 (k+1) h'->IsPair h' s.heap.objs.size x y->h'.objs.size=s.heap.objs.size+1 ->
   (∀c o,c∉[z,to,i1,i2]->s.heap.get? c=some o->h'.get? c=some o)->Q (some (.ref s.heap.objs.size)) { s with heap:=h',toks:=tk}):wpAny (model prog w) A (pyNext (.ref z)) Q E s:=by
 have d:s.TypeIs (.ref z) "zip":=⟨_,e,rfl⟩;unfold pyNext;exact a_ (abl (Zz (name:=Str.ofString "__next__") d aaY
  (ZG aaY d F.entry_zip_next (z_item i h D e H C l r v m fun x y h' tk q p u t B G g f j=>h_ (n x y h' tk q p u t B G g f j)) (abZ _))))
def DG (l:Draws prog w A.in1 i1 f1 n1 P1 S1) (m:Draws prog w A.in1 i2 f2 n2 P2 S2) (D:ZAp z ti to i1 i2 f1 f2) (f:IsZip s.heap z ti to .none) (r:IsPair s.heap ti (.ref i1) (.ref i2)) (j:IsPair s.heap to a b) (t:S1 k s.heap) (p:S2 k s.heap) (n:k=n1\/(k<n1/\k=n2)) (g:∀h' tk,(∀c o,c∉[z,to,i1,i2]->s.heap.get? c=some o->h'.get? c=some o)->Q none { s with heap:=h',toks:=tk}):wpAny (model prog w) A (pyNext (.ref z)) Q E s:=by
 have d:s.TypeIs (.ref z) "zip":=⟨_,f,rfl⟩;unfold pyNext;refine a_ (abl (Zz (name:=Str.ofString "__next__") d aaY
  (ZG aaY d F.entry_zip_next (z_end l m D f r j t p n fun h' e tk i ⟨o,q,h⟩=>?_) (abZ _))))
 refine a_ (abv (T:="StopIteration") (b:=true) ⟨o,q,h⟩ isSubtype_stop ?_);exact h_ (g _ _ i)
abbrev Np (t:Addr):Obj:={ cls:=.type "tuple_iterator",data:=.fields #[.ref t,.int 0 0]}
def DK (f:A.handled=none) (it t:Addr) (g:t≠it) (a:Array Value) (k:Nat) (b:a[k]?=none):
  Draws prog w A it [it,t] k (fun _ _=>True) (fun i h=>i=k/\h.IsTupleIter it t i/\h.IsTuple t a) where
 live:=fun _ _ st=>let ⟨o,ho,_⟩:=st.2.1;⟨o,ho⟩
 frame:=fun _ _ _ st b=>⟨st.1,st.2.1.at fun o e=>b it (by simp) o e,st.2.2.at fun o e=>b t (by simp) o e⟩
 item:=fun i s Q E d st j=>absurd st.1 (G_ d)
 done:=fun s Q E st c=>Dy f st.2.1 st.2.2 b c
section
variable {X:Cx}{pins:List (Addr × Obj)}{Z:L2.St}
def iJ {ch:List Addr} (I:Inv X pins Z H s) (k:∀b o,b∉ch->s.heap.get? b=some o->h'.get? b=some o) (f:∀b∈ch,lU X pins H b):Inv X pins Z H { s with heap:=h',toks:=t'}:=by
 have d:∀b u,H b=some u->b∉ch:=fun b u e z=>by rw[(f b z).1] at e;cases e
 refine I.step (g':=s.gens) (d':=s.drawn) (ch:=ch) (fun b j=>?_) (fun b o _ _ a e _=>k b o a e) (fun b o _ _ a e _=>⟨o.slots,k b o a e⟩) (fun _ _ _ _ n=>n)
  (fun b o a e=>⟨o,k b o a e⟩) (fun _ _ e=>e) (fun _ _ _ e=>e) (fun b ps e=>⟨#[],by rw[e];simp⟩) (fun m t=>?_) (fun b u e=>?_) I.bare
 ·obtain⟨_,p,_,i,h,g⟩:=f b j;exact⟨i,p,h,g⟩
 ·obtain⟨o,w,ep,l,r⟩:=t;exact⟨o,w,ep,k _ o (fun z=>(f _ z).2.1 rfl) l,r⟩
 refine (I.hok b u e).stay (fun c v a q=>k c v ?_ q) (fun _ q=>q) fun _ _ q=>q;rcases a with z | z
 ·rw[z];exact d b u e
 exact d c _ z
end
def nm2 {x p q:Addr}(a:x≠p) (b:x≠q):x∉[p,q]:=fun h=>by
 rcases n_.mp h with e | e
 ·exact a e
 exact b (t_.mp e)
def zap (c:a<d/\b<d) (g:d<e) (m:e<f) (k:f<h) (i:h<z):ZAp z f h d e [d,a] [e,b] :=
 have j:d<f:=ZD g m
 have l:d<h:=ZD j k
 have n:d<z:=ZD l i
 have o:e<h:=ZD m k
 have p:e<z:=ZD o i
 have q:f<z:=ZD k i
 ⟨⟨G_ q,G_ i,G_ k,G_ g⟩,l_,l_,
  ⟨nm2 (Ze n) (Ze (ZD c.1 n)),nm2 (Ze j) (Ze (ZD c.1 j)),nm2 (Ze l) (Ze (ZD c.1 l)),nm2 (Ze g) (Ze (ZD c.1 g))⟩,
  ⟨nm2 (Ze p) (Ze (ZD c.2 n)),nm2 (Ze m) (Ze (ZD c.2 j)),nm2 (Ze o) (Ze (ZD c.2 l)),nm2 (G_ g) (Ze c.2)⟩⟩
def gG:List T->List T->List T
 |x::xs,y::ys=>.tup [x,y]::gG xs ys
 |_,_=>[]
def tH:∀(xs ys:List T) (i:Nat),(gG xs ys)[i]?=(match xs[i]?,ys[i]? with
  |some x,some y=>some (.tup [x,y])
  |_,_=>none)
 |[],ys,i=>by simp [gG]
 |x::xs,[],i=>by
  simp only[gG,List.getElem?_nil]
  cases (x::xs)[i]? <;> rfl
 |x::xs,y::ys,0=>by simp [gG]
 |x::xs,y::ys,i+1=>by simp only[gG,aaQ];exact tH xs ys i
def tK:∀(xs ys:List T),(gG xs ys).length=min xs.length ys.length
 |[],ys=>by simp [gG]
 |x::xs,[]=>by simp [gG]
 |x::xs,y::ys=>by simp [gG,tK xs ys]
def vU:bootBuiltins "zip"=some (.type "zip"):=by decide +kernel
def gZ {n:Type} (m l f:n->T) (e:List n) (rest:St3) (h:still H) (p:e.length<=sizeLine) (o:∀a∈e,∀Q:v6,Q (f a) H->te (some (m a)::some (l a)::rest) H Q) (k:j (e.map f) H):
  Z7 (xX 2 (jf (eX 0) (jf (eX 1) xW))) yc te still j (e.map fun a=>.tup [m a,l a]) [] (v::u::rest) H:=by
 refine jx (fun r ys Z H'=>∃(d g:List n) (v u:Option T),Z=v::u::rest/\r=d.map (fun a=>.tup [m a,l a])/\ys=g.map f/\g++d=e/\H'=H) ⟨e,[],v,u,rfl,rfl,rfl,rfl,rfl⟩ ?_ ?_
 ·rintro ys Z H' ⟨d,g,v,u,rfl,c,rfl,b,rfl⟩;have i:d=[]:=abp.mp c.symm;subst i;rw[W_] at b;subst b;exact⟨h,by rw[d_];exact p,k⟩
 rintro x r ys Z H' N ⟨d,g,v,u,rfl,c,rfl,b,rfl⟩ q;cases d with
 |nil=>cases c
 |cons t d =>
 injection c with a1 a2;subst a1 a2;refine⟨h,rfl,?_⟩;show te (some (m t)::some (l t)::rest) H' _;refine o t (by rw[<- b];simp) _ ⟨?_,q _ _ _ ⟨d,g++[t],_,_,rfl,rfl,by simp,by rw[<- b];simp,rfl⟩⟩;have:=Zk List.length b;simp only[g_,p_] at this;rw[d_];omega
section
variable {H:gb}{Q:v6}
def Q4 (x:T):yp [x,.ty "str"] H Q=oq (isT "str" x H) fun b=>Q (.bl b) H:=by rw[Ni];exact propext ⟨fun h=>h.2,fun h=>⟨by simp,h⟩⟩
def vV (x:Str):isT "str" (.str x) H=some true:=rfl
def vW (x:Int):isT "str" (.int x) H=some false:=rfl
def vX (x:List T):isT "str" (.tup x) H=some false:=rfl
def Ad (x:Bool):isT "str" (.bl x) H=some false:=rfl
def vY  : isT "str" (.non) H=some false:=rfl
def vZ (x:Str):isT "int" (.str x) H=some false:=rfl
def wg (x:Int):isT "int" (.int x) H=some true:=rfl
def wj (x:List T):isT "int" (.tup x) H=some false:=rfl
def Ae (x:Bool):isT "int" (.bl x) H=some true:=rfl
def wu  : isT "int" (.non) H=some false:=rfl
def tM (x:Str):isT "bool" (.str x) H=some false:=rfl
def tO (x:Int):isT "bool" (.int x) H=some false:=rfl
def tQ (x:List T):isT "bool" (.tup x) H=some false:=rfl
def ww (x:Bool):isT "bool" (.bl x) H=some true:=rfl
def tU  : isT "bool" (.non) H=some false:=rfl
def DN (x:T):yp [x,.ty "tuple"] H Q=oq (isT "tuple" x H) fun b=>Q (.bl b) H:=by rw[Ni];exact propext ⟨fun h=>h.2,fun h=>⟨by simp,h⟩⟩
def qu (x:Str):isT "tuple" (.str x) H=some false:=rfl
def qw (x:Int):isT "tuple" (.int x) H=some false:=rfl
def qz (x:List T):isT "tuple" (.tup x) H=some true:=rfl
def tV (x:Bool):isT "tuple" (.bl x) H=some false:=rfl
def qC  : isT "tuple" (.non) H=some false:=rfl
def tW (x:Str):isT "list" (.str x) H=some false:=rfl
def tX (x:Int):isT "list" (.int x) H=some false:=rfl
def tY (x:List T):isT "list" (.tup x) H=some false:=rfl
def wy (x:Bool):isT "list" (.bl x) H=some false:=rfl
def tZ  : isT "list" (.non) H=some false:=rfl
def lC {b:Type} [DecidableEq b] (a:b):decide (a=a)=true:=N_ rfl
end
open L2 PySem.Builtin PySem.Builtin.Str
def qD:bootBuiltins "enumerate"=some (.type "enumerate"):=by decide +kernel
def ngq (x:T) (H:gb) (Q:v6):Prop:=match x with
 |.int i=>Q (.int (-i)) H
 |_=>False
def Nq (b:Ho):Ho:=fun Z H Q=>b Z H fun x a=>ngq x a Q
def V6 (a:Ho) {Z:St3}{H:gb}{Q:v6}:Nq a Z H Q=a Z H fun x b=>ngq x b Q:=rfl
def V7 (i:Int) {H:gb}{Q:v6}:ngq (.int i) H Q=Q (.int (-i)) H:=rfl
def jj (e:xr X a ta):xr X (.UnaryOp .USub a pos) (Nq ta):=by
 refine PE.imp (Us PN e) ?_;rintro Z H Q ⟨f,H3,l,d,j,h,k⟩;refine⟨f,H3,_,d,j,h,fun v H' t g c b r q=>?_⟩;cases t with
 |int i=>exact⟨i,r.int,k _ _ _ _ c b .ofInt q⟩
 |_=>exact q.elim
def gO (k:Int):List T->List T
 |[]=>[]
 |x::r=>.tup [.int k,x]::gO (k+1) r
def pA:∀(k:Int) (xs:List T) (i:Nat),(gO k xs)[i]?=xs[i]?.map fun x=>.tup [.int (k+i),x]
 |_,[],i=>by simp [gO]
 |k,x::xs,0=>by simp [gO]
 |k,x::xs,i+1=>by
  simp only[gO,aaQ]
  rw[pA (k+1) xs i]
  have:k+1+(i:Int)=k+((i+1:Nat):Int):=by omega
  rw[this]
def pB:∀(k:Int) (xs:List T),(gO k xs).length=xs.length
 |_,[]=>rfl
 |k,x::xs=>by simp [gO,pB (k+1) xs]
def t7 (l:Addr) (a:Array Value) (n:Nat) (e:Option Addr) (j:Array (Option Value)) :
  Meets (Builtin.«enumerate.__new__» ⟨[.type "enumerate",.ref l],[]⟩) (fun _ R s=>s.heap.get? l=some { cls:=.type "tuple",dict:=e,data:=.seq a n,slots:=j} /\
   R (.ok (.ret (.ref (s.heap.push { cls:=.type "tuple_iterator",data:=.fields #[.ref l,.int 0 0]}).objs.size)))
    { s with heap:=(s.heap.push { cls:=.type "tuple_iterator",data:=.fields #[.ref l,.int 0 0]}).push { cls:=.type "enumerate",data:=.fields #[.none,.bool false,.ref s.heap.objs.size,rawInt 0,.none,.none]}}) :=
 .of_wp fun prog w A R s h=>by
  obtain⟨m,g,d,tk,k⟩:=s;obtain⟨b,h⟩:=h;have i:=sub_enumerate;have f:Heap.IsTuple (Shared.heap ⟨m,g,d,tk,k⟩) l a:=⟨_,b,rfl,n,rfl⟩
  wp_walk using aaN b
  refine wpAny_stack_any fun st=>h_ ?_;split
  ·rename_i c _ _ _ _ _;cases (c==Value.type "enumerate")
   ·wp_walk using aaN b,abA f
    exact⟨_,rfl,h⟩
   wp_walk using aaN b,abA f
   exact⟨_,rfl,h⟩
  wp_walk using aaN b,abA f
  exact⟨_,rfl,h⟩
def jk {s:Shared} (p:s.heap.IsTuple l a) (h:∀h',IsEnum h' (s.heap.objs.size+1) s.heap.objs.size 0 .none->h'.IsTupleIter s.heap.objs.size l 0->h'.objs.size=s.heap.objs.size+2 ->
   (∀b o,s.heap.get? b=some o->h'.get? b=some o)->Q (.ref (s.heap.objs.size+1)) { s with heap:=h'}):
  wpAny (model prog w) A (call (.type "enumerate") [.ref l]) Q E s:=by
 obtain⟨⟨c,d,q,k⟩,m,e,n,i⟩:=p;replace e:c=.type "tuple":=e;replace i:q=.seq a n:=i;subst e i;refine callType_new F.called_enumerate (by decide) (F.typeCall_enumerate_1 _) (F.newCall_enumerate_1 _) (fun f=>F.args_object_init_2 f _) F.entry_enumerate_new
  (t7 l a n d k) ⟨m,?_⟩
 have g:(s.heap.push { cls:=.type "tuple_iterator",data:=.fields #[.ref l,.int 0 0]}).objs.size=s.heap.objs.size+1:=aad ..;show _/\_;rw[g];have j:IsEnum ((s.heap.push { cls:=.type "tuple_iterator",data:=.fields #[.ref l,.int 0 0]}).push
   { cls:=.type "enumerate",data:=.fields #[.none,.bool false,.ref s.heap.objs.size,rawInt 0,.none,.none]}) (s.heap.objs.size+1) s.heap.objs.size 0 .none:=by
  have:=j_ (s.heap.push { cls:=.type "tuple_iterator",data:=.fields #[.ref l,.int 0 0]})
   (o:={ cls:=.type "enumerate",data:=.fields #[.none,.bool false,.ref s.heap.objs.size,rawInt 0,.none,.none]}) rfl
  rw[g] at this;exact this
 refine⟨⟨_,j,rfl⟩,h _ j ⟨_,b_ _ (j_ _ rfl),rfl,rfl⟩ (by rw[aad,g]) fun b o x=>b_ _ (b_ _ x)⟩
def Q5 (K:Frag) (a:Addr):It :=
 ⟨fun i H=>∃xs x,SqT K H a xs/\xs[i]?=some x,
  fun i H v H'=>∃p x,v=.ref p/\H p=none/\H'=upd H p (.tup [.int (i:Int),x])/\∀xs,SqT K H a xs->xs[i]?=some x,
  fun i H=>∃xs,SqT K H a xs/\xs.length<=i⟩
def wz {K:Frag} (a it e:Addr) (O:a<it) (l2:it<e):
  Turn P w K (.Tuple y x1 W) (Q5 K a) [e,it] e (fun i h=>(∃f,IsEnum h e it (i:Int) f)/\h.IsTupleIter it a i) where
 mem:=l_
 obj:=fun i h st c d=>by
  obtain⟨⟨f,l⟩,⟨o1,Y,_,d1⟩⟩:=st
  simp only[n_,L_,aaa] at d
  rcases d with rfl | rfl
  ·
   exact⟨_,l,fun v z=>by cases z⟩
  ·
   exact⟨_,Y,fun v z=>by rw[d1] at z;cases z⟩
 keep:=fun i h h' st k=>by
  obtain⟨⟨f,l⟩,t⟩:=st
  exact⟨⟨f,k e (by simp) _ l⟩,t.at fun o q=>k it (by simp) o q⟩
 item:=by
  intro X hP T hK d i g s Z H E I F st R
  subst hP T hK
  obtain⟨xs,x,N,hx⟩:=R
  obtain⟨j,V,p,hz⟩:=I.tuple N
  obtain⟨u,hu,ru⟩:=V.get hx
  obtain⟨⟨f,l⟩,t⟩:=st
  have J:j.toArray[i]?=some u:=by simpa using hu
  have m:a≠it:=G_ O
  have n:e≠it:=Ze l2
  have hea:e≠a:=Ze (ZD O l2)
  have S:e∉[it,a]:=by simp [n,hea]
  have D:=Dz (prog:=X.prog) (w:=X.w) (A:=X.A.in1) (I.ok.hd d) it a m j.toArray
  refine wpAny_pyNext_enum_itemD (i:=i) D l ⟨t,p⟩ (Zt.mp J).1 n S fun r h' tk px ho hs' hT hsz kp=>?_
  have Y:r=u:=D_ (px.symm.trans J)
  subst Y
  obtain⟨hs1,hs2⟩:=hs'
  refine⟨_,rfl,wpAny_letOwnedTupleGo_enum ho fun L M sb=>?_⟩
  have kp2:∀c o,c∉[e,it]->s.heap.get? c=some o->L.get? c=some o:=fun c o B q=>(sb.2 c fun z=>B (z▸l_)).trans (kp c o (fun z=>B (z▸l_)) (fun z=>B (by simp [z])) q)
  have U:∀{c o},s.heap.get? c=some o->s.heap.objs.size≠c:=fun q=>Ze (m_ q)
  have G:∀{c:Addr},c∈[e,it]->c≠s.heap.objs.size:=fun {c} d=>by
   simp only[n_,L_,aaa] at d
   rcases d with q | q <;> subst q
   ·
    exact Ne.symm (U l)
   ·
    obtain⟨o,q,_⟩:=t;exact Ne.symm (U q)
  have Q:s.heap.objs.size≠e:=U l
  have I1:Inv X g Z (upd H s.heap.objs.size (.tup [.int (i:Int),x])) { s with heap:=s.heap.push { cls:=.type "tuple",data:=.seq #[.int (i:Int) tk,r]},toks:=tk+1} :=
   I.laid (t':=tk+1) (fun b o q=>b_ _ q) (k_ _) (show vy X.prog X.w _ _ _ (.tup [.int (i:Int),x]) from ⟨by show 2<=sizeLine;decide,[.int (i:Int) tk,r],.cons ⟨tk,rfl⟩ (.cons ru .nil),ac6.new _ _⟩)
  have I2:Inv X g Z (upd H s.heap.objs.size (.tup [.int (i:Int),x])) { s with heap:=L,toks:=tk+1}:=iJ (s:={ s with heap:=s.heap.push { cls:=.type "tuple",data:=.seq #[.int (i:Int) tk,r]},toks:=tk+1}) (ch:=[e,it]) (t':=tk+1) I1 (fun c o B q=>by
   by_cases z:c=s.heap.objs.size
   ·
    subst z
    have C:(s.heap.push { cls:=.type "tuple",data:=.seq #[.int (i:Int) tk,r]}).get? s.heap.objs.size=some o:=q
    rw[j_ _ rfl] at C
    cases C
    exact (sb.2 _ Q).trans hT
   ·
    have C:(s.heap.push { cls:=.type "tuple",data:=.seq #[.int (i:Int) tk,r]}).get? c=some o:=q
    rw[Heap.get?_push_ne _ _ _ z] at C
    exact kp2 c o B C) fun c d=>⟨by rw[aM (G d)];exact (F c d).1,(F c d).2⟩
  refine⟨.ref s.heap.objs.size,_,I2,rfl,⟨s.heap.objs.size,x,rfl,I.hok.fresh (k_ _),rfl,fun zs hq'=>by rw[I.tuple_inj hq' N];exact hx⟩,⟨⟨r,?_⟩,hs1.at fun o q=>(sb.2 it (Ne.symm n)).trans q⟩,fun c d=>by rw[aM (G d)];exact (F c d).1⟩
  exact M
 done:=by
  intro X hP T hK d i g s Z H E I F st R
  subst hP T hK
  obtain⟨xs,N,hx⟩:=R
  obtain⟨j,V,p,hz⟩:=I.tuple N
  obtain⟨⟨f,l⟩,t⟩:=st
  have hl:=V.length
  have m:a≠it:=G_ O
  have D:=DK (prog:=X.prog) (w:=X.w) (A:=X.A.in1) (I.ok.hd d) it a m j.toArray i (by simp;omega)
  exact wpAny_pyNext_enum_endD D l ⟨rfl,t,p⟩ fun h' eb=>⟨rfl,iJ (ch:=[e,it]) (t':=s.toks) I (fun b o nb q=>eb b o (fun z=>nb (by simp [z])) q) F⟩
 self:=fun _ _ _ _ _ st h=>wpAny_pyIter_enum st.1.choose_spec h
section
variable {elts:List Expr}{x1:Nat}{tpos pos p:Pos}
def Q6 (K:Frag) (te:TE):TI:=fun Z H R=>te Z H fun x b=>∃a,x=.ref a/\(∃xs,SqT K b a xs)/\R (Q5 K a) b
def DP (n:Gl X "enumerate") (E:X.mg "enumerate"=none) (B:PE X e te) (l:starEach [e] X.env=(false,eval e X.env)::starEach [] X.env:=by rfl) (i:(backTo pos (starEach [] X.env)).any (·.1)=false:=by rfl):
  PI X (.Tuple elts x1 tpos) (.Call (.Name "enumerate" p) [e] [] pos) (Q6 X.K te):=by
 intro d s Z H R I h;refine ZF (dB I n E qD ?_ (by decide) (by decide));refine Zj ?_ l i;rw[l];show wpAny _ _ (spliced ((false,eval e X.env)::backTo pos (starEach [] X.env))) _ _ s;refine aac (Fl (B d s Z H _ I h) fun u b ⟨x,r,g,v,a,A,⟨xs,t⟩,q⟩=>?_);subst A;cases v;refine aas ?_;obtain⟨w,G,j,_⟩:=g.tuple t;have y:a<b.heap.objs.size:=let ⟨o,e,_⟩:=j;m_ e;refine jk j fun h' k D F C=>wpAny_pyIter_enum k ?_;refine⟨b.heap.objs.size+1,[b.heap.objs.size+1,b.heap.objs.size],_,_,r,rfl,g.kept (t':=b.toks) C,wz a b.heap.objs.size (b.heap.objs.size+1) y (ZK _),⟨⟨.none,k⟩,D⟩,fun c m=>?_,q⟩;have f:b.heap.objs.size<=c:=by
  simp only[n_,L_,aaa] at m;rcases m with z | z <;> subst z
  ·exact aaE _
  exact k_ _
 exact g.fpOk f (g.hok.fresh f)
def Q7 (x:T) (H:gb) (R:List T->(gb->Prop)->gb->Prop):Prop:=match x with
 |.tup ts=>R (gO 0 ts) cI H
 |_=>False
def yD (te:Ho):TI3:=fun Z H R=>te Z H fun x a=>Q7 x a R
def DQ (te:Ho):yD te Z H R=te Z H fun x a=>Q7 x a R:=rfl
def Q8 (ts:List T):Q7 (.tup ts) H R=R (gO 0 ts) cI H:=rfl
def wA {K:Frag} (j:SqT K H a xs) (g:gV K H ts xs):jw K (Q5 K a) (gO 0 ts) cI H:=fun H' c f n st=>by
 have r:=g.length;have b:=f _ _ j;refine⟨fun i k=>⟨xs,b,by rw[pB] at k;omega⟩,fun i t e=>?_⟩;rw[pA] at e;cases q:ts[i]? with
 |none=>rw[q] at e;cases e
 |some x =>
 rw[q] at e;cases e;obtain⟨v,h,o⟩:=g.get q;refine⟨⟨xs,v,b,h⟩,fun z m y=>?_⟩;obtain⟨p,s,rfl,d,rfl,l⟩:=y;have:=(l xs b).symm.trans h;cases this;refine⟨aK d,n.new d,?_⟩;rw[show (0:Int)+(i:Int)=(i:Int) from by omega];exact g8.newTup (H3:=c) d (.cons .ofInt (.cons (o.mono f) .nil))
def DR (g:Gl X "enumerate") (u:X.mg "enumerate"=none) (j:xr X e te) (o:starEach [e] X.env=(false,eval e X.env)::starEach [] X.env:=by rfl) (c:(backTo pos (starEach [] X.env)).any (·.1)=false:=by rfl):
  PI3 X (.Tuple elts x1 tpos) (.Call (.Name "enumerate" p) [e] [] pos) (yD te):=by
 refine PI.imp (DP g u j o c) ?_;rintro Z H R ⟨m,H3,R3,i,s,h,k⟩;refine⟨m,H3,_,i,s,h,fun v H' t b l d r q=>?_⟩;cases t with
 |tup ts=>obtain⟨a,xs,rfl,f,n⟩:=r.tup;exact⟨a,rfl,⟨xs,f⟩,k _ _ cI H' b l d (wA f n) q⟩
 |_=>exact q.elim
def anH (o:Option O3) (H:gb) (Q:v6):Prop:=match o with
 |some (.lst xs)=>oq (cg xs) fun a=>Q (.bl (a.any id)) H
 |some (.rol xs)=>oq (cg xs) fun a=>Q (.bl (a.any id)) H
 |_=>False
def Nr:List T->gb->v6->Prop:=fun ts H Q=>match ts with
 |[.ref a]=>anH (H a) H Q
 |_=>False
def V8 (a:Addr):Nr [.ref a] H Q=anH (H a) H Q:=rfl
def V9 (xs:List T):anH (some (.lst xs)) H Q=oq (cg xs) fun a=>Q (.bl (a.any id)) H:=rfl
def any_range (c:List Bool):(List.range c.length).any (fun i=>c.getD i true)=c.any id:=by
 rw[Zn,aao,aao];constructor
 ·rintro⟨i,d,h⟩;have a:=X_.mp d;refine⟨c[i],Z_ a,?_⟩;simpa [List.getD,a] using h
 rintro⟨b,e,h⟩;obtain⟨i,d,rfl⟩:=List.mem_iff_getElem.mp e;refine⟨i,X_.mpr d,?_⟩;simpa [List.getD,d] using h
def Q9 (R:X.calm=true):dj X (.builtin "any") Nr:=by
 intro m s Z H xs us Q I L h;obtain⟨ts,H3,G,r,y,h,k⟩:=h
 match ts,h,r with
 |[.ref a],h,r =>
 obtain⟨v,rfl,B⟩:=r.one';obtain⟨u,rfl,F⟩:=vals1 L;rw[B.ref] at F;cases F;have f:∀{g:List T} {ys:List V},SqL X.K H a ys->gV X.K H g ys->oq (cg g) (fun d=>G (.bl (d.any id)) H3)->wpAny (model X.prog X.w) X.A (call (.builtin "any") [.ref a]) (EP X m Z Q) X.xe s:=by
  intro g ys p l q;cases e:cg g with
  |none=>rw[e] at q;exact q.elim
  |some d =>
  rw[e] at q;obtain⟨M,E,x,_⟩:=I.list p;have O:=fG e l E;subst O;have t:a≠s.heap.objs.size:=fun z=>by obtain⟨o,n,j,_⟩:=x;have:=m_ j;rw[z] at this;exact Zm _ this
  refine call_any_walk (wpAny_pyIter_list x.isList ?_);refine⟨s.heap.objs.size,_,_,_,_,_,fun i=>d.getD i true,rfl,Walks.list (A:=X.A.in1) (I.ok.hd R) s.heap.objs.size a t (d.map Value.bool).toArray,⟨⟨_,j_ _ rfl,rfl,rfl⟩,x.isList.push _⟩,fun i v s' S U N C=>?_,fun h' tk J=>?_⟩
  ·have c:(d.map Value.bool)[i]?=some v:=by simpa using N
   rw[x_] at c;cases D:d[i]? with
   |none=>rw[D] at c;cases c
   |some b =>
   rw[D] at c;cases c;have:d.getD i true=b:=by simp [List.getD,D]
   dsimp only at C;rw[this] at C;exact abf C
  have P:(d.map Value.bool).toArray.size=d.length:=by simp
  rw[P,any_range];refine⟨.bl (d.any id),H,I.kept fun b o e=>J b o (fun z=>?_) (b_ _ e),rfl,k _ _ _ _ .refl y .ofBl q⟩;have:=m_ e;rw[t_.mp z] at this;exact Zm _ this
 have h':anH (H3 a) H3 G:=h;cases j:H3 a with
 |none=>rw[j] at h';exact h'.elim
 |some o =>
 rw[j] at h';cases o with
 |lst g=>obtain⟨ys,p,l⟩:=y.sqL (.inl j);exact f p l h'
 |rol g=>obtain⟨ys,p,l⟩:=y.sqL (.inr j);exact f p l h'
 |_=>exact h'.elim
def DW:List T->gb->v6->Prop:=fun ts H Q=>match ts with
 |[.int i,.int j]=>Q (.int (if j>i then j else i)) H
 |_=>False
def DY:List T->gb->v6->Prop:=fun ts H Q=>match ts with
 |[.int i,.int j]=>Q (.int (if j<i then j else i)) H
 |_=>False
def Rg (i j:Int):DW [.int i,.int j] H Q=Q (.int (if j>i then j else i)) H:=rfl
def Rh (i j:Int):DY [.int i,.int j] H Q=Q (.int (if j<i then j else i)) H:=rfl
def JS (d:X.calm=true):dj X (.builtin "max") DW:=by
 intro c s Z H xs us Q I m h;obtain⟨ts,H3,o,r,g,h,k⟩:=h
 match ts,h,r with
 |[.int i,.int j],h,r =>
 obtain⟨v,q,rfl,l,f⟩:=r.two';obtain⟨p,t,rfl,a,b⟩:=vals2 m;rw[l.int] at a;rw[f.int] at b;obtain⟨n,rfl⟩:=a;obtain⟨u,rfl⟩:=b;refine max_two_ints (I.ok.hd d) fun h' tk e=>?_;refine⟨.int (if j>i then j else i),H,I.kept e,?_,k _ _ _ _ .refl g .ofInt h⟩;by_cases z:j>i
 ·rw[if_pos z,if_pos z];exact⟨_,rfl⟩
 rw[if_neg z,if_neg z];exact⟨_,rfl⟩
def JT (d:X.calm=true):dj X (.builtin "min") DY:=by
 intro c s Z H xs us Q I m h;obtain⟨ts,H3,o,r,g,h,k⟩:=h
 match ts,h,r with
 |[.int i,.int j],h,r =>
 obtain⟨v,q,rfl,l,f⟩:=r.two';obtain⟨p,t,rfl,a,b⟩:=vals2 m;rw[l.int] at a;rw[f.int] at b;obtain⟨n,rfl⟩:=a;obtain⟨u,rfl⟩:=b;refine min_two_ints (I.ok.hd d) fun h' tk e=>?_;refine⟨.int (if j<i then j else i),H,I.kept e,?_,k _ _ _ _ .refl g .ofInt h⟩;by_cases z:j<i
 ·rw[if_pos z,if_pos z];exact⟨_,rfl⟩
 rw[if_neg z,if_neg z];exact⟨_,rfl⟩
def Ea:dG X (binaryOp .BitAnd) (qj fun i j=>.int (Builtin.bitAnd i j)):=mD PL fun _ _ _=>.ofInt
def Wa:dG X (binaryOp .BitOr) (qj fun i j=>.int (Builtin.bitOr i j)):=mD Uu fun _ _ _=>.ofInt
def mK:bootBuiltins "max"=some (.builtin "max"):=by decide +kernel
def Ri:bootBuiltins "min"=some (.builtin "min"):=by decide +kernel
end
def bc {N P:List Str}{h:Scope}(a:h.kind=.function:=by rfl) (b:h.isCoroutine=false:=by rfl) (c:h.isGenerator=false:=by rfl) (d:N.Nodup:=by decide +kernel) (e:N.take P.length=P:=by rfl)
 (f:∀x∈P,h.names.lookup x=some .local\/h.names.lookup x=some .cell:=by decide +kernel) (g:∀y∈h.names,y.2≠.free:=by decide +kernel):gk N P h:=⟨a,b,c,d,e,f,g⟩
def qF {p:Prop} [Decidable p] (h:¬p):¬(decide p=true) := fun e=>h (aat e)
def upa (h:H a=some u) (b:H q=none):fY H q o a=some u := by rw[aF (bz h b)];exact h
structure Ow (P:Program) (w:World) (K:Frag) (mg:Str->Option Value) (base:Heap) (k:Nat) (x:Str) (st:Stmt) (ps:List Str) (sp:Sp3):Prop where
 ex:∃(f:Addr) (fd:FuncData),G3 K mg x st ps f fd/\j9 P w K mg base k f fd ps sp
def Rj {st:Stmt}{p a:Pos} (D:Ow X.prog X.w X.K X.mg X.base k x st ps sp) (n:tR k X.A) (i:Gl X x) (l:PA3 X (e::c) t) (d:(x==("__debug__":Str))=false:=by decide) (j:starEach (e::c) X.env=(false,eval e X.env)::starEach c X.env:=by rfl) (h:(backTo a (starEach c X.env)).any (·.1)=false:=by rfl):
  xr X (.Call (.Name x p) (e::c) [] a) (qi sp t):=by
 obtain⟨f,o,g,F⟩:=D.ex;exact Jt F n i g.m g.fn.kp g.b l d j h
def aP {st:Stmt}{p b:Pos} (D:Ow X.prog X.w X.K X.mg X.base k x st ps sp) (l:tR j X.A) (f:Gl X x) (h:PA3 X (e::a) t) (i:k<=j:=by decide) (c:(x==("__debug__":Str))=false:=by decide) (g:starEach (e::a) X.env=(false,eval e X.env)::starEach a X.env:=by rfl) (d:(backTo b (starEach a X.env)).any (·.1)=false:=by rfl):xr X (.Call (.Name x p) (e::a) [] b) (qi sp t):=Rj D (l.mono i) f h c g d
def rpH (o:Option O3) (k:Int) (H:gb) (Q:v6):Prop:=match o with
 |some (.lst xs)=>(-(2^63)<=k/\k<2^63/\xs.length*k.toNat<=sizeLine)/\∀p,H p=none->Q (.ref p) (fY H p (.lst (List.replicate k.toNat xs).flatten))
 |_=>False
def Nt:R3:=fun x y H Q=>match x,y with
 |.ref a,.int k=>rpH (H a) k H Q
 |_,_=>False
def Nu (a:Addr) (k:Int) (H:gb) (Q:v6):Nt (.ref a) (.int k) H Q=rpH (H a) k H Q:=rfl
def Nv (xs:List T) (k:Int) (H:gb) (Q:v6):rpH (some (.lst xs)) k H Q=((-(2^63)<=k/\k<2^63/\xs.length*k.toNat<=sizeLine)/\∀p,H p=none->Q (.ref p) (fY H p (.lst (List.replicate k.toNat xs).flatten))):=rfl
def gV.rep {K:Frag} (r:gV K H ts vs):∀k:Nat,gV K H (List.replicate k ts).flatten (List.replicate k vs).flatten
 |0=>.nil
 |k+1=>by rw[Z9,Z9,aag,aag];exact r.append (gV.rep r k)
def wB:dG X (binaryOp .Mult) Nt:=by
 refine OpR.imp Qh ?_;rintro x y H Q ⟨q,m,H3,s,g,f,b,h,k⟩;cases q with
 |ref a =>
  cases m with
  |int n =>
   rw[Nu] at h;cases e:H3 a with
   |none=>rw[e] at h;exact h.elim
   |some o =>
   rw[e] at h;cases o with
   |lst xs=>rw[Nv] at h;obtain⟨vs,i,d⟩:=b a _ e;obtain⟨⟨r,j,l⟩,h'⟩:=h;refine⟨a,n,vs,g.ref,f.int,i,r,j,by rw[<- d.length];exact l,fun p c=>?_⟩;exact k _ _ _ _ (aK c) (b.newLst c (d.rep n.toNat)) .ofRef (h' p (b.fresh c))
   |_=>exact h.elim
  |_=>exact h.elim
 |_=>exact h.elim
def aeO:Slot "list_reverseiterator" "__length_hint__" "list_reverseiterator.__length_hint__":=.of (owner:="list_reverseiterator") (n:="__length_hint__") (by rw[aax,ZR];kernel_rfl) (by decide +kernel) (by decide +kernel) (by decide +kernel)
 (by first | exact .inr (by decide +kernel) | exact .inl (by decide +kernel)) (by rw[aa7];kernel_rfl)
def Eb:typeLookup (.type "list_reverseiterator") "__len__"=pure none:=by rw[aax,ZR];kernel_rfl
def Rk:isSubtype (.type "list_reverseiterator") (.type "list_reverseiterator")=pure true:=by rw[aa7];kernel_rfl
def Ec {a b:Array Value}(h:ItemsOf (fun i v=>a[a.size - 1 - i]?=some v) b a.size):b=a.reverse:=by
 refine Array.ext (by rw[h.1];simp) fun j c e=>?_;have q:a[a.size - 1 - j]?=some b[j]:=h.2 j b[j] (aab c);have d:j<a.size:=by rw[<- h.1];exact c
 rw[aab (by omega)] at q;rw[Array.getElem_reverse];exact (D_ q).symm
def Af (G:A.handled=none) (t:l≠I) (hsz:c.size<=sizeLine) (n:S∉[I,l]) (h:s.heap.IsRevIter I l ((c.size:Int) - 1)) (B:s.heap.IsList l c) (z:s.heap.get? S=some { cls:=.type "list",data:=.seq #[] p}) (C:∀s' d k,Moved (S::[I]) (fun a b=>b=a) s s'->s'.heap.get? S=some { cls:=.type "list",dict:=none,data:=.seq d k,slots:=#[]}->ItemsOf (fun i v=>c[c.size - 1 - i]?=some v) d c.size->R (.ok (.ret q)) s'):
  wpAny (model prog w) A.in1 (Builtin.List.listExtendWith (.ref S) (.ref I) q)
   (fun r s'=>match r with | .done f=>R (.ok f) s' | .again k=>k.quiet=true/\codeAny (model prog w) A k R s') (fun e s'=>R (.error e) s') s:=by
 have W:=(Walks.listRev (prog:=prog) (w:=w) (A:=A.in1) G I l t c).toS;have u:S≠I:=fun e=>n (e▸l_);have st:(fun (i:Nat) (s:Shared)=>i<=c.size/\s.heap.IsRevIter I l ((c.size:Int) - 1 - (i:Int))/\s.heap.IsList l c) 0 s:=⟨ZS _,by simpa using h,B⟩;have g:s.TypeIs (.ref I) "list_reverseiterator":=h.typeIs;unfold Builtin.List.listExtendWith;refine a_ (aa3 g ?_);have y:Builtin.List.listSameRef (.ref S) (.ref I)=false:=by simp [Builtin.List.listSameRef,u]
 have D:(Value.type "list_reverseiterator"==Value.type "list")=false:=by decide
 have E:(Value.type "list_reverseiterator"==Value.type "tuple")=false:=by decide
 simp only[y,D,E,Bool.or_false,C_,Zv];refine a_ (wpAny_pyIter_revIter h ?_);refine a_ (ZP ?_);unfold Builtin.List.listLengthHint;refine a_ (aaW g Eb ?_);show wpAny _ A.in1 (specialOf (Value.ref I) (Str.ofString "__length_hint__") >>= _) _ _ _;refine a_ (aaW g aeO.lookup ?_);generalize j:("list_reverseiterator.__length_hint__":String)=m
 (fail_if_success (clear j m))
 wp_delta
 rw[show splitId m=some ("list_reverseiterator","__length_hint__") from by subst j;decide +kernel];subst j;refine a_ (abv (b:=true) g Rk ?_);rw[if_neg (show ¬(!true)=true from B_)];dsimp only;rw[if_pos (by decide +kernel)];rw[if_neg (show ¬((Value.builtin "list_reverseiterator.__length_hint__"==Value.builtin "range_iterator.__length_hint__")=true) from by decide)];refine h_ ?_;try rw[if_neg B_]
 refine h_ ⟨abR F.plain_extend_loop _,?_⟩;exact codeAny_extend_loopS W hsz _ n _ c.size 0 _ _ _ rfl (ZS _) st z (ItemsOf.nil _) fun s' d k H x o=>C s' d k H x o
def JV (J:A.handled=none) (u:l≠I) (hsz:d.size<=sizeLine) (m:S∉[I,l]) (r:s.heap.IsRevIter I l ((d.size:Int) - 1)) (B:s.heap.IsList l d) (q:s.heap.get? S=some { cls:=.type "list",data:=.seq #[]}) (E:∀s' g n,Moved (S::[I]) (fun a b=>b=a) s s'->s'.heap.get? S=some { cls:=.type "list",dict:=none,data:=.seq g n,slots:=#[]}->ItemsOf (fun i v=>d[d.size - 1 - i]?=some v) g d.size->R (.ok (.ret .none)) s'):
  wpAny (model prog w) A.in1 (Builtin.«list.__init__» ⟨[.ref S,.ref I],[]⟩)
   (fun t s'=>match t with | .done f=>R (.ok f) s' | .again n=>n.quiet=true/\codeAny (model prog w) A n R s') (fun e s'=>R (.error e) s') s:=by
 show wpAny _ A.in1 (do let y <- Builtin.List.listItems (.ref S);Builtin.List.listUpdate (.ref S) (fun _=>#[]);letGo y.toList.reverse;Builtin.List.listExtendWith (.ref S) (.ref I) .none) _ _ s;refine a_ ?_;unfold Builtin.List.listItems;refine a_ (aak q rfl (h_ ?_));show wpAny _ A.in1 (updateSeq S (fun _=>#[]) >>= fun _=>letGo (#[]:Array Value).toList.reverse >>= fun _=>Builtin.List.listExtendWith (.ref S) (.ref I) .none) _ _ s;refine a_ (wpAny_updateSeq q rfl ?_);have k:=ZL (Obj.mapSeq (fun _=>(#[]:Array Value))) q rfl;have j:∀b o,b≠S->s.heap.get? b=some o->(s.heap.update S (Obj.mapSeq (fun _=>(#[]:Array Value)))).get? b=some o :=
  fun b o x e=>(Y_ _ _ (Ne.symm x)).trans e
 refine a_ (wpAny_letGo ?_);have D:I≠S:=fun e=>m (by simp [e]);have C:l≠S:=fun e=>m (by simp [e]);refine Af J u hsz m (r.at fun o e=>j _ o D e) (B.at fun o e=>j _ o C e) k fun s' g n K z p=>?_;exact E s' g n (Moved.trans (G:=fun a b=>b=a) (fun a b c F H=>H.trans F) ((Moved.refl (G:=fun a b=>b=a) fun _=>rfl).then_heap (k_ _) fun b o x e=>j b o (fun h=>x (h▸l_)) e) K) z p
def nZ (z:A.handled=none) (p:l≠I) (hsz:c.size<=sizeLine) (f:s.heap.IsRevIter I l ((c.size:Int) - 1)) (v:s.heap.IsList l c) (y:∀s' m,Moved (s.heap.objs.size::[I]) (fun a b=>b=a) { s with heap:=s.heap.push { cls:=.type "list",data:=.seq #[]}} s' ->
   s'.heap.get? s.heap.objs.size=some { cls:=.type "list",dict:=none,data:=.seq c.reverse m,slots:=#[]}->Q (.ref s.heap.objs.size) s'):
  wpAny (model prog w) A (call (.type "list") [.ref I]) Q E s:=by
 have i:I<s.heap.objs.size:=by obtain⟨o,n,_⟩:=f;exact m_ n
 have k:l<s.heap.objs.size:=by obtain⟨o,n,_⟩:=v;exact m_ n
 have q:s.heap.objs.size∉[I,l]:=fun r=>by
  rcases n_.mp r with e | e
  ·rw[<- e] at i;exact Zm _ i
  rw[<- t_.mp e] at k;exact Zm _ k
 refine callType_codes (Q₁:=fun g d=>g=.ref s.heap.objs.size/\d={ s with heap:=s.heap.push { cls:=.type "list",data:=.seq #[]}}) F.called_list (F.typeCall_list_1 _) F.entry_list_init
  (code_list_new _ ⟨rfl,rfl⟩) fun g d h=>?_
 obtain⟨rfl,rfl⟩:=h;have u:(s.heap.push { cls:=.type "list",data:=.seq #[]}).get? s.heap.objs.size=some { cls:=.type "list",data:=.seq #[]}:=j_ _ rfl;refine⟨⟨_,u,rfl⟩,F.args_list_init_2 _ _,JV (A:=A.in1) z p hsz q (f.at fun o e=>b_ _ e) (v.at fun o e=>b_ _ e) u fun s' x m r t j=>?_⟩;refine⟨rfl,y s' m r ?_⟩;rw[<- Ec j];exact t
def Itv (K:Frag) (a:Addr) (n:Nat):It :=
 ⟨fun i H=>∃xs x,SqL K H a xs/\xs.length=n/\i<n/\xs[n - 1 - i]?=some x,fun i H x H'=>H'=H/\∀xs,SqL K H a xs->xs[n - 1 - i]?=some x,fun i _=>n<=i⟩
def Ed {K:Frag}{T:Expr} (a it:Addr) (n:Nat):Turn P w K T (Itv K a n) [it] it (fun i h=>i<=n/\h.IsRevIter it a ((n:Int) - 1 - (i:Int))) where
 mem:=by simp
 obj:=fun i h st b g=>by
  have e:b=it:=by simpa using g
  subst e
  obtain⟨_,o,e,c,d⟩:=st
  exact⟨o,e,fun v z=>by rw[d] at z;cases z⟩
 keep:=fun i h h' st k=>⟨st.1,st.2.at fun o e=>k it (by simp) o e⟩
 item:=by
  intro X D q C G i f s Z H E I l st m
  subst D q C
  obtain⟨xs,x,F,hn,S,J⟩:=m
  obtain⟨O,N,p,hz⟩:=I.list F
  obtain⟨u,hu,R⟩:=N.get J
  obtain⟨r,t,M,B,y,A⟩:=l it (by simp)
  have e:(n:Int) - 1 - (i:Int)=((n - 1 - i:Nat):Int):=by omega
  obtain⟨_,st⟩:=st
  rw[e] at st
  refine wpAny_pyNext_rev_item st p.isList (x:=u) (by simpa using hu) fun h' j sb=>?_
  have I1:Inv X f Z H { s with heap:=h'}:=I.turned (t':=s.toks) (fun b o g e=>(sb.2 b g).trans e) r t B y A
  obtain⟨o,L,c,d⟩:=id j
  have Q:((n - 1 - i:Nat):Int) - 1=(n:Int) - 1 - ((i+1:Nat):Int):=by omega
  rw[Q] at j
  exact⟨u,rfl,xM (s:={ s with heap:=h'}) L c d (by decide) ⟨x,H,I1,R,⟨rfl,fun ys Y=>by rw[I.list_inj Y F];exact J⟩,⟨S,j⟩,fun b g=>(l b g).1⟩⟩
 done:=by
  intro X D q C G i f s Z H E I l st m
  subst D q C
  obtain⟨r,t,M,B,y,A⟩:=l it (by simp)
  obtain⟨W,st⟩:=st
  have U:n<=i:=m
  have e:(n:Int) - 1 - (i:Int) = -1:=by omega
  rw[e] at st
  exact wpAny_pyNext_rev_end (I.ok.hd G) st fun h' V=>⟨rfl,I.turned (t':=s.toks) (fun b o g e=>V b o g e) r t B y A⟩
 self:=fun _ _ _ _ _ st h=>wpAny_pyIter_revIter st.2 h
def kh:bootBuiltins "reversed"=some (.type "reversed"):=by decide +kernel
section
variable {X:Cx}{tg e:Expr}{p p1 p2 pos pos':Pos}
def YQ (K:Frag) (te:TE):TI:=fun Z H R=>te Z H fun x b=>∃a xs,x=.ref a/\SqL K b a xs/\R (Itv K a xs.length) b
def Rm (m:Gl X "reversed") (C:X.mg "reversed"=none) (A:PE X e te) (k:starEach [e] X.env=(false,eval e X.env)::starEach [] X.env:=by rfl) (j:(backTo pos (starEach [] X.env)).any (·.1)=false:=by rfl):
  PI X tg (.Call (.Name "reversed" p) [e] [] pos) (YQ X.K te):=by
 intro d s Z H R I h;refine ZF (dB I m C kh ?_ (by decide) (by decide));refine Zj ?_ k j;rw[k];show wpAny _ _ (spliced ((false,eval e X.env)::backTo pos (starEach [] X.env))) _ _ s;refine aac (Fl (A d s Z H _ I h) fun u c ⟨x,n,g,t,a,xs,z,y,q⟩=>?_);subst z;cases t;refine aas ?_;obtain⟨i,v,r,D⟩:=g.list y;have f:=v.length;refine call_reversed_list r.isList ?_;have w:((i.toArray.size:Nat):Int) - 1=(xs.length:Int) - 1:=by simp [f]
 rw[w];have l:(c.heap.push (revObj a ((xs.length:Int) - 1))).IsRevIter c.heap.objs.size a ((xs.length:Int) - 1):=⟨_,j_ _ rfl,rfl,rfl⟩;refine wpAny_pyIter_revIter l ?_;refine⟨c.heap.objs.size,[c.heap.objs.size],_,_,n,rfl,g.kept (t':=c.toks) fun b o e=>b_ _ e,Ed a c.heap.objs.size xs.length,⟨ZS _,by simpa using l⟩,fun b B=>?_,q⟩;have e:b=c.heap.objs.size:=by simpa using B
 subst e;exact g.fpOk (k_ _) (g.hok.fresh (k_ _))
def reO (o:Option O3) (a:Addr) (H:gb) (R:List T->(gb->Prop)->gb->Prop):Prop:=match o with
 |some (.lst ts)=>R ts.reverse (bh a ts) H
 |_=>False
def Nx (te:Ho):TI3:=fun Z H R=>te Z H fun x b=>match x with
 |.ref a=>reO (b a) a b R
 |_=>False
def Ef {K:Frag}{xs:List V} (j:xs.length=ts.length):jw K (Itv K a xs.length) ts.reverse (bh a ts) H:=fun H' h o f st=>by
 obtain⟨ys,d,c⟩:=f.sqL st;have k:=c.length;rw[j];refine⟨fun i b=>by rw[Q_] at b;exact b,fun i t e=>?_⟩;have b:i<ts.length:=by have:=(ZC.mp e).1;rw[Q_] at this;exact this
 rw[aba b] at e;obtain⟨v,g,n⟩:=c.get e;refine⟨⟨ys,v,d,k.symm,b,g⟩,fun x l y=>?_⟩;obtain⟨m,y⟩:=y;subst m;have:=y ys d;rw[g] at this;cases this;exact⟨.refl,f,n⟩
def Rn (g:Gl X "reversed") (x:X.mg "reversed"=none) (l:xr X e te) (u:starEach [e] X.env=(false,eval e X.env)::starEach [] X.env:=by rfl) (f:(backTo pos (starEach [] X.env)).any (·.1)=false:=by rfl):
  PI3 X tg (.Call (.Name "reversed" p) [e] [] pos) (Nx te):=by
 refine PI.imp (Rm g x l u f) ?_;rintro Z H R ⟨n,H3,R3,j,w,h,k⟩;refine⟨n,H3,_,j,w,h,fun v H' t b m d r q=>?_⟩;cases t with
 |ref a =>
  have c:reO (b a) a b R3:=q
  cases e:b a with
  |none=>rw[e] at c;exact c.elim
  |some o =>
   rw[e] at c
   cases o with
   |lst ts =>
    obtain⟨xs,i,s⟩:=d.sqL (.inl e)
    exact⟨a,xs,r.ref,i,k _ _ (bh a ts) H' b m d (Ef s.length.symm) c⟩
   |_=>exact c.elim
 |_=>exact q.elim
def Ro (te:Ho) {Z:St3}{H:gb}{R:List T->(gb->Prop)->gb->Prop}:Nx te Z H R=te Z H fun x b=>match x with
 |.ref a=>reO (b a) a b R
 |_=>False:=rfl
def Wb (ts:List T) (a:Addr) (H:gb) (R:List T->(gb->Prop)->gb->Prop):reO (some (.lst ts)) a H R=R ts.reverse (bh a ts) H:=rfl
def Rp (te:TE):TE:=fun Z H Q=>te Z H fun x a=>∃p ys,x=.ref p/\SqL X.K a p ys/\∀l,a l=none->Q (.ref l) (upd a l (.lst ys.reverse))
def Eg (P:X.calm=true) (k:Gl X "list") (l:X.mg "list"=none) (r:Gl X "reversed") (v:X.mg "reversed"=none) (R:PE X e te) (C:starEach [e] X.env=(false,eval e X.env)::starEach [] X.env:=by rfl) (f:(backTo pos (starEach [] X.env)).any (·.1)=false:=by rfl) (g:(backTo pos' (starEach [] X.env)).any (·.1)=false:=by rfl):
  PE X (.Call (.Name "list" p1) [.Call (.Name "reversed" p2) [e] [] pos'] [] pos) (Rp (X:=X) te):=by
 intro c s Z H Q I h;refine ZF (dB I k l qm ?_ (by decide) (by decide));refine Zj ?_ rfl f;show wpAny _ _ (spliced ((false,eval (.Call (.Name "reversed" p2) [e] [] pos') X.env)::backTo pos (starEach [] X.env))) _ _ s;refine aac ?_;refine ZF (dB I r v kh ?_ (by decide) (by decide));refine Zj ?_ C g;rw[C];show wpAny _ _ (spliced ((false,eval e X.env)::backTo pos' (starEach [] X.env))) _ _ s;refine aac (Fl (R c s Z H _ I h) fun u s1 ⟨x,J,j,F,p,ys,S,N,q⟩=>?_);subst S;cases F;obtain⟨a,y,m,M⟩:=j.list N;have A:=y.length;have hsz:a.toArray.size<=sizeLine:=by simp only[v_];omega
 refine aas ?_;refine call_reversed_list m.isList ?_;refine aas ?_;have f:p<s1.heap.objs.size:=by obtain⟨o,O,_⟩:=m.isList;exact m_ O
 have t:(s1.heap.push (revObj p ((a.toArray.size:Int) - 1))).IsRevIter s1.heap.objs.size p ((a.toArray.size:Int) - 1):=⟨_,j_ _ rfl,rfl,rfl⟩;refine nZ (s:={ s1 with heap:=s1.heap.push (revObj p ((a.toArray.size:Int) - 1))}) (j.ok.hd P) (G_ f) hsz t (m.isList.at fun o e=>b_ _ e) fun s' D i w=>?_;generalize n:(s1.heap.push (revObj p ((a.toArray.size:Int) - 1))).objs.size=z at i w;have d:s1.heap.objs.size<z:=by rw[<- n];simp [Heap.push]
 have L:∀b u,s1.heap.get? b=some u->s'.heap.get? b=some u:=fun b u B=>i.heap b u (fun K=>by
  have:=m_ B
  rcases n_.mp K with e | e
  ·
   rw[e] at this;exact absurd (ZD this d) (Zm _)
  ·
   rw[t_.mp e] at this;exact Zm _ this) (b_ _ (b_ _ B))
 have G:s'={ s1 with heap:=s'.heap,toks:=s'.toks}:=by
  obtain⟨U,T,W,V,Y⟩:=s';have:=i.gens;have:=i.drawn;have:=i.os
  simp_all
 have E:Inv X c Z (upd J z (.lst ys.reverse)) { s1 with heap:=s'.heap,toks:=s'.toks} :=
  j.laid (t':=s'.toks) L (aaw d) ⟨by rw[Q_];exact M,a.reverse,D,y.reverse,by simpa using w⟩
 rw[G];exact⟨.ref z,_,E,rfl,q _ (j.hok.fresh (aaw d))⟩
def lrO (o:Option O3) (H:gb) (Q:v6):Prop:=match o with
 |some (.lst xs)=>∀p,H p=none->Q (.ref p) (fY H p (.lst xs.reverse))
 |_=>False
def yE (te:Ho):Ho:=fun Z H Q=>te Z H fun x b=>match x with
 |.ref a=>lrO (b a) b Q
 |_=>False
def Eh (A:X.calm=true) (g:Gl X "list") (i:X.mg "list"=none) (m:Gl X "reversed") (n:X.mg "reversed"=none) (B:xr X e te) (x:starEach [e] X.env=(false,eval e X.env)::starEach [] X.env:=by rfl) (p:(backTo pos (starEach [] X.env)).any (·.1)=false:=by rfl) (d:(backTo pos' (starEach [] X.env)).any (·.1)=false:=by rfl):
  xr X (.Call (.Name "list" p1) [.Call (.Name "reversed" p2) [e] [] pos'] [] pos) (yE te):=by
 refine PE.imp (Eg A g i m n B x p d) ?_;rintro Z H Q ⟨C,H3,D,s,w,h,k⟩;refine⟨C,H3,_,s,w,h,fun v H' t b z c r q=>?_⟩;cases t with
 |ref a =>
  have f:lrO (b a) b D:=q
  cases e:b a with
  |none=>rw[e] at f;exact f.elim
  |some o =>
   rw[e] at f
   cases o with
   |lst ts =>
    obtain⟨xs,y,u⟩:=c.sqL (.inl e)
    exact⟨a,xs,r.ref,y,fun l j=>k _ _ _ _ (z.trans (aK j)) (c.newLst j u.reverse) .ofRef (f l (c.fresh j))⟩
   |_=>exact f.elim
 |_=>exact q.elim
def JW (te:Ho) {Z:St3}{H:gb}{Q:v6}:yE te Z H Q=te Z H fun x b=>match x with
 |.ref a=>lrO (b a) b Q
 |_=>False:=rfl
def Wc (xs:List T) (H:gb) (Q:v6):lrO (some (.lst xs)) H Q=∀p,H p=none->Q (.ref p) (fY H p (.lst xs.reverse)):=rfl
variable {apos cpos:Pos}{Ty id:String}
def Ny (b:String) (m:T->List T->gb->v6->Prop) (c:Ho):Ho:=fun Z H Q=>c Z H fun x a=>ty3 b x a/\m x [] a Q
def Ei (u:PlainAttrs Ty) (c:Slot Ty name id) (g:typeOf (.builtin id)=pure (.type "method_descriptor")) (s:zW X id m) (p:xr X o to)
  (a:attributeBase o name X.env (eval o X.env)=eval o X.env:=by rfl) (b:(apos.endLine==cpos.line)=true:=by rfl) :
  xr X (.Call (.Attribute o name apos) [] [] cpos) (Ny Ty m to):=by
 refine PE.imp (Qg u c g s p a b) ?_;rintro Z H Q ⟨n,H3,q,l,r,h,k⟩;exact⟨n,H3,_,l,r,h,fun x v t e f d i j=>⟨M7 d i j.1,t,[],e,q,i,.nil,d,j.2,k.at f⟩⟩
def mxH (o:Option O3) (H:gb) (Q:v6):Prop:=match o with
 |some (.lst xs)=>oq (ints3 xs) fun ns=>ns≠[]/\∀M,M∈ns->(∀a∈ns,a<=M)->Q (.int M) H
 |_=>False
def Ej:List T->gb->v6->Prop:=fun ts H Q=>match ts with
 |[.ref a]=>mxH (H a) H Q
 |_=>False
def Ek (a:Addr) (H:gb) (Q:v6):Ej [.ref a] H Q=mxH (H a) H Q:=rfl
def Nz (xs:List T) (H:gb) (Q:v6):mxH (some (.lst xs)) H Q=oq (ints3 xs) fun ns=>ns≠[]/\∀M,M∈ns->(∀a∈ns,a<=M)->Q (.int M) H:=rfl
def lD (M:X.calm=true):dj X (.builtin "max") Ej:=by
 intro p s Z H xs us Q I E h;obtain⟨ts,H3,O,r,q,h,k⟩:=h;cases ts with
 |nil=>exact h.elim
 |cons t ts =>
 cases ts with
 |cons _ _=>cases t <;> exact h.elim
 |nil =>
 cases t with
 |ref a =>
  rw[Ek] at h;obtain⟨v,rfl,g⟩:=r.one';obtain⟨u,rfl,x⟩:=vals1 E;rw[g.ref] at x;cases x;cases e:H3 a with
  |none=>rw[e] at h;exact h.elim
  |some o =>
  rw[e] at h;cases o with
  |lst G =>
   rw[Nz] at h;obtain⟨ys,L,C⟩:=q.sqL (.inl e);cases i:ints3 G with
   |none=>rw[i] at h;exact h.elim
   |some ns =>
   rw[i,fM] at h;obtain⟨l,h⟩:=h;obtain⟨b,m,D,_⟩:=I.list L;have y:=jh i C m;have c:AllInts b.toArray:=y.allInts;obtain⟨d,w⟩:=c.items;have n:s.heap.IsList a (intItems d):=by rw[<- w];exact D.isList
   have f:=nums_intItems d;rw[<- w,show b.toArray.toList=b from rfl,y.numsOf] at f;have K:0<d.size:=by have:=Zk List.length f;simp at this;have:=List.length_pos_iff.mpr l;omega
   refine max_intList (I.ok.hd M) n K fun v h' tk F B=>?_;obtain⟨t,rfl⟩:=intItems_at F;obtain⟨N,J⟩:=argBest_gt (numAt d) (d.size - 1);refine⟨.int _,H,I.kept B,⟨t,rfl⟩,k _ _ _ _ .refl q .ofInt (h _ ?_ fun a z=>?_)⟩
   ·rw[f,numAt_eq];exact getD_mem (by rw[d_,aa1];omega)
   rw[f] at z;obtain⟨j,A,rfl⟩:=mem_getD z;rw[d_,aa1] at A;rw[<- numAt_eq];exact J j (by omega)
  |_=>exact h.elim
 |_=>cases h
end
def mL {o:Type} (l h i f:o->T) (p:o->Bool) (g:List o) (rest:St3) (j:still H) (A:g.length<=sizeLine) (z:∀a∈g,∀Q:Bool->gb->Prop,Q (p a) H->tt (some (l a)::some (h a)::some (i a)::rest) H Q) (y:∀a∈g,p a=true->∀Q:v6,Q (f a) H->te (some (l a)::some (h a)::some (i a)::rest) H Q) (m:n ((g.filter p).map f) H):
  Z7 (xX 3 (jf (eX 0) (jf (eX 1) (jf (eX 2) xW)))) tt te still n (g.map fun a=>.tup [l a,h a,i a]) [] (v::u::w::rest) H:=by
 refine jx (fun r ys Z H'=>∃(c e:List o) (v u w:Option T),Z=v::u::w::rest/\r=c.map (fun a=>.tup [l a,h a,i a])/\ys=(e.filter p).map f/\e++c=g/\H'=H) ⟨g,[],v,u,w,rfl,rfl,rfl,rfl,rfl⟩ ?_ ?_
 ·rintro ys Z H' ⟨c,e,v,u,w,rfl,d,rfl,b,rfl⟩;have k:c=[]:=abp.mp d.symm;subst k;rw[W_] at b;subst b;exact⟨j,by rw[d_];exact P_ (Zr _ _) A,m⟩
 rintro x r ys Z H' N ⟨c,e,v,u,w,rfl,d,rfl,b,rfl⟩ s;cases c with
 |nil=>cases d
 |cons t c =>
 injection d with a1 a2;subst a1 a2;refine⟨j,rfl,?_⟩;show tt (some (l t)::some (h t)::some (i t)::rest) H' _;refine z t (by rw[<- b];simp) _ ?_;cases q:p t with
 |true=>rw[if_pos rfl];refine y t (by rw[<- b];simp) q _ ⟨?_,s _ _ _ ⟨c,e++[t],_,_,_,rfl,rfl,by simp [q],by rw[<- b];simp,rfl⟩⟩;have:=Zk List.length b;simp only[g_,p_] at this;rw[d_];have:=Zr p e;omega
 |false =>
 rw[if_neg B_];exact s _ _ _ ⟨c,e++[t],_,_,_,rfl,rfl,by simp [q],by rw[<- b];simp,rfl⟩
open L2 HT
def jl (b:IsTup s.heap t a) (k:s.heap.IsSliceOf e l m .none) (pl:IsPart l c) (n:IsPart m f) (j:sIx a.size 0 c=0/\sIx a.size a.size f=a.size) (h:Q (.ref t) s):wpAny (model prog w) A (getItem (.ref t) (.ref e)) Q E s:=by
 obtain⟨p,i,d,o⟩:=id k;have g:s.TypeIs (.ref e) "slice":=⟨p,i,d⟩;unfold getItem;try with_reducible refine ZP ?_
 first | refine a_ (h_ ?_) | skip
 refine a_ (wpAny_sequenceKey b.typeIs (by decide) ?_);refine a_ (Zz (name:=Str.ofString "__getitem__") b.typeIs Zu
  (ZG Zu b.typeIs entry_tuple_getitem ?_ (args_tuple_getitem _ _)))
 show wpAny _ _ (Builtin.Tuple.tupleItemsOf (.ref t) >>= _) _ _ s;refine a_ (tupleItemsOf_ b ?_);refine a_ (aa3 g ?_);rw[if_pos (by decide)];refine a_ (fW k pl n ?_);show wpAny _ _ (if (((sIx a.size 0 c:Nat):Int)==0&&(1:Int)==1&&(sIx a.size a.size f - sIx a.size 0 c)==a.size)=true then _ else _) _ _ s;rw[if_pos (by rw[j.1,j.2];simp)];have q:=b.typeIs
 wp_walk
 exact⟨_,rfl,h_ h⟩
def JX:SlR X (fun x d f H Q=>∃a xs,x=.ref a/\SqT X.K H a xs/\(HT.sIx xs.length 0 d=0/\HT.sIx xs.length xs.length f=xs.length)/\Q (.ref a) H):=by
 intro g s Z H x v o p d f n Q I j k pl l h;obtain⟨a,xs,rfl,m,i,q⟩:=h;cases j;obtain⟨c,r,e,t⟩:=I.tuple m;have b:c.toArray.size=xs.length:=by rw[v_];exact r.length.symm
 refine⟨"tuple",_,Zu.lookup,e.typeIs,?_⟩;exact jl e k pl l (by rw[b];exact i) ⟨.ref a,H,I,rfl,q⟩
def El:T->Option Int->Option Int->gb->v6->Prop:=fun x b a H Q=>match x with
 |.tup ts=>Q (.tup (eZ ts b a)) H
 |_=>False
def NB (te:Ho) (c th:TO3):Ho:=fun Z H Q=>te Z H fun x a=>c Z a fun l b=>th Z b fun u H3=>El x l u H3 Q
def Em (ts:List T) (b a:Option Int) (H:gb) (Q:v6):El (.tup ts) b a H Q=Q (.tup (eZ ts b a)) H:=rfl
def Rq (te:Ho) (a th:TO3) (Z:St3) (H:gb) (Q:v6):NB te a th Z H Q=te Z H fun x c=>a Z c fun l b=>th Z b fun u H3=>El x l u H3 Q:=rfl
def fZ {A C:Option Expr} (K:xr X e te) (F:PO3 X A D) (N:PO3 X C th):xr X (.Subscript e (.Slice A C none J) o) (NB te D th):=by
 refine PE.imp (rP (aev.or JX) K F N) ?_;rintro Z H Q ⟨y,H3,S,j,G,h,k⟩;refine⟨y,H3,_,j,G,h,fun x P M q c t L E=>⟨y,q,_,j.mono c,t,E,fun l O w b m I=>⟨y,w,_,j.mono (c.trans b),m,I,fun u R s f d g=>?_⟩⟩⟩;have B:=k.at (c.trans (b.trans f));have n:=L.mono (b.trans f);cases M with
 |tup ts =>
  rw[Em] at g;obtain⟨a,xs,rfl,v,r⟩:=n.tup;by_cases i:HT.sIx xs.length 0 l=0/\HT.sIx xs.length xs.length u=xs.length
  ·refine .inr ⟨a,xs,rfl,v,i,B _ _ _ _ .refl d (.ofTup v r) ?_⟩;have e:eZ ts l u=ts:=by unfold eZ;rw[r.length,i.1,i.2,Nat.sub_zero,List.drop_zero,<- r.length,List.take_length]
   rw[e] at g;exact g
  exact .inl ⟨a,xs,rfl,v,i,fun p z=>B _ _ _ _ (aK z) (d.new z) (g8.newTup (H3:=s) z (lB r l u)) g⟩
 |_=>exact g.elim
def En (l : List Value) : ((List.range l.length).filterMap fun (k : Nat) => l.toArray[((l.length : Int) - 1 + (k : Int) * (-1)).toNat]?) = l.reverse:=by
 have e:(List.range l.length).map (fun (k:Nat)=>l.toArray[((l.length:Int) - 1+(k:Int)*(-1)).toNat]?)=l.reverse.map some:=by
  apply abh;intro i;rw[x_,x_];by_cases h:i<l.length
  ·rw[Zy h,aba h];have c:((l.length:Int) - 1+(i:Int)*(-1)).toNat=l.length - 1 - i:=by omega
   have d:l.length - 1 - i<l.length:=by omega
   simp only[abd,c,List.getElem?_toArray];rw[e_ d];rfl
  rw[O_ (by simp;omega),O_ (by simp;omega)];rfl
 have a:=Zk (List.filterMap id) e;rw [List.filterMap_map,List.filterMap_map] at a;have b : List.filterMap (id ∘ some) l.reverse = l.reverse:=List.filterMap_some;rw [b] at a;exact a
section
variable {w:World}
def JZ (n:Nat):Builtin.Slice.sliceAdjust none none (-1) (n:Int)=((n:Int) - 1,-1):=by
 unfold Builtin.Slice.sliceAdjust;simp
def wC (n:Nat):Builtin.Slice.slicePlaces ((n:Int) - 1) (-1) (-1)=n:=by
 unfold Builtin.Slice.slicePlaces;have a:¬((-1:Int)>0):=by omega
 simp only[a,Zv,Int.neg_neg,Int.ediv_one];split <;> omega
def jQ {n:Nat} (e:s.heap.IsSliceOf c .none .none vs) (ps:IsPart vs (some (-1))) (h:Q ((n:Int) - 1,-1,n) s):wpAny (model prog w) A (Builtin.Slice.sliceApplied (.ref c) (pure (n:Int))) Q E s:=by
 obtain⟨f,b,d,a⟩:=id e;unfold Builtin.Slice.sliceApplied Builtin.Slice.sliceFields;refine a_ (a_ (T_ b a (x:=.none) rfl (a_ (T_ b a (x:=.none) rfl (a_ (T_ b a (x:=vs) rfl (h_ ?_)))))));refine a_ (jb ps ?_);show wpAny _ _ (if ((-1:Int)==0)=true then _ else _) _ _ s;rw[if_neg (by decide)];refine a_ (slicePart_none (a_ (slicePart_none (a_ (h_ ?_)))));show wpAny _ _ (match Builtin.Slice.sliceAdjust none none (-1) (n:Int) with | (lo,hi)=>pure (lo,(-1:Int),Builtin.Slice.slicePlaces lo hi (-1))) _ _ s;rw[JZ n];show wpAny _ _ (pure ((n:Int) - 1,(-1:Int),Builtin.Slice.slicePlaces ((n:Int) - 1) (-1) (-1))) _ _ s;rw[wC];exact h_ h
def jy {b:List Value} (c:IsTup s.heap t b.toArray) (i:s.heap.IsSliceOf e .none .none vs) (ps:IsPart vs (some (-1))) (h:Q (.ref s.heap.objs.size) { s with heap:=s.heap.push { cls:=.type "tuple",data:=.seq b.reverse.toArray}}) (hsz:b.length<=sizeLine):wpAny (model prog w) A (getItem (.ref t) (.ref e)) Q E s:=by
 obtain⟨k,g,d,j⟩:=id i;have f:s.TypeIs (.ref e) "slice":=⟨k,g,d⟩;have a:sizeOk (.seq b.reverse.toArray):=by show b.reverse.toArray.size<=sizeLine;rw[v_,Q_];exact hsz
 unfold getItem;try with_reducible refine ZP ?_
 first | refine a_ (h_ ?_) | skip
 refine a_ (wpAny_sequenceKey c.typeIs (by decide) ?_);refine a_ (Zz (name:=Str.ofString "__getitem__") c.typeIs Zu
  (ZG Zu c.typeIs entry_tuple_getitem ?_ (args_tuple_getitem _ _)))
 show wpAny _ _ (Builtin.Tuple.tupleItemsOf (.ref t) >>= _) _ _ s;refine a_ (tupleItemsOf_ c ?_);refine a_ (aa3 f ?_);rw[if_pos (by decide)];refine a_ (jQ i ps ?_);rw[v_];show wpAny _ _ (if (((b.length:Int) - 1)==0&&(-1:Int)==1&&b.length==b.toArray.size)=true then _ else _) _ _ s;rw[if_neg (by simp),En];first
  |exact a_ (m:=Builtin.Tuple.tupleExact _) (Zw (h_ ⟨_,rfl,h_ h⟩) a)
  |exact a_ (m:=Builtin.Tuple.tupleExact _) (Zw (a_ (h_ (h_ ⟨_,rfl,h_ h⟩))) a)
  |exact a_ (a_ (m:=Builtin.Tuple.tupleExact _) (Zw (h_ (h_ ⟨_,rfl,h_ h⟩)) a))
  |exact a_ (a_ (m:=Builtin.Tuple.tupleExact _) (Zw (h_ ⟨_,rfl,h_ h⟩) a))
variable {e st:Expr}
def Wd (K:Frag) (te:TE) (ts:TO):TE:=fun Z H Q=>te Z H fun x c=>ts Z c fun o b=>o=some (-1)/\∃a xs,x=.ref a/\SqT K b a xs/\∀p,b p=none->Q (.ref p) (upd b p (.tup xs.reverse))
def J0 (u:PE X e te) (p:PO X (some st) ts):PE X (.Subscript e (.Slice none none (some st) p2) pos) (Wd X.K te ts):=by
 intro c s Z H Q I h;refine Subscript_ (Fl (u c s Z H _ I h) fun v y ⟨x,t,C,m,l⟩=>?_);refine wpAny_Slice ?_;rw[evalPart_none];refine h_ (h_ (Fl (p c y Z t _ C l) fun vs s3 ⟨o,H3,k,ps,B,a,xs,n,D,q⟩=>?_));subst B n;cases m;have d:Inv X c Z H3 { s3 with heap:=s3.heap.push { cls:=.type "slice",data:=.fields #[.none,.none,vs]}}:=k.kept (t':=s3.toks) fun b j q=>b_ _ q;obtain⟨f,r,g,z⟩:=d.tuple D;have i:=r.length;show wpAny (model X.prog X.w) X.A (subscriptTail e (.Slice none none (some st) p2) (.ref a) (.ref s3.heap.objs.size)) (EP X c Z Q) X.xe { s3 with heap:=s3.heap.push { cls:=.type "slice",data:=.fields #[.none,.none,vs]}};refine tail_any (T:="tuple") (ops:=[.ref a,.ref s3.heap.objs.size]) g.typeIs Zu.lookup ?_ (by with_unfolding_all rfl);refine jy g (Heap.IsSliceOf.new ..) ps ?_ (by omega);refine⟨.ref (s3.heap.push { cls:=.type "slice",data:=.fields #[.none,.none,vs]}).objs.size,_,d.laid (t':=s3.toks) (o:=.tup xs.reverse) (fun b j q=>b_ _ q) (k_ _) ?_,rfl,q _ (d.hok.fresh (k_ _))⟩;exact⟨by simpa using z,f.reverse,r.reverse,ac6.new _ _⟩
def rvT (x:T) (o:Option Int) (H:gb) (Q:v6):Prop:=match x with
 |.tup ts=>o=some (-1)/\Q (.tup ts.reverse) H
 |_=>False
def Eo (te:Ho) (ts:TO3):Ho:=fun Z H Q=>te Z H fun x a=>ts Z a fun o b=>rvT x o b Q
def Ep (te:Ho) (ts:TO3):Eo te ts Z H Q=te Z H fun x a=>ts Z a fun o b=>rvT x o b Q:=rfl
def Er (xs:List T) (o:Option Int):rvT (.tup xs) o H Q=(o=some (-1)/\Q (.tup xs.reverse) H):=rfl
def lE (u:xr X e te) (t:PO3 X (some st) ts):xr X (.Subscript e (.Slice none none (some st) p2) pos) (Eo te ts):=by
 refine PE.imp (J0 u t) ?_;rintro Z H Q ⟨n,H3,B,m,s,h,k⟩;refine⟨n,H3,_,m,s,h,fun x A y g c i w q=>⟨n,g,_,m.mono c,i,q,fun o z j b f d=>?_⟩⟩;cases y with
 |tup ts=>rw[Er] at d;obtain⟨a,xs,rfl,v,r⟩:=(w.mono b).tup;exact⟨d.1,a,xs,rfl,v,fun p l=>k _ _ _ _ (c.trans (b.trans (aK l))) (f.new l) (g8.newTup (H3:=j) l r.reverse) d.2⟩
 |_=>exact d.elim
def We (K:Frag) (te:TE) (ts:TO):TE:=fun Z H Q=>te Z H fun x c=>ts Z c fun o b=>o=some (-1)/\∃a xs,x=.ref a/\SqL K b a xs/\∀p,b p=none->Q (.ref p) (upd b p (.lst xs.reverse))
def J1 (u:PE X e te) (p:PO X (some st) ts):PE X (.Subscript e (.Slice none none (some st) p2) pos) (We X.K te ts):=by
 intro c s Z H Q I h;refine Subscript_ (Fl (u c s Z H _ I h) fun v y ⟨x,t,C,m,l⟩=>?_);refine wpAny_Slice ?_;rw[evalPart_none];refine h_ (h_ (Fl (p c y Z t _ C l) fun vs s3 ⟨o,H3,k,ps,B,a,xs,n,D,q⟩=>?_));subst B n;cases m;have f:Inv X c Z H3 { s3 with heap:=s3.heap.push { cls:=.type "slice",data:=.fields #[.none,.none,vs]}}:=k.kept (t':=s3.toks) fun b j q=>b_ _ q;obtain⟨d,r,g,z⟩:=f.list D;have i:=r.length;show wpAny (model X.prog X.w) X.A (subscriptTail e (.Slice none none (some st) p2) (.ref a) (.ref s3.heap.objs.size)) (EP X c Z Q) X.xe { s3 with heap:=s3.heap.push { cls:=.type "slice",data:=.fields #[.none,.none,vs]}};refine tail_any (T:="list") (ops:=[.ref a,.ref s3.heap.objs.size]) g.isList.typeIs slot_list_getitem.lookup ?_ (by with_unfolding_all rfl);refine wpAny_getItem_list_slice g.isList (Heap.IsSliceOf.new ..) .none .none ps (by simp) ?_ (by rw[v_] <;> omega);rw[PySem.W.krv_pick];refine⟨.ref (s3.heap.push { cls:=.type "slice",data:=.fields #[.none,.none,vs]}).objs.size,_,f.laid (t':=s3.toks) (o:=.lst xs.reverse) (fun b j q=>b_ _ q) (k_ _) ?_,rfl,q _ (f.hok.fresh (k_ _))⟩;refine⟨by simpa using z,d.reverse,0,r.reverse,?_⟩;rw[show d.toArray.toList.reverse.toArray=d.reverse.toArray by simp];exact j_ _ rfl
def rvH (o:Option O3) (H:gb) (Q:v6):Prop:=match o with
 |some (.lst ts)=>∀p,H p=none->Q (.ref p) (fY H p (.lst ts.reverse))
 |_=>False
def rvq (x:T) (o:Option Int) (H:gb) (Q:v6):Prop:=match x with
 |.ref a=>o=some (-1)/\rvH (H a) H Q
 |_=>False
def Et (te:Ho) (ts:TO3):Ho:=fun Z H Q=>te Z H fun x a=>ts Z a fun o b=>rvq x o b Q
def Eu (te:Ho) (ts:TO3):Et te ts Z H Q=te Z H fun x a=>ts Z a fun o b=>rvq x o b Q:=rfl
def Ew (a:Addr) (o:Option Int):rvq (.ref a) o H Q=(o=some (-1)/\rvH (H a) H Q):=rfl
def Ex (ts:List T):rvH (some (.lst ts)) H Q=∀p,H p=none->Q (.ref p) (fY H p (.lst ts.reverse)):=rfl
def J2 (v:xr X e te) (u:PO3 X (some st) ts):xr X (.Subscript e (.Slice none none (some st) p2) pos) (Et te ts):=by
 refine PE.imp (J1 v u) ?_;rintro Z H Q ⟨n,H3,D,m,t,h,k⟩;refine⟨n,H3,_,m,t,h,fun x C A f d i z s=>⟨n,f,_,m.mono d,i,s,fun o B j g c b=>?_⟩⟩;cases A with
 |ref a =>
  obtain⟨y,b⟩:=b;cases e:j a with
  |none=>rw[e] at b;exact b.elim
  |some q =>
  rw[e] at b;cases q with
  |lst ts=>obtain⟨xs,w,r⟩:=c.sqL (.inl e);refine⟨y,a,xs,z.ref,w,fun p l=>k _ _ _ _ (d.trans (g.trans (aK l))) (c.newLst l r.reverse) .ofRef (b p (c.fresh l))⟩
  |rol ts=>exact b.elim
  |dct ts=>exact b.elim
  |dcp ts=>exact b.elim
  |exc _ _=>exact b.elim
  |xdt _=>exact b.elim
  |dci _=>exact b.elim
  |dif _ _=>exact b.elim
  |ins _ _=>exact b.elim
 |_=>exact b.elim
def isN:T->Bool
 |.non=>true
 |_=>false
def Wf:R3:=fun x y H Q=>match y with
 |.non=>Q (.bl (isN x)) H
 |_=>False
def YS (x:T) (H:gb) (Q:v6):Wf x .non H Q=Q (.bl (isN x)) H:=rfl
def J3:isN .non=true:=rfl
def J4 (i:Int):isN (.int i)=false:=rfl
def J5 (x:Str):isN (.str x)=false:=rfl
def J6 (ts:List T):isN (.tup ts)=false:=rfl
def Rr (b:Bool):isN (.bl b)=false:=rfl
def Wg:dG X (compareOp .Is) Wf:=by
 refine OpR.imp PP ?_;rintro x y H Q ⟨c,ty,H3,g,b,d,f,h,k⟩;cases ty with
 |non =>
  refine⟨d.non,?_⟩;have e:decide (x=.non)=isN c:=by
   cases c with
   |non=>rw[b.non];rfl
   |int i=>rw[b.int];rfl
   |str i=>rw[b.str];rfl
   |bl i=>rw[b.bl];rfl
   |ref a=>rw[b.ref];rfl
   |tup ts=>obtain⟨a,vs,rfl,_⟩:=b.tup;rfl
   |ty n=>rw[b.ty];rfl
  rw[e];exact k _ _ _ _ .refl f .ofBl h
 |_=>exact h.elim
end
end L3
namespace L2
end L2
namespace L3
open L2
def orq (x:T) (p q:Prop):Prop:=match x with
 |.non=>p
 |.tup (_::_)=>q
 |_=>False
def Wh (b tb:Ho):Ho:=fun Z H Q=>b Z H fun x a=>orq x (tb Z a Q) (Q x a)
end L3
namespace L2
def iK:plainId "dict.update.loop"=true:=by decide +kernel
def pC:entryFor table "dict.update.loop"=some Builtin.«dict.update.loop»:=entryFor_of_tree (by kernel_rfl)
end L2
namespace L3
open L2
section
variable {X:Cx}
def g8.newDk {K:Frag} (s:g8 K H3 H) (b:H p=none) (r:acR K H kvs vs):g8 K (fY H3 p (.dct kvs)) (upd H p (.dK vs)):=fun a o e=>by
 by_cases c:a=p
 ·subst c;rw[aq] at e;cases e;exact⟨vs,aY,r.mono (aK b)⟩
 rw[aF c] at e;exact s.new b a o e
variable {pins:List (Addr × Obj)}{Z:L2.St}
def Inv.freeze (I:Inv X pins Z H s) (e:H a=some (.dK kvs)):∃o,s.heap.get? a=some o/\Inv X pins Z (upd H a (.frz o (.dK kvs))) s:=by
 have z:=I.hok a _ e;obtain⟨k,j,vs,g,o,l,ep,f,m,r⟩:=id (show vy X.prog X.w H s.heap a (.dK kvs) from z);have d:∀b u,H b=some u->(∀i,u≠.dK i)->b≠a:=fun b u q n w=>by subst w;rw[e] at q;cases q;exact n _ rfl
 refine⟨o,f,?_⟩;have:=I.step (h':=s.heap) (g':=s.gens) (d':=s.drawn) (t':=s.toks) (H':=upd H a (.frz o (.dK kvs))) (ch:=[]) (fun _ z=>nomatch z) (fun b o _ _ _ q _=>q) (fun b o _ _ _ q _=>⟨_,q⟩)
  (fun b o _ _ n=>by rw[aM (fun w=>by subst w;rw[e] at n;cases n)];exact n) (fun b o _ q=>⟨_,q⟩)
  (fun b xs q=>by rw[aM (d b _ q fun _=>nofun)];exact q) (fun b o u q=>by rw[aM (d b _ q fun _=>nofun)];exact q)
  (fun b ps q=>⟨#[],by rw[aM (d b _ q fun _=>nofun),Array.append_empty];exact q⟩) (fun _ q=>q) (fun b u q=>?_) I.bare
 ·exact this
 by_cases h:b=a
 ·subst h;rw[aY] at q;cases q;exact⟨f,k,j,vs,g,o,l,ep,f,m,r⟩
 rw[aM h] at q;exact (I.hok b u q).stay (fun _ _ _ r=>r) (fun c r=>by rw[aM (d c _ r fun _=>nofun)];exact r) fun c xs r=>by rw[aM (d c _ r fun _=>nofun)];exact r
end
def Wi (h:(bu P w).is k u=true):RelV (kV k) u:=by
 rcases bJ h with ⟨i,t,b,a⟩ | ⟨y,t,b,a⟩
 ·subst b a;exact⟨t,rfl⟩
 subst b a;exact⟨t,rfl⟩
def jm:∀{l₁:List a}{l₂:List c}{i:Nat}{x:a},Paired F l₁ l₂->l₁[i]?=some x->∃y,l₂[i]?=some y/\F x y
 |_,_,i,x,.nil,e=>by simp at e
 |_,_,0,x,.cons (b:=b) h t,e=>by simp at e;subst e;exact⟨b,rfl,h⟩
 |_,_,i+1,x,.cons h t,e=>by simpa using jm t (by simpa using e)
def Iti (d:Addr) (o:Obj):It :=
 ⟨fun i H=>∃kvs a,H d=some (.frz o (.dK kvs))/\kvs[i]?=some a,
  fun i H v H'=>∃p k x,v=.ref p/\H p=none/\H'=upd H p (.tup [kV k,x])/\∀kvs,H d=some (.frz o (.dK kvs))->kvs[i]?=some (k,x),
  fun i H=>∃kvs,H d=some (.frz o (.dK kvs))/\kvs.length<=i⟩
def Ag:entryFor table "dict_itemiterator.__iter__"=some Builtin.«dict_keyiterator.__iter__» :=
 entryFor_alias (id':="dict_keyiterator.__iter__") (by kernel_rfl) rfl (by decide +kernel) (by kernel_rfl)
def Ey {Z:L2.St} (I:Inv X b Z H s) (e:H d=some (.frz o (.dK kvs))) (j:o.data=.dict g ep):
  ∃vs,KV kvs vs/\s.heap.DictAt (bu X.prog X.w) d vs ep/\vs.length=g.size:=by
 obtain⟨h,_,_,vs,f,q,p,m,c,l,a,k,i,n⟩:=(show vy X.prog X.w H s.heap d (.frz o (.dK kvs)) from I.hok d _ e);rw[h] at c;cases c;rw[j] at a;cases a;exact⟨vs,f,⟨o,g,h,l,j,k,i,n⟩,by rw[<- i.length];simp⟩
def wD {K:Frag} (d it:Addr) (o:Obj) (W:Array DictEntry) (ep:Nat) (Y:o.data=.dict W ep):
  Turn P w K (.Tuple p x1 O) (Iti d o) [it] it (fun i h=>∃j m,IsItemIter h it d i W.size ep j m) where
 mem:=l_
 obj:=fun i h st c e=>by
  obtain⟨j,m,f⟩:=st
  rw[t_.mp e]
  exact⟨_,f,fun v z=>by cases z⟩
 keep:=fun i h h' st k=>by
  obtain⟨j,m,f⟩:=st
  exact⟨j,m,k it (by simp) _ f⟩
 item:=by
  intro X V N T e i g s Z H E I t st M
  subst V N T
  obtain⟨kvs,⟨k,x⟩,L,U⟩:=M
  obtain⟨j,m,f⟩:=st
  obtain⟨vs,l,R,a⟩:=Ey I L Y
  obtain⟨⟨k',u⟩,hu,ek,ru⟩:∃q,vs[i]?=some q/\k=q.1/\RelV x q.2:=jm l U
  subst ek
  rw[<- a] at f
  refine wpAny_pyNext_items_item f R hu fun key h' hk ho B hsz kp=>?_
  refine⟨_,rfl,wpAny_letOwnedTupleGo_items ho fun C G sb=>?_⟩
  have lt:∀{c o},s.heap.get? c=some o->s.heap.objs.size≠c:=fun q=>Ze (m_ q)
  have n:s.heap.objs.size≠it:=lt f
  have y:∀{c:Addr},c∈[it]->c≠s.heap.objs.size:=fun {c} e=>by rw[t_.mp e];exact Ne.symm n
  have S:∀c o,c∉[it]->s.heap.get? c=some o->C.get? c=some o:=fun c o J q=>(sb.2 c fun z=>J (z▸l_)).trans (kp c o (fun z=>J (z▸l_)) q)
  have I1:Inv X g Z (upd H s.heap.objs.size (.tup [kV k,x])) { s with heap:=s.heap.push { cls:=.type "tuple",data:=.seq #[key,u]},toks:=s.toks} :=
   I.laid (t':=s.toks) (fun b o q=>b_ _ q) (k_ _) (show vy X.prog X.w _ _ _ (.tup [kV k,x]) from ⟨by show 2<=sizeLine;decide,[key,u],.cons (Wi hk) (.cons ru .nil),ac6.new _ _⟩)
  have I2:Inv X g Z (upd H s.heap.objs.size (.tup [kV k,x])) { s with heap:=C}:=iJ (s:={ s with heap:=s.heap.push { cls:=.type "tuple",data:=.seq #[key,u]}}) (ch:=[it]) (t':=s.toks) I1 (fun c o J q=>by
   by_cases z:c=s.heap.objs.size
   ·
    subst z
    have r:(s.heap.push { cls:=.type "tuple",data:=.seq #[key,u]}).get? s.heap.objs.size=some o:=q
    rw[j_ _ rfl] at r
    cases r
    exact (sb.2 _ n).trans B
   ·
    have r:(s.heap.push { cls:=.type "tuple",data:=.seq #[key,u]}).get? c=some o:=q
    rw[Heap.get?_push_ne _ _ _ z] at r
    exact S c o J r) fun c e=>⟨by rw[aM (y e)];exact (t c e).1,(t c e).2⟩
  refine⟨.ref s.heap.objs.size,_,I2,rfl,⟨s.heap.objs.size,k,x,rfl,I.hok.fresh (k_ _),rfl,fun zs D=>by rw[L] at D;cases D;exact U⟩,⟨key,u,?_⟩,fun c e=>by rw[aM (y e)];exact (t c e).1⟩
  rw[<- a]
  exact G
 done:=by
  intro X V N T e i g s Z H E I t st M
  subst V N T
  obtain⟨kvs,L,U⟩:=M
  obtain⟨j,m,f⟩:=st
  obtain⟨vs,l,R,a⟩:=Ey I L Y
  have hl:=l.length
  rw[<- a] at f
  exact wpAny_pyNext_items_end (I.ok.hd e) f R (O_ (by omega)) fun h' eb=>⟨rfl,iJ (ch:=[it]) (t':=s.toks) I (fun b o nb q=>eb b o (fun z=>nb (by simp [z])) q) t⟩
 self:=fun A i s Q E st h=>by
  obtain⟨j,m,f⟩:=st
  have B:s.TypeIs (.ref it) "dict_itemiterator":=⟨_,f,rfl⟩
  refine wpAny_pyIter_slot B PySem.F.slot_dict_itemiterator_iter (ZG PySem.F.slot_dict_itemiterator_iter B Ag ?_ (PySem.F.args_dict_itemiterator_iter_1 _))
  show wpAny _ _ (ret (.ref it)) _ _ s
  exact h_ ⟨_,rfl,"dict_itemiterator",_,B,PySem.F.slot_dict_itemiterator_next.lookup,h⟩
section
variable {elts:List Expr}{x1:Nat}{tpos pos apos cpos:Pos}
def Rt (te:TE):TI:=fun Z H R=>te Z H fun x b=>∃a kvs,x=.ref a/\b a=some (.dK kvs)/\∀o,R (Iti a o) (upd b a (.frz o (.dK kvs)))
def Ez (K:PE X e te) (i:attributeBase e "items" X.env (eval e X.env)=eval e X.env:=by rfl) (g:(apos.endLine==cpos.line)=true:=by rfl):
  PI X (.Tuple elts x1 tpos) (.Call (.Attribute e "items" apos) [] [] cpos) (Rt te):=by
 intro f s Z H R I h;refine wpAny_Call_method0_late i g (Fl (K f s Z H _ I h) fun v s1 ⟨x,J,r,C,a,kvs,G,n,q⟩=>?_);subst G;cases C;obtain⟨z,l,vs,O,y⟩:=rT r.hok n;obtain⟨o,t,E⟩:=Inv.freeze r n;obtain⟨u,M,_⟩:=Cd r (a:=a) (.inl ⟨kvs,.inl n⟩);refine⟨"dict","dict.items",PySem.F.plainAttrs_dict,PySem.F.slot_dict_items,PySem.F.type_dict_items,u,M,abB rfl (PySem.evalArgs_none (call_meetsIn PySem.F.slot_dict_items u PySem.F.entry_dict_items (PySem.F.args_dict_items_1 _) (meets_dict_items (bu X.prog X.w) a l) ⟨⟨vs,y⟩,?_⟩))⟩;obtain⟨P,p,ep,k,D,j,B,A,L⟩:=id y;rw[t] at k;cases k;have hsz:p.size=vs.length:=by rw[<- A.length];simp
 have m:Inv X f Z (upd J a (.frz o (.dK kvs))) { s1 with heap:=s1.heap.push { cls:=.type "dict_items",data:=.fields #[.ref a]}}:=E.kept (t':=s1.toks) fun b o q=>b_ _ q;refine wpAny_pyIter_items (knd:=bu X.prog X.w) (d:=a) (kvs:=vs) (ep:=ep) ⟨_,j_ _ rfl,rfl,rfl⟩ ⟨o,p,b_ _ t,D,j,B,A,L⟩ ?_;refine⟨_,[_],_,Iti a o,_,rfl,m.kept (t':=s1.toks) fun b o q=>b_ _ q,wD a _ o p ep j,⟨.none,.none,?_⟩,fun c N=>?_,q o⟩
 ·rw[hsz];exact j_ _ rfl
 rw[t_.mp N];exact m.fpOk (k_ _) (m.hok.fresh (k_ _))
def Wj (e d f:TE):TE:=fun Z H Q=>e Z H fun x b=>∃a,x=.ref a/\IsD b a/\d Z b fun y c=>f Z c fun z H3=>∃kvs k,H3 a=some (.dK kvs)/\y=kV k/\kvs.length<sizeLine /\
 (∀v,eQ kvs k=some v->Q v H3)/\(eQ kvs k=none->Q z (upd H3 a (.dK (putK kvs k z))))
def J7 (L:PE X o td) (p:PE X e ty) (T:PE X f tx) (m:M2 X o "setdefault" apos e f cpos):PE X (.Call (.Attribute o "setdefault" apos) [e,f] [] cpos) (Wj td ty tx):=by
 intro c s Z H Q I h;refine wpAny_Call_method m.base m.few m.line PySem.F.plainAttrs_dict PySem.F.slot_dict_setdefault PySem.F.type_dict_setdefault (Fl (L c s Z H _ I h) fun u W ⟨x,V,D,rx,a,N,d,K⟩=>?_);subst N;obtain rfl:u=Value.ref a:=rx;obtain⟨P,t2,_⟩:=Cd D d;refine⟨P,t2,?_⟩;rw[m.trees];refine abB rfl (Calls.evalArgs_plain (aac (Fl (p c W Z V _ D K) fun iv G ⟨y,E,U,ry,R⟩ =>
  aac (Fl (T c G Z E _ U R) fun O s3 ⟨z,H3,n,r,kvs,k,A,Y,l,q3,q4⟩=>aas ?_))))
 subst Y;obtain⟨J,C,vs,g,B⟩:=rT n.hok A;have i:=g.val k;refine call_meetsIn PySem.F.slot_dict_setdefault B.typeIs PySem.F.entry_dict_setdefault (PySem.F.args_dict_setdefault_3 _ _ _) (kt_meets_setdefault (bu X.prog X.w) a (j6 ry) C O) ⟨vs,B,by rw[<- g.length];exact J,fun v t=>?_,fun hn h' j S=>?_⟩
 ·cases b:eQ kvs k with
  |none=>rw[b,t] at i;exact (show False from i).elim
  |some w =>
  rw[b,t] at i;exact⟨w,H3,n.tok _,i,q3 w b⟩
 have b:eQ kvs k=none:=by
  cases b:eQ kvs k with
  |none=>rfl
  |some w=>rw[b,hn] at i;exact (show False from i).elim
 have p:∃q,h'.get? a=some q:=let ⟨q,_,_,hq,_⟩:=j;⟨q,hq⟩;have M:(putK kvs k z).length<=sizeLine:=by have:=fc kvs k z;omega
 exact⟨z,_,lA n (by rw[A];exact True.intro) S p (vL M C (g.put k r) j),r,q4 b⟩
end
def cY (k:Int):List (Int × T)->Option T
 |[]=>none
 | (k',v)::r=>if k'=k then some v else cY k r
def wF (k:Int) (v:T) (kvs:List (Int × T)):List (Int × T) :=
 if (kvs.any fun a=>decide (a.1=k))=true then kvs.map (fun a=>if a.1=k then (a.1,v) else a) else kvs++[(k,v)]
def iM {K:Frag}:∀{kvs:List (Int × T)}{vs:List (Key × V)}{t:T},ac4 K H kvs vs->cY k kvs=some t->∃v,eQ vs (Sum.inl k:Key)=some v/\Rep K H t v
 |[],_,_,_,e=>by cases e
 | (k',t')::r,_,t,.cons (b:=(kk,v')) ⟨e1,rv⟩ rr,e=>by
  simp only at e1 rv
  subst e1
  unfold cY at e
  by_cases a:k'=k
  ·
   rw[if_pos a] at e
   cases e
   exact⟨v',by rw[eU (by rw[a])],rv⟩
  ·
   rw[if_neg a] at e
   obtain⟨v,c,q⟩:=iM rr e
   exact⟨v,by rw[eV (by intro z;exact a (Sum.inl.inj z))];exact c,q⟩
def gH {K:Frag}:∀{kvs:List (Int × T)}{vs:List (Key × V)},ac4 K H kvs vs->(eQ vs (Sum.inl k:Key)).isSome=(cY k kvs).isSome
 |[],_,.nil=>rfl
 | (k',t')::r,_,.cons (b:=(kk,v')) ⟨e1,rv⟩ rr=>by
  simp only at e1 rv
  subst e1
  unfold cY
  by_cases a:k'=k
  ·
   rw[if_pos a,eU (by rw[a])];rfl
  ·
   rw[if_neg a,eV (by intro z;exact a (Sum.inl.inj z))]
   exact gH rr
def EY {K:Frag} (j:Rep K H t v) (r:ac4 K H kvs vs):ac4 K H (wF k t kvs) (putK vs (Sum.inl k:Key) v):=by
 have e:∀{kvs:List (Int × T)} {vs:List (Key × V)},ac4 K H kvs vs->(kvs.any fun a=>decide (a.1=k))=(vs.any fun a=>decide (a.1=(Sum.inl k:Key)))/\ac4 K H (kvs.map (fun a=>if a.1=k then (a.1,t) else a)) (vs.map (fun a=>if a.1=(Sum.inl k:Key) then (a.1,v) else a)):=by
  intro kvs;induction kvs with
  |nil=>intro vs r;cases r;exact⟨rfl,.nil⟩
  |cons p l m =>
  intro vs r;cases r with
  |cons q n =>
  rename_i b u;obtain⟨g,f⟩:=m n;obtain⟨h,i⟩:=q;obtain⟨o,s⟩:=b;simp only at h i;subst h;by_cases d:p.1=k
  ·refine⟨by simp [d],?_⟩;simp only[H_,d,if_true];exact .cons ⟨rfl,j⟩ f
  have c:¬(Sum.inl p.1:Key)=Sum.inl k:=fun z=>d (Sum.inl.inj z);refine⟨by simp only[abQ,d,c,aap,Bool.false_or];exact g,?_⟩;simp only[H_,d,c,Zv];exact .cons ⟨rfl,i⟩ f
 obtain⟨g,f⟩:=e r;unfold wF putK;rw[g];split
 ·exact f
 exact Paired.snoc r ⟨rfl,j⟩
section
variable {K:Frag}
def g8.wrI (s:g8 K H3 H) (g:H a=some (.dK h)) (r:ac4 K H kvs c):g8 K (fY H3 a (.dci kvs)) (upd H a (.dK c)):=fun b o e=>by
 have f:tE K H (upd H a (.dK c)):=cu (by rw[g];exact trivial);by_cases d:b=a
 ·subst d;rw[aq] at e;cases e;exact⟨c,aY,r.mono f⟩
 rw[aF d] at e;exact (s b o e).stay f fun u q=>by rw[aM d];exact q
def g8.newI (s:g8 K H3 H) (c:H p=none):g8 K (fY H3 p (.dci [])) (upd H p (.dK [])):=fun a o e=>by
 by_cases b:a=p
 ·subst b;rw[aq] at e;cases e;exact⟨[],aY,.nil⟩
 rw[aF b] at e;exact s.new c a o e
def g8.frzI (s:g8 K H3 H) (g:H a=some (.dK c)) (r:ac4 K H kvs c):g8 K (fY H3 a (.dif o kvs)) (upd H a (.frz o (.dK c))):=fun b u e=>by
 have f:tE K H (upd H a (.frz o (.dK c))):=cu (by rw[g];exact trivial);by_cases d:b=a
 ·subst d;rw[aq] at e;cases e;exact⟨c,aY,r.mono f⟩
 rw[aF d] at e;exact (s b u e).stay f fun u q=>by rw[aM d];exact q
end
section
variable {X:Cx}{pos pos' apos cpos tpos:Pos}{elts:List Expr}{x1:Nat}
def yF:Ho:=fun _ H Q=>∀p,H p=none->Q (.ref p) (fY H p (.dci []))
def Fb:xr X (.Dict [] [] pos) yF:=by
 refine PE.imp rZ ?_;rintro Z H Q ⟨d,H3,e,c,b,h,k⟩ p a;exact k _ _ _ _ (aK a) (b.newI a) .ofRef (h p (b.fresh a))
def d1i (y:T) (p:Addr) (v:T) (H:gb) (Q:v6):Prop:=match y with
 |.int k=>H p=some (.dci [])/\Q (.ref p) (fY H p (.dci [(k,v)]))
 |_=>False
def qG (tk c:Ho):Ho:=fun Z H Q=>∀p,H p=none->tk Z (fY H p (.dci [])) fun y a=>c Z a fun v b=>d1i y p v b Q
def Wl (x:Int) (p:Addr) (v:T):d1i (.int x) p v H Q=(H p=some (.dci [])/\Q (.ref p) (fY H p (.dci [(x,v)]))):=rfl
def Ah (w:xr X k tk) (x:xr X v tv):xr X (.Dict [some k] [v] pos) (qG tk tv):=by
 refine PE.imp (xT (sr w x xR) rfl rfl (by simp) (by show 1<=15;decide)) ?_;rintro Z H Q ⟨q,H3,C,m,n,h,k⟩ p l;have a:tE X.K H (upd H p (.dK [])):=aK l;refine⟨q,fY H3 p (.dci []),_,m.mono a,n.newI l,h p (n.fresh l),fun y E B g d j A t=>?_⟩;refine⟨q,g,_,m.mono (a.trans d),j,t,fun z D u f c b s o=>?_⟩;cases B with
 |int key =>
  have h':f p=some (.dci [])/\C (.ref p) (fY f p (.dci [(key,u)])):=o
  obtain⟨ws,i,r⟩:=b p _ h'.1
  cases r
  refine⟨i,[(Sum.inl key,z)],by rw[(A.mono c).int];rfl,by show 1<=15;decide,?_⟩
  have e:jc [] [((Sum.inl key:Key),z)]=[((Sum.inl key:Key),z)]:=rfl
  rw[e]
  exact k _ _ _ _ (a.trans (d.trans (c.trans (cu (by rw[i];exact trivial))))) (b.wrI i (.cons ⟨rfl,s⟩ .nil)) .ofRef h'.2
 |_=>exact o.elim
def dgI (o:Option O3) (k:Int) (H:gb) (Q:v6):Prop:=match o with
 |some (.dci kvs)=>oq (cY k kvs) fun t=>Q t H
 |some (.dif _ kvs)=>oq (cY k kvs) fun t=>Q t H
 |_=>False
def Wm:R3:=fun x y H Q=>match x,y with
 |.ref a,.int k=>dgI (H a) k H Q
 |_,_=>False
def YT (a:Addr) (k:Int):Wm (.ref a) (.int k) H Q=dgI (H a) k H Q:=rfl
def NK (kvs:List (Int × T)) (k:Int):dgI (some (.dci kvs)) k H Q=oq (cY k kvs) fun t=>Q t H:=rfl
def Fd (o:Obj) (kvs:List (Int × T)) (k:Int):dgI (some (.dif o kvs)) k H Q=oq (cY k kvs) fun t=>Q t H:=rfl
def Fe (M:X.A.units+1<cLine) (E:xr X o u) (G:xr X i ti) (I:Jf i:=by exact fun _ _=>rfl):xr X (.Subscript o i pos) (sE Wm u ti):=by
 refine PE.imp (xQ M E G I) ?_;rintro Z H Q ⟨B,H3,K,s,F,h,k⟩;refine⟨B,H3,_,s,F,h,fun x O L l c p z D=>⟨B,l,_,s.mono c,p,D,fun y N J f g b w n=>?_⟩⟩;cases L with
 |ref a =>
  cases J with
  |int key =>
   have h':dgI (f a) key f K:=n
   cases e:f a with
   |none=>rw[e] at h';exact h'.elim
   |some C =>
    rw[e] at h'
    cases C with
    |dci kvs =>
     rw[NK] at h'
     obtain⟨vs,m,r⟩:=b a _ e
     cases d:cY key kvs with
     |none=>rw[d] at h';exact h'.elim
     |some t =>
      rw[d] at h'
      obtain⟨v,q,j⟩:=iM r d
      refine⟨a,v,z.ref,?_,k.at (c.trans g) _ _ _ _ .refl b j h'⟩
      rw[w.int,<- q]
      exact acM.k (k:=Sum.inl key) m
    |dif P kvs =>
     rw[Fd] at h'
     obtain⟨vs,m,r⟩:=b a _ e
     cases d:cY key kvs with
     |none=>rw[d] at h';exact h'.elim
     |some t =>
      rw[d] at h'
      obtain⟨v,q,j⟩:=iM r d
      refine⟨a,v,z.ref,?_,k.at (c.trans g) _ _ _ _ .refl b j h'⟩
      rw[w.int,<- q]
      exact .inl ⟨vs,Sum.inl key,.inr ⟨_,m⟩,rfl,rfl⟩
    |_=>exact h'.elim
  |_=>exact n.elim
 |_=>exact n.elim
def dpI (x y v:T) (H:gb) (Q:gb->Prop):Prop:=match x,y with
 |.ref a,.int k=>match H a with
  |some (.dci kvs)=>kvs.length<sizeLine/\Q (fY H a (.dci (wF k v kvs)))
  |_=>False
 |_,_=>False
def J8 (f e d:Ho):TS3:=fun D Z H=>d Z H fun v a=>f Z a fun x b=>e Z b fun y H3=>dpI x y v H3 fun c=>D.nx Z c
def diI (a:Bool) (y:T) (o:Option O3) (H:gb) (Q:v6):Prop:=match y,o with
 |.int k,some (.dci kvs)=>Q (.bl (if a then !(cY k kvs).isSome else (cY k kvs).isSome)) H
 |_,_=>False
def Ru (b:Bool) (y x:T) (H:gb) (Q:v6):Prop:=match x with
 |.ref a=>diI b y (H a) H Q
 |_=>False
def Ff (a:Bool) (d e:Ho):Ho:=fun Z H Q=>d Z H fun y b=>e Z b fun x c=>Ru a y x c Q
def Rv (b:Bool) (y:T) (a:Addr):Ru b y (.ref a) H Q=diI b y (H a) H Q:=rfl
def Wn (a:Bool) (k:Int) (kvs:List (Int × T)):diI a (.int k) (some (.dci kvs)) H Q=Q (.bl (if a then !(cY k kvs).isSome else (cY k kvs).isSome)) H:=rfl
def Fg {H:Hp}{f:v6} (n:g8 X.K H3 H) (m:Rep X.K H h x) (j:Rep X.K H d y) (q:Ru c d h H3 f):
  ∃a g b,x=.ref a/\acM H a y g/\(if c then !g.isSome else g.isSome)=b/\f (.bl b) H3:=by
 cases h with
 |ref a =>
  have h':diI c d (H3 a) H3 f:=q
  cases d with
  |int k =>
   cases e:H3 a with
   |none=>rw[e] at h';exact h'.elim
   |some i =>
    rw[e] at h'
    cases i with
    |dci kvs =>
     obtain⟨ws,l,r⟩:=n a _ e
     refine⟨a,eQ ws (Sum.inl k:Key),_,m.ref,by rw[j.int];exact acM.k (k:=Sum.inl k) l,rfl,?_⟩
     rw[gH r]
     exact h'
    |_=>exact h'.elim
  |_=>exact h'.elim
 |_=>exact q.elim
def wG (E:X.A.units+1<cLine) (u:xr X i ti) (s:xr X o td) (z:behindInMarks .NotIn o=false:=by rfl):PT3 X (.Compare i [.NotIn] [o] pos) (jN (Ff true ti td)):=by
 refine PT.imp (vo (oX E u s) z) ?_;rintro Z H Q ⟨n,H3,J,m,t,h,k⟩;refine⟨n,H3,_,m,t,h,fun y G I j f l B r=>⟨n,j,_,m.mono f,l,r,fun x F K C d c D v=>?_⟩⟩;obtain⟨a,p,b,e,g,w,q⟩:=Fg c D (B.mono d) v;exact⟨a,p,e,g,by rw[show (!p.isSome)=b from w];exact⟨b,rfl,k _ _ _ (f.trans d) c q⟩⟩
def sdO (o:Option O3) (a:Addr) (k:Int) (v:T) (H:gb) (Q:v6):Prop:=match o with
 |some (.dci kvs)=>kvs.length<sizeLine/\match cY k kvs with
  |some t=>Q t H
  |none=>Q v (fY H a (.dci (wF k v kvs)))
 |_=>False
def sdq (x y v:T) (H:gb) (Q:v6):Prop:=match x,y with
 |.ref a,.int k=>sdO (H a) a k v H Q
 |_,_=>False
def Rx (o:Option O3):Prop:=match o with
 |some (.dci _)=>True
 |_=>False
def Wo (x:T) (H:gb):Prop:=match x with
 |.ref a=>Rx (H a)
 |_=>False
def Fi (e d c:Ho):Ho:=fun Z H Q=>e Z H fun x a=>Wo x a/\d Z a fun y b=>c Z b fun v H3=>sdq x y v H3 Q
def wH (a:Addr):Wo (.ref a) H=Rx (H a):=rfl
def Ry (kvs:List (Int × T)):Rx (some (.dci kvs))=True:=rfl
def NP (a:Addr) (k:Int) (v:T):sdq (.ref a) (.int k) v H Q=sdO (H a) a k v H Q:=rfl
def NQ (kvs:List (Int × T)) (a:Addr) (k:Int) (v:T):sdO (some (.dci kvs)) a k v H Q=(kvs.length<sizeLine/\match cY k kvs with
  |some t=>Q t H
  |none=>Q v (fY H a (.dci (wF k v kvs)))):=rfl
def J9 (T:xr X o td) (he:xr X e J) (Y:xr X f tv) (m:M2 X o "setdefault" apos e f cpos:=by exact⟨rfl,rfl,rfl,rfl⟩):xr X (.Call (.Attribute o "setdefault" apos) [e,f] [] cpos) (Fi td J tv):=by
 refine PE.imp (J7 T he Y m) ?_;rintro Z H Q ⟨I,H3,Q3,w,U,h,k⟩;refine⟨I,H3,_,w,U,h,fun x H1 tx j d s rx A=>?_⟩;obtain⟨i,A⟩:=A;cases tx with
 |ref a =>
  cases F:j a with
  |none=>rw[wH,F] at i;exact i.elim
  |some u =>
  rw[wH,F] at i;cases u with
  |dci P =>
   obtain⟨L,C,_⟩:=s a _ F;refine⟨a,rx.ref,.inl ⟨L,.inl C⟩,I,j,_,w.mono d,s,A,fun y H2 J G q B ry W=>⟨I,G,_,w.mono (d.trans q),B,W,fun z O tz E p c M b=>?_⟩⟩;cases J with
   |int key =>
    rw[NP] at b;cases e:E a with
    |none=>rw[e] at b;exact b.elim
    |some u =>
    rw[e] at b;cases u with
    |dci kvs =>
     rw[NQ] at b;obtain⟨vs,D,r⟩:=c a _ e;have R:=d.trans (q.trans p);refine⟨vs,Sum.inl key,D,(ry.mono p).int,by rw[<- abj r];exact b.1,fun v N=>?_,fun hn=>?_⟩
     ·have l:=gH (k:=key) r;cases g:cY key kvs with
      |none=>rw[g,N] at l;cases l
      |some t =>
      rw[g] at b;obtain⟨v',S,V⟩:=iM r g;rw[N] at S;cases S;exact k _ _ _ _ R c V b.2
     have l:=gH (k:=key) r;cases g:cY key kvs with
     |some t=>rw[g,hn] at l;cases l
     |none =>
     rw[g] at b;have n:tE X.K O (upd O a (.dK (putK vs (Sum.inl key:Key) z))):=cu (by rw[D];exact trivial);exact k _ _ _ _ (R.trans n) (c.wrI D (EY M r)) (M.mono n) b.2
    |_=>exact b.elim
   |_=>exact b.elim
  |_=>exact i.elim
 |_=>exact i.elim
def itT (a:Int × T):T:=.tup [.int a.1,a.2]
def wI (a:Addr) (o:Obj) (kvs:List (Int × T)):gb->Prop:=fun H=>H a=some (.dif o kvs)
def itO (u:Option O3) (a:Addr) (H:gb) (R:List T->(gb->Prop)->gb->Prop):Prop:=match u with
 |some (.dci kvs)=>∀o,R (kvs.map itT) (wI a o kvs) (fY H a (.dif o kvs))
 |_=>False
def itq (x:T) (H:gb) (R:List T->(gb->Prop)->gb->Prop):Prop:=match x with
 |.ref a=>itO (H a) a H R
 |_=>False
def yG (te:Ho):TI3:=fun Z H R=>te Z H fun x a=>itq x a R
def Fj (te:Ho):yG te Z H R=te Z H fun x a=>itq x a R:=rfl
def NT (a:Addr):itq (.ref a) H R=itO (H a) a H R:=rfl
def NZ (kvs:List (Int × T)) (a:Addr):itO (some (.dci kvs)) a H R=∀o,R (kvs.map itT) (wI a o kvs) (fY H a (.dif o kvs)):=rfl
def wJ {K:Frag}{H:Hp}{o:Obj}:jw K (Iti a o) (kvs.map itT) (wI a o kvs) H:=fun H' c n f st=>by
 obtain⟨vs,b,r⟩:=f a _ st;have w:=abj r;refine⟨fun i k=>⟨vs,b,by rw[d_] at k;omega⟩,fun i t e=>?_⟩;rw[x_] at e;cases q:kvs[i]? with
 |none=>rw[q] at e;cases e
 |some u =>
 rw[q] at e;cases e;obtain⟨⟨A,v⟩,g,h,j⟩:=jm r q;simp only at h j;subst h;refine⟨⟨vs,_,b,g⟩,fun z m y=>?_⟩;obtain⟨p,s,x,rfl,d,rfl,l⟩:=y;have:=(l vs b).symm.trans g;cases this;exact⟨aK d,f.new d,g8.newTup (H3:=c) d (.cons .ofInt (.cons j .nil))⟩
def Fo (n:xr X e te) (b:attributeBase e "items" X.env (eval e X.env)=eval e X.env:=by rfl) (c:(apos.endLine==cpos.line)=true:=by rfl):
  PI3 X (.Tuple elts x1 tpos) (.Call (.Attribute e "items" apos) [] [] cpos) (yG te):=by
 refine PI.imp (Ez n b c) ?_;rintro Z H R ⟨p,H3,R3,m,u,h,k⟩;refine⟨p,H3,_,m,u,h,fun v H' t i l d r q=>?_⟩;cases t with
 |ref a =>
  rw[NT] at q;cases g:i a with
  |none=>rw[g] at q;exact q.elim
  |some j =>
  rw[g] at q;cases j with
  |dci kvs=>rw[NZ] at q;obtain⟨vs,f,s⟩:=d a _ g;exact⟨a,vs,r.ref,f,fun o=>k _ _ _ _ _ (l.trans (cu (by rw[f];exact trivial))) (d.frzI f s) wJ (q o)⟩
  |_=>exact q.elim
 |_=>exact q.elim
end
def pF {K:Frag}:∀{fs:List (Str × T)}{vs:List (Str × V)}{t:T},ada K H fs vs->aN f fs=some t->∃v,vs.lookup f=some v/\Rep K H t v
 |[],_,_,_,e=>by cases e
 | (g,t')::r,_,t,.cons (b:=(g',v')) ⟨e1,rv⟩ rr,e=>by
  simp only at e1 rv
  subst e1
  unfold aN at e
  by_cases a:g'=f
  ·
   rw[if_pos a] at e
   cases e
   exact⟨v',by rw[aan,show (f==g')=true from aaf.mpr a.symm],rv⟩
  ·
   rw[if_neg a] at e
   obtain⟨v,c,q⟩:=pF rr e
   exact⟨v,by rw[aan,show (f==g')=false from ZM.mpr (Ne.symm a)];exact c,q⟩
def mO {K:Frag}:∀{fs:List (Str × T)}{vs:List (Str × V)},ada K H fs vs->aN f fs=none->vs.lookup f=none
 |[],_,.nil,_=>rfl
 | (g,t')::r,_,.cons (b:=(g',v')) ⟨e1,rv⟩ rr,e=>by
  simp only at e1 rv
  subst e1
  unfold aN at e
  by_cases a:g'=f
  ·
   rw[if_pos a] at e;cases e
  ·
   rw[if_neg a] at e
   rw[aan,show (f==g')=false from ZM.mpr (Ne.symm a)]
   exact mO rr e
def dJ (f:Str) (v:T):List (Str × T)->List (Str × T)
 |[]=>[(f,v)]
 | (g,x)::r=>if g=f then (g,v)::r else (g,x)::dJ f v r
def ue {K:Frag} (c:Rep K H t v):∀{fs:List (Str × T)}{vs:List (Str × V)},ada K H fs vs->ada K H (dJ f t fs) (dW f v vs)
 |[],_,.nil=>.cons ⟨rfl,c⟩ .nil
 | (g,t')::r,_,.cons (b:=(g',v')) ⟨e1,r1⟩ rr=>by
  simp only at e1 r1
  subst e1
  unfold dJ dW
  by_cases a:g'=f
  ·
   rw[if_pos a,if_pos a];exact .cons ⟨rfl,c⟩ rr
  ·
   rw[if_neg a,if_neg a];exact .cons ⟨rfl,r1⟩ (ue c rr)
structure adq (K:Frag) (C:Addr) (ns:List Str):Prop where
 cls:Cls K C
 no:∀n∈ns,acW K C n
structure MtC (P:Program) (w:World) (K:Frag) (mg:Str->Option Value) (base:Heap) (C:Addr) (k:Nat) (m:Str) (ps:List Str) (sp:Sp3):Prop where
 cls:Cls K C
 ex:∃(f:Addr) (fd:FuncData),Meth K C m f/\Binds K fd ps []/\j9 P w K mg base k f fd ps sp
structure MkC (P:Program) (w:World) (K:Frag) (mg:Str->Option Value) (base:Heap) (C:Addr) (k:Nat) (x:Str) (ps:List Str) (sp:Sp3):Prop where
 at_:mg x=some (.ref C)
 ex:∃(f:Addr) (fd:FuncData),Mk K C f/\Binds K fd ps []/\j9 P w K mg base k f fd ps sp
structure GM (K:Frag) (C:Addr) (m qual:Str) (st:Stmt) (ps:List Str) (f:Addr) (fd:FuncData):Prop where
 cls:Cls K C
 fn:Fun K m qual st f fd
 b:Binds K fd ps []
 mt:Meth K C m f
structure GI (K:Frag) (mg:Str->Option Value) (C:Addr) (x qual:Str) (st:Stmt) (ps:List Str) (f:Addr) (fd:FuncData):Prop where
 mk_:Mk K C f
 fn:Fun K "__init__" qual st f fd
 b:Binds K fd ps []
 at_:mg x=some (.ref C)
def g8.wrO {K:Frag} (s:g8 K H3 H) (h:H a=some (.ins C d vs)) (r:ada K H fs c):g8 K (fY H3 a (.ins C fs)) (upd H a (.ins C d c)):=fun b o e=>by
 have g:tE K H (upd H a (.ins C d c)):=cu (by rw[h];exact trivial);by_cases f:b=a
 ·subst f;rw[aq] at e;cases e;exact⟨d,c,aY,r.mono g⟩
 rw[aF f] at e;exact (s b o e).stay g fun u q=>by rw[aM f];exact q
section
variable {pos pos' apos p:Pos}{H:gb}
def Rz (C:Addr) (f:Str) (u:Option O3) (H:gb) (Q:v6):Prop:=match u with
 |some (.ins C' fs)=>C'=C/\oq (aN f fs) fun t=>Q t H
 |_=>False
def Wq (C:Addr) (f:Str) (x:T) (H:gb) (Q:v6):Prop:=match x with
 |.ref a=>Rz C f (H a) H Q
 |_=>False
def N5 (C:Addr) (f:Str) (b:Ho):Ho:=fun Z H Q=>b Z H fun x a=>Wq C f x a Q
def Fp (a:Addr):Wq C f (.ref a) H Q=Rz C f (H a) H Q:=rfl
def RB (fs:List (Str × T)):Rz C f (some (.ins C fs)) H Q=oq (aN f fs) fun t=>Q t H:=propext ⟨fun h=>h.2,fun h=>⟨rfl,h⟩⟩
def ie (c:adq X.K C ns) (x:xr X e ta) (w:f∈ns:=by simp) (y:attributeBase e f X.env (eval e X.env)=eval e X.env:=by rfl):xr X (.Attribute e f pos) (N5 C f ta):=by
 refine PE.imp (PQ x y) ?_;rintro Z H Q ⟨D,H3,E,n,p,h,k⟩;refine⟨D,H3,_,n,p,h,fun v H' t b A d r q=>?_⟩;cases t with
 |ref a =>
  rw[Fp] at q;cases j:b a with
  |none=>rw[j] at q;exact q.elim
  |some m =>
  rw[j] at q;cases m with
  |ins l fs =>
   obtain⟨rfl,g⟩:=(show l=C/\oq (aN f fs) fun t=>E t b from q);clear q;obtain⟨z,vs,u,o⟩:=d a _ j;cases i:aN f fs with
   |none=>rw[i] at g;exact g.elim
   |some t =>
   rw[i,fM] at g;obtain⟨B,F,s⟩:=pF o i;exact⟨a,l,z,vs,B,r.ref,u,c.cls,c.no f w,F,k _ _ _ _ A d s g⟩
  |_=>exact q.elim
 |_=>exact q.elim
def sfO (C:Addr) (f:Str) (a:Addr) (y:T) (u:Option O3) (H:gb) (Q:gb->Prop):Prop:=match u with
 |some (.ins C' fs)=>C'=C/\fs.length<1000/\Q (fY H a (.ins C (dJ f y fs)))
 |_=>False
def sfq (C:Addr) (f:Str) (x y:T) (H:gb) (Q:gb->Prop):Prop:=match x with
 |.ref a=>sfO C f a y (H a) H Q
 |_=>False
def N6 (C:Addr) (f:Str) (c d:Ho):TS3:=fun D Z H=>d Z H fun y a=>c Z a fun x b=>sfq C f x y b fun H3=>D.nx Z H3
def N7 (a:Addr) (y:T) (Q:gb->Prop):sfq C f (.ref a) y H Q=sfO C f a y (H a) H Q:=rfl
def Wr (a:Addr) (y:T) (fs:List (Str × T)) (Q:gb->Prop):sfO C f a y (some (.ins C fs)) H Q=(fs.length<1000/\Q (fY H a (.ins C (dJ f y fs)))):=propext ⟨fun h=>h.2,fun h=>⟨rfl,h⟩⟩
def qH (c:adq X.K C ns) (N:xr X o ta) (E:xr X value tv) (I:f∈ns:=by simp) (G:swapsWith value (some (.Attribute o f pos')) pos.line X.env=pure false:=by rfl):PS3 X (.Assign [.Attribute o f pos'] value pos) (N6 C f ta tv):=by
 refine PS.imp (PX N E G) ?_;rintro D Z H ⟨s,H3,F,k,B,h,J,_⟩;refine⟨s,H3,_,k,B,h,fun y Q O l e p L z=>⟨s,l,_,k.mono e,p,z,fun x t P j d g M b=>?_⟩⟩;cases P with
 |ref a =>
  rw[N7] at b;cases r:j a with
  |none=>rw[r] at b;exact b.elim
  |some w =>
  rw[r] at b;cases w with
  |ins n fs=>obtain⟨rfl,A,q⟩:=(show n=C/\fs.length<1000/\F.nx s (fY j a (.ins C (dJ f O fs))) from b);obtain⟨v,vs,m,u⟩:=g a _ r;have i:tE X.K t (upd t a (.ins n v (dW f y vs))):=cu (by rw[m];exact trivial);exact⟨a,n,v,vs,M.ref,m,c.cls,c.no f I,by rw[<- abj u];exact A,J _ _ _ _ (e.trans (d.trans i)) (k.mono (e.trans (d.trans i))) (g.wrO m (ue (L.mono d) u)) q⟩
  |_=>exact b.elim
 |_=>exact b.elim
def mtO (C:Addr) (m:Str) (u:Option O3) (q:Prop):Prop:=match u with
 |some (.ins C' fs)=>C'=C/\aN m fs=none/\q
 |_=>False
def mtq (C:Addr) (m:Str) (x:T) (H:gb) (q:Prop):Prop:=match x with
 |.ref a=>mtO C m (H a) q
 |_=>False
def Fq (C:Addr) (m:Str) (sp:Sp3) (c:Ho) (t:TA3):Ho:=fun Z H Q=>c Z H fun x a=>mtq C m x a (t Z a fun vs b=>sp (x::vs) b Q)
def N8 (a:Addr) (q:Prop):mtq C m (.ref a) H q=mtO C m (H a) q:=rfl
def Oa (fs:List (Str × T)) (q:Prop):mtO C m (some (.ins C fs)) q=(aN m fs=none/\q):=propext ⟨fun h=>h.2,fun h=>⟨rfl,h⟩⟩
def qI {pl:Sem Bool}(M:MtC X.prog X.w X.K X.mg X.base C n m ps sp) (I:tR n X.A) (O:xr X o ta) (U:PA3 X (e::es) t)
  (g:starEach (e::es) X.env=(false,eval e X.env)::starEach es X.env:=by rfl) (p:(backTo pos (starEach es X.env)).any (·.1)=false:=by rfl)
  (J:eval (.Call (.Attribute o m apos) (e::es) [] pos) X.env=(do
   let ov <- eval o X.env
   standAt apos.atName
   let (f,first) <- holding [ov] (getMethod ov m pl)
   callWith pos f first (backTo pos (starEach (e::es) X.env)) (backToKw pos (keywordEach [] X.env))):=by rfl) :
  xr X (.Call (.Attribute o m apos) (e::es) [] pos) (Fq C m sp ta t):=by
 obtain⟨f,W,R,P,F⟩:=M.ex;refine PE.imp (IV (dvs:=[]) (E:=E0) O M.cls R F I P .nil Cg U g p J) ?_;rintro Z H Q ⟨x,H3,V,s,G,h,k⟩;refine⟨x,H3,_,s,G,h,fun v H' t b u c r q=>?_⟩;cases t with
 |ref a =>
  rw[N8] at q;cases l:b a with
  |none=>rw[l] at q;exact q.elim
  |some y =>
  rw[l] at q;cases y with
  |ins Y fs=>obtain⟨rfl,D,q⟩:=q;obtain⟨T,vs,L,B⟩:=c a _ l;refine⟨a,T,vs,r.ref,L,mO B D,x,b,_,s.mono u,c,q,fun us z ts j d i S N=>?_⟩;show sI X.K sp (v::(us++[])) z Q E0;rw[W_];exact⟨_,j,V,.cons (r.mono d) S,i,N,k.at (u.trans d)⟩
  |_=>exact q.elim
 |_=>exact q.elim
def Ft (C:Addr) (sp:Sp3) (t:TA3):Ho:=fun Z H Q=>t Z H fun vs b=>∀a,b a=none->sp (.ref a::vs) (fY b a (.ins C [])) fun v c=>v=.non/\Q (.ref a) c
def Ka (M:MkC X.prog X.w X.K X.mg X.base C n x ps sp) (O:tR (n+1) X.A) (J:Gl X x) (o:PA3 X (e::es) t) (r:(x==("__debug__":Str))=false:=by decide)
  (P:starEach (e::es) X.env=(false,eval e X.env)::starEach es X.env:=by rfl) (B:(backTo pos (starEach es X.env)).any (·.1)=false:=by rfl):xr X (.Call (.Name x p) (e::es) [] pos) (Ft C sp t):=by
 obtain⟨f,fd,S,m,F⟩:=M.ex;refine PE.imp (IW (dvs:=[]) (E:=E0) S F O J M.at_ m .nil Cg o r P B) ?_;rintro Z H Q ⟨Z3,H3,Q3,L,N,h,k⟩;refine⟨Z3,H3,_,L,N,h,fun us H' ts y W g U q=>fun a c o d z=>?_⟩;show sI X.K sp (V.ref a::(us++[])) _ _ E0;rw[W_];have G:upd H' c (.own a) a=none:=by rw[aM (Ne.symm z)];exact o
 have j:tE X.K H' (upd H' c (.own a)):=aK d;have i:tE X.K (upd H' c (.own a)) (upd (upd H' c (.own a)) a (.ins C c [])):=aK G;refine⟨T.ref a::ts,fY y a (.ins C []),_,.cons .ofRef (U.mono (j.trans i)),fun b I l=>?_,q a (g.fresh o),fun v H2 t2 Y u s R D=>⟨?_,?_⟩⟩
 ·by_cases m:b=a
  ·subst m;rw[aq] at l;cases l;exact⟨c,[],aY,.nil⟩
  rw[aF m] at l;exact ((g.new d).new G) b I l
 ·obtain⟨rfl,_⟩:=D;exact R.non
 exact k _ _ _ _ (W.trans (j.trans (i.trans u))) s .ofRef D.2
def Ob:R3:=fun x y H Q=>match y with
 |.non=>Q (.bl (!isN x)) H
 |_=>False
def Ws (x:T) (H:gb) (Q:v6):Ob x .non H Q=Q (.bl (!isN x)) H:=rfl
def qJ:dG X (compareOp .IsNot) Ob:=by
 refine OpR.imp Io ?_;rintro x y H Q ⟨c,ty,H3,g,b,d,f,h,k⟩;cases ty with
 |non =>
  refine⟨d.non,?_⟩;have e:decide (x=.non)=isN c:=by
   cases c with
   |non=>rw[b.non];rfl
   |int i=>rw[b.int];rfl
   |str i=>rw[b.str];rfl
   |bl i=>rw[b.bl];rfl
   |ref a=>rw[b.ref];rfl
   |tup ts=>obtain⟨a,vs,rfl,_⟩:=b.tup;rfl
   |ty n=>rw[b.ty];rfl
  rw[e];exact k _ _ _ _ .refl f .ofBl h
 |_=>exact h.elim
end
open L2 PySem.W
section
variable {O:KeyOrd}
def Kw (O:KeyOrd) (key:Nat->O.α) (n:Nat) {b:Type}:KasT b->(b->Prop)->Prop
 |.ret a,Q=>Q a
 |.ask i j k,Q=>i<n/\j<n/\Kw O key n (k (O.blt (key i) (key j))) Q
def Kw.bind {f:c->KasT b}{Q:b->Prop}:∀{t:KasT c},Kw O key n t (fun a=>Kw O key n (f a) Q)->Kw O key n (t.bind f) Q
 |.ret a,h=>h
 |.ask i j k,h=>⟨h.1,h.2.1,Kw.bind h.2.2⟩
def Kw.wp (d:∀i j (C:Bool->Shared->Prop),i<n->j<n->C (O.blt (key i) (key j)) s->b i j C s) {Q:c->Prop}{R:c->Shared->Prop} (e:∀a,Q a->R a s):
  ∀{t:KasT c},Kw O key n t Q->t.kasWp b R s
 |.ret a,h=>e a h
 |.ask i j k,h=>d i j _ h.1 h.2.1 (Kw.wp d e h.2.2)
structure Pm (n:Nat) (p:Array Nat):Prop where
 pm:p.toList.Perm (List.range n)
 n1:1<=n
def Pm.sz (h:Pm n p):p.size=n:=by
 have:=h.pm.length_eq;rw[z_] at this;simpa using this
def Pm.lt (h:Pm n p) (i:Nat):p.getD i 0<n:=by
 rw[aaA];by_cases a:i<p.size
 ·rw[aab a];exact X_.mp (h.pm.mem_iff.mp (by simp))
 rw[Array.getElem?_eq_none (by omega)];exact h.n1
def Pm.by (h:Pm n p) (e:q.Perm p):Pm n q:=⟨(Array.perm_iff_toList_perm.mp e).trans h.pm,h.n1⟩
def Ky (O:KeyOrd) (key:Nat->O.α) (p:Array Nat) (i:Nat):O.α:=key (p.getD i 0)
def Up (O:KeyOrd) (key:Nat->O.α) (p:Array Nat) (k:Nat):Prop:=∀i j,i<=j->j<k->O.kle (Ky O key p i) (Ky O key p j)
def Dn (O:KeyOrd) (key:Nat->O.α) (p:Array Nat) (k:Nat):Prop:=∀i j,i<=j->j<k->O.kle (Ky O key p j) (Ky O key p i)
def Ky.congr (h:p[i]?=q[j]?):Ky O key p i=Ky O key q j:=by unfold Ky;rw[aaA,aaA,h]
def Ky.mir (a:j<=p.size) (k:Nat):Ky O key (kas_rev p i j) k=if i<=k/\k<j then Ky O key p (i+j - 1 - k) else Ky O key p k:=by
 have e:=getElem?_mirror_all (i:=i) a k;split at e <;> rename_i h
 ·rw[if_pos h];exact Ky.congr e
 rw[if_neg h];exact Ky.congr e
def Ky.mirEq (b:j<=p.size) (a:∀k,i<=k->k<j->Ky O key p k=Ky O key p (j - 1)) (k:Nat):Ky O key (kas_rev p i j) k=Ky O key p k:=by
 rw[Ky.mir b];split
 ·rw[a _ (by omega) (by omega),a k (by omega) (by omega)]
 rfl
def Ky.bub (f:s<p.size) (c:d<=s) (k:Nat):Ky O key (bubble p s d) k=if k=s - d then Ky O key p s else if s - d<k/\k<=s then Ky O key p (k - 1) else Ky O key p k:=by
 have e:=getElem?_bubble f d c k;by_cases a:k=s - d
 ·rw[if_pos a] at e ⊢;exact Ky.congr e
 rw[if_neg a] at e ⊢;by_cases b:s - d<k/\k<=s
 ·rw[if_pos b] at e ⊢;exact Ky.congr e
 rw[if_neg b] at e ⊢;exact Ky.congr e
def Pm.rev (h:Pm n p) (i j:Nat):Pm n (kas_rev p i j):=h.by (mirror_perm _ _ _ _)
def Up.one:Up O key p 1:=fun i j b a=>by
 obtain rfl:i=j:=by omega
 exact aaZ _
def Up.more (d:1<=k) (h:Up O key p k) (e:O.kle (Ky O key p (k - 1)) (Ky O key p k)):Up O key p (k+1):=fun i j c f=>by
 by_cases a:j<k
 ·exact h i j c a
 obtain rfl:j=k:=by omega
 by_cases b:i=j
 ·subst b;exact aaZ _
 exact KeyOrd.kle_trans (h i (j - 1) (by omega) (by omega)) e
def Dn.more (d:1<=k) (h:Dn O key p k) (e:O.kle (Ky O key p k) (Ky O key p (k - 1))):Dn O key p (k+1):=fun i j c f=>by
 by_cases a:j<k
 ·exact h i j c a
 obtain rfl:j=k:=by omega
 by_cases b:i=j
 ·subst b;exact aaZ _
 exact KeyOrd.kle_trans e (h i (j - 1) (by omega) (by omega))
def wK (b:Pm n p):∀(f a:Nat),1<=a->Up O key p a->(∀m,a<=m->m<=a+f->Up O key p m->m=a+f\/O.klt (Ky O key p m) (Ky O key p (m - 1))->Q m)->Kw O key n (kas_asc p f a) Q
 |0,a,_,h,k=>k a (k_ _) (k_ _) h (.inl rfl)
 |f+1,a,ha,h,k=>by
  refine⟨b.lt _,b.lt _,?_⟩
  cases e:O.blt (key (p.getD a 0)) (key (p.getD (a - 1) 0)) with
  |true=>exact k a (k_ _) (by omega) h (.inr e)
  |false=>exact wK b f (a+1) (by omega) (h.more ha e) fun m i g d c=>k m (by omega) (by omega) d (c.imp (fun q=>by omega) id)
def lF:∀(f:Nat) (p:Array Nat) (a q:Nat),Pm n p->1<=a->a+f<=n->Dn O key p a->q+1<=a->(∀i,a - (q+1)<=i->i<a->Ky O key p i=Ky O key p (a - 1)) ->
  (∀b m r,Pm n b->a<=m->m<=a+f->Dn O key b m->r+1<=m->(∀i,m - (r+1)<=i->i<m->Ky O key b i=Ky O key b (m - 1))->Q (b,m,r))->Kw O key n (kas_desc f p a q) Q
 |0,p,a,q,hp,_,_,h,hq,he,k=>k p a q hp (k_ _) (k_ _) h hq he
 |f+1,p,a,q,hp,ha,hn,h,hq,he,k=>by
  refine⟨hp.lt _,hp.lt _,?_⟩
  cases e:O.blt (key (p.getD a 0)) (key (p.getD (a - 1) 0)) with
  |true =>
   have B:a<=p.size:=by rw[hp.sz];omega
   have d:∀b:Array Nat,∀i,a+1 - (0+1)<=i->i<a+1->Ky O key b i=Ky O key b (a+1 - 1):=fun b i u v=>by rw[show i=a+1 - 1 by omega]
   dsimp only
   rw[if_pos rfl]
   by_cases c:q>0
   ·
    rw[if_pos c]
    have t:=Ky.mirEq (O:=O) (key:=key) (i:=a - (q+1)) B he
    refine lF f _ (a+1) 0 (hp.rev _ _) (by omega) (by omega) (Dn.more ha (fun i j u v=>by rw[t,t];exact h i j u v) (by rw[t,t];exact abK e)) (by omega) (d _) fun b m r g w x l s o=>k b m r g (by omega) (by omega) l s o
   ·
    rw[if_neg c]
    exact lF f p (a+1) 0 hp (by omega) (by omega) (h.more ha (abK e)) (by omega) (d _) fun b m r g w x l s o=>k b m r g (by omega) (by omega) l s o
  |false =>
   dsimp only
   rw[if_neg B_]
   refine⟨hp.lt _,hp.lt _,?_⟩
   cases z:O.blt (key (p.getD (a - 1) 0)) (key (p.getD a 0)) with
   |true=>exact k p a q hp (k_ _) (by omega) h hq he
   |false =>
    dsimp only
    rw[if_neg B_]
    have y:Ky O key p a=Ky O key p (a - 1):=KeyOrd.kle_antisymm z e
    refine lF f p (a+1) (q+1) hp (by omega) (by omega) (h.more ha (by rw[y];exact aaZ _)) (by omega) (fun i u v=>?_) fun b m r g w x l s o=>k b m r g (by omega) (by omega) l s o
    rw[show a+1 - 1=a by omega]
    by_cases A:i=a
    ·
     rw[A]
    ·
     rw[y];exact he i (by omega) (by omega)
def yH (b:Pm n p) (d:1<=a) (g:a<=n) (h:Dn O key p a) (k:∀m p',Pm n p'->1<=m->m<=n->Up O key p' m->Q (m,p')):Kw O key n (kas_tail3 a n p) Q:=by
 refine Kw.bind (wK (b.rev 0 a) _ a d (fun i j l e=>?_) fun m l e f _=>k m _ (b.rev 0 a) (by omega) (by omega) f);have c:a<=p.size:=by rw[b.sz];exact g
 rw[Ky.mir c,Ky.mir c,if_pos (by omega),if_pos (by omega)];exact h _ _ (by omega) (by omega)
def kj (s:Pm n p) (v:a+1<=n) (h:Dn O key p (a+1)) (k:∀m b,Pm n b->1<=m->m<=n->Up O key b m->Q (m,b)):Kw O key n (kas_descPart a n p) Q:=by
 refine Kw.bind (lF _ p (a+1) 0 s (by omega) (by omega) h (by omega) (fun i l d=>by rw[show i=a+1 - 1 by omega]) fun b m r c t u e w q=>?_);dsimp only;have o:m<=b.size:=by rw[c.sz];omega
 by_cases g:r>0
 ·rw[if_pos g];have f:=Ky.mirEq (O:=O) (key:=key) (i:=m - (r+1)) o q;exact yH (c.rev _ _) (by omega) (by omega) (fun i j l d=>by rw[f,f];exact e i j l d) k
 rw[if_neg g];exact yH c (by omega) (by omega) e k
def Fv (a:Pm n p) (k:∀m p',Pm n p'->1<=m->m<=n->Up O key p' m->Q (m,p')):Kw O key n (kas_count n p) Q:=by
 have u:=a.n1;refine Kw.bind (wK a _ 1 (k_ _) Up.one fun m g v d o=>?_);by_cases l:m=n
 ·rw[if_pos (by simpa using l)];exact k m p a g (by omega) d
 rw[if_neg (by simpa using l)];have c:O.klt (Ky O key p m) (Ky O key p (m - 1)):=o.resolve_left (by omega);by_cases h:m>1
 ·rw[if_pos h];refine⟨a.lt _,a.lt _,?_⟩;cases e:O.blt (key (p.getD 0 0)) (key (p.getD (m - 1) 0)) with
  |true=>exact k m p a g (by omega) d
  |false =>
  dsimp only;rw[if_neg B_];have t:m<=p.size:=by rw[a.sz];omega
  have b:∀i,0<=i->i<m->Ky O key p i=Ky O key p (m - 1):=fun i _ q=>KeyOrd.kle_antisymm (d i (m - 1) (by omega) (by omega)) (KeyOrd.kle_trans e (d 0 i (by omega) q));have f:=Ky.mirEq (O:=O) (key:=key) (i:=0) t b;refine kj (a.rev _ _) (by omega) (Dn.more g (fun i j r s=>?_) ?_) k
  ·rw[f,f,b i (by omega) (by omega),b j (by omega) (by omega)];exact aaZ _
  rw[f,f];exact abK c
 rw[if_neg h];obtain rfl:m=1:=by omega
 refine kj a (by omega) (Dn.more (k_ _) (fun i j r s=>?_) (abK c)) k;obtain rfl:i=j:=by omega
 exact aaZ _
def mQ (a:Pm n p):∀(f l r:Nat),l<=r->r<=k->r - l<=f->(∀i,i<l->O.kle (Ky O key p i) (Ky O key p k))->(∀i,r<=i->i<k->O.klt (Ky O key p k) (Ky O key p i))->Up O key p k ->
  (∀l,l<=k->(∀i,i<l->O.kle (Ky O key p i) (Ky O key p k))->(∀i,l<=i->i<k->O.klt (Ky O key p k) (Ky O key p i))->Q l)->Kw O key n (kas_place p k f l r) Q
 |0,l,r,h1,h2,h3,lo,hi,_,q=>by
  obtain rfl:l=r:=by omega
  exact q l h2 lo hi
 |f+1,l,r,h1,h2,h3,lo,hi,hu,q=>by
  unfold kas_place
  by_cases h:l ≥ r
  ·
   obtain rfl:l=r:=by omega
   rw[if_pos h]
   exact q l h2 lo hi
  ·
   rw[if_neg h]
   refine⟨a.lt _,a.lt _,?_⟩
   cases e:O.blt (key (p.getD k 0)) (key (p.getD ((l+r) / 2) 0)) with
   |true=>exact mQ a f l ((l+r) / 2) (by omega) (by omega) (by omega) lo (fun i b c=>KeyOrd.klt_of_klt_of_kle e (hu _ i b c)) hu q
   |false=>exact mQ a f ((l+r) / 2+1) r (by omega) h2 (by omega) (fun i b=>KeyOrd.kle_trans (hu i ((l+r) / 2) (by omega) (by omega)) e) hi hu q
def Fw:∀(f:Nat) (p:Array Nat) (k:Nat),Pm n p->k+f=n->Up O key p k->(∀b,Pm n b->Up O key b n->Q b)->Kw O key n (kas_bin f p k) Q
 |0,p,k,hp,e,h,q=>by
  obtain rfl:k=n:=by omega
  exact q p hp h
 |f+1,p,k,hp,e,h,q=>by
  have m:k<p.size:=by rw[hp.sz];omega
  refine Kw.bind (mQ hp k 0 k (ZS _) (k_ _) (by omega) (fun _ z=>absurd z (Nat.not_lt_zero _)) (fun _ v s=>absurd s (by omega)) h fun l w o r=>?_)
  refine Fw f _ (k+1) (hp.by (bubble_perm _ _ _)) (by omega) (fun i j t u=>?_) q
  rw[Ky.bub m (by omega),Ky.bub m (by omega),show k - (k - l)=l by omega]
  by_cases d:i=l
  ·
   rw[if_pos d]
   by_cases a:j=l
   ·
    rw[if_pos a];exact aaZ _
   ·
    rw[if_neg a,if_pos (by omega)];exact abK (r _ (by omega) (by omega))
  ·
   rw[if_neg d]
   by_cases g:l<i/\i<=k
   ·
    rw[if_pos g,if_neg (by omega),if_pos (by omega)];exact h _ _ (by omega) (by omega)
   ·
    rw[if_neg g]
    by_cases a:j=l
    ·
     rw[if_pos a];exact o i (by omega)
    ·
     rw[if_neg a]
     by_cases c:l<j/\j<=k
     ·
      rw[if_pos c];exact h _ _ (by omega) (by omega)
     ·
      rw[if_neg c];exact h _ _ t (by omega)
def Kc (e:1<=n):Kw O key n (kas_sort n) fun p=>Pm n p/\Up O key p n:=by
 have f:Pm n (List.toArray (List.range n)):=⟨.refl _,e⟩;refine Kw.bind (Fv f fun m p d j i c=>?_);dsimp only;by_cases h:m<n
 ·rw[if_pos h,show max m 1=m by omega];exact Fw _ p m d (by omega) c fun g a b=>⟨a,b⟩
 rw[if_neg h];obtain rfl:m=n:=by omega
 exact⟨d,c⟩
def Kpt (h h':Heap):Prop:=∀b o,h.get? b=some o->h'.get? b=some o
end
def jR:bootBuiltins "sorted"=some (.builtin "sorted"):=by decide +kernel
def Srt (O:KeyOrd) (key:Nat->O.α) (n:Nat) (ps:List Nat):Prop:=ps.Perm (List.range n)/\∀i j,i<=j->j<n->O.kle (key (ps.getD i 0)) (key (ps.getD j 0))
def Srt.of (h:Pm n p) (u:Up O key p n):Srt O key n p.toList:=⟨h.pm,fun i j b a=>by
 have:=u i j b a;unfold Ky at this;rw[aaA,aaA] at this;rw[i_,i_,Array.getElem?_toList,Array.getElem?_toList];exact this⟩
section
variable {s:Shared}{O:KeyOrd}
def mR (l:s.heap.get? a=some (seqObj "list" vs.toArray c)) (q:vs.length<64) (y:2<=vs.length->∀h',(∀b o,b≠a->s.heap.get? b=some o->h'.get? b=some o)->wpAny (model P w) A (keyKind' vs.toArray) (fun κ s'=>s'={ s with heap:=h'}/\∀i j (C:Bool->Shared->Prop),i<vs.length->j<vs.length->C (O.blt (key i) (key j)) { s with heap:=h'}->kas_ask P w A κ vs i j C { s with heap:=h'}) (fun _ _=>False) { s with heap:=h'}) (h:∀ps,Srt O key vs.length ps->R (.done (.ret .none)) { s with heap:=sortedHeap s.heap a vs (ps.map fun i=>vs.getD i Value.none).toArray}):wpAny (model P w) A (Builtin.«list.sort» ⟨[.ref a],[]⟩) R E s:=by
 have U:a<s.heap.objs.size:=m_ l;have K:vs.length<=sizeLine:=by rw[aby];omega
 rw[list_sort_plain];refine a_ (listItems_at l rfl ?_);refine a_ (listUpdate_at l rfl ?_ (by rw[v_];omega) (ZS _));obtain⟨r,k⟩:∃r,(s.heap.update a (Obj.mapSeq fun _=>(#[]:Array Value))).get? a=some (seqObj "list" #[] r):=⟨_,abH l fun _=>#[]⟩;refine a_ (seqEpoch_at k rfl ?_);refine a_ (wpAny_newTuple ?_ K);refine a_ (ab5 ?_ (ZS _));refine ZP ?_;have d:(((s.heap.update a (Obj.mapSeq fun _=>(#[]:Array Value))).push (seqObj "tuple" vs.toArray 0)).push (seqObj "list" #[] 0)).get? a=some (seqObj "list" #[] r):=b_ _ (b_ _ k);show wpAny (model P w) A _ R E { s with heap:=((s.heap.update a (Obj.mapSeq fun _=>(#[]:Array Value))).push (seqObj "tuple" vs.toArray 0)).push (seqObj "list" #[] 0)};dsimp only;by_cases g:vs.toArray.size<2
 ·rw[if_pos g,if_pos g];refine a_ (h_ ?_);rw[StateT.run_pure];refine a_ (h_ ?_);dsimp only;rw[v_] at g;refine a_ (seqEpoch_at d rfl ?_);have e:((vs.toArray.zip vs.toArray).map (·.2))=((List.range vs.length).map fun i=>vs.getD i Value.none).toArray:=by
   match vs,g with
   |[],_=>simp
   |[v],_=>simp [List.range_succ]
  show wpAny (model P w) A (Builtin.List.listUpdate (.ref a) (fun _=>(vs.toArray.zip vs.toArray).map (·.2)) >>= _) R E _;rw[e];refine a_ (listUpdate_at d rfl ?_ (ZS _) (by rw[v_,d_,z_];omega));simp only[bne_self_eq_false,C_,Zv];refine h_ (h (List.range vs.length) ⟨.refl _,fun i j N T=>?_⟩);obtain rfl:i=j:=by omega
  exact aaZ _
 rw[if_neg g,if_neg g];rw[v_] at g;refine a_ (ZX (y (by omega) _ fun b o H e=>b_ _ (b_ _ ((aaC _ _ _ _ H).trans e))) (fun κ s' B=>?_) fun _ _ x=>x.elim);obtain⟨rfl,L⟩:=B;have I:=Kc (O:=O) (key:=key) (n:=vs.length) (by omega);refine a_ (ZX (kat_run (G:=fun p s'=>(Pm vs.length p/\Up O key p vs.length)/\s'={ s with heap:=((s.heap.update a (Obj.mapSeq fun _=>(#[]:Array Value))).push (seqObj "tuple" vs.toArray 0)).push (seqObj "list" #[] 0)}) (Q:=fun f s'=>∃p:Array Nat,arrOf f=p.map (kas_item (vs.toArray.zip vs.toArray))/\failedOf f=none/\(Pm vs.length p/\Up O key p vs.length)/\s'={ s with heap:=((s.heap.update a (Obj.mapSeq fun _=>(#[]:Array Value))).push (seqObj "tuple" vs.toArray 0)).push (seqObj "list" #[] 0)}) rfl (by omega) q (fun z f s' S F J u=>⟨z,F,J,u.1,u.2⟩) (I.wp L fun p m=>⟨m,rfl⟩)) ?_ fun _ _ e=>e);rintro⟨⟨⟩,f⟩ s' ⟨p,t,D,⟨m,M⟩,rfl⟩;dsimp only;rw[kat_snds rfl t];refine a_ (seqEpoch_at d rfl ?_);refine a_ (listUpdate_at d rfl ?_ (ZS _) (by rw[v_,d_,m.pm.length_eq,z_];omega));rw[D];simp only[bne_self_eq_false,C_,Zv];exact h_ (h _ (.of m M))
def wL:Kpt h (sortedAll h vs out)/\∃c,(sortedAll h vs out).get? (h.objs.size+1)=some (seqObj "list" out c):=by
 have f:((h.push (seqObj "list" #[] 0)).update h.objs.size (Obj.mapSeq (·++vs.toArray))).objs.size=h.objs.size+1:=by rw[Heap.size_update,size_push']
 have d:(((h.push (seqObj "list" #[] 0)).update h.objs.size (Obj.mapSeq (·++vs.toArray))).push (seqObj "list" vs.toArray 0)).get? (h.objs.size+1)=some (seqObj "list" vs.toArray 0):=by rw[<- f];exact j_ _ rfl
 refine⟨fun b o e=>?_,?_⟩
 ·have a:b<h.objs.size:=m_ e;unfold sortedAll sortedHeap;rw[aaC _ _ _ _ (G_ (ZW a))];refine b_ _ (b_ _ ?_);rw[aaC _ _ _ _ (G_ (ZW a))];refine b_ _ ?_;rw[aaC _ _ _ _ (G_ a)];exact b_ _ e
 unfold sortedAll sortedHeap;exact⟨_,abH (b_ _ (b_ _ (abH d fun _=>#[]))) fun _=>out⟩
def uf (d:s.heap.IsTuple l vs.toArray) (f:vs.length<=sizeLine) (h:Q vs { s with heap:=(s.heap.push (seqObj "list" #[] 0)).update s.heap.objs.size (Obj.mapSeq (·++vs.toArray))}):wpAny (model P w) A (collect (.ref l)) Q E s:=by
 obtain⟨o,c,b,n,e⟩:=id d;unfold collect;refine a_ (wpAny_runValue (aaX entry_proto_collect' ?_));refine a_ (m:=newList []) (ab5 (h_ ⟨abX _ (by decide +kernel),aaX entry_list_iadd' ?_⟩));show wpAny _ _ (Builtin.List.listExtendWith (.ref s.heap.objs.size) (.ref l) (.ref s.heap.objs.size)) _ _ { s with heap:=s.heap.push (seqObj "list" #[] 0)};unfold Builtin.List.listExtendWith;have a:(s.heap.push (seqObj "list" #[] 0)).get? l=some o:=b_ _ c;refine a_ (aa3 (T:="tuple") ⟨o,a,b⟩ ?_);rw[if_pos (by rw[show (Value.type "tuple"==Value.type "tuple")=true from rfl,Bool.or_true])];refine a_ (listItems_at a e (a_ (listItems_at (xs:=#[]) (n:=0) (j_ _ rfl) rfl ?_)));rw[if_neg (by simp)];refine a_ (listUpdate_at (xs:=#[]) (n:=0) (j_ _ rfl) rfl ?_ (ZS _) (by show (#[]++vs.toArray).size<=sizeLine+1;simp only[Array.size_append,v_,ZQ];omega));refine h_ ?_;refine a_ (m:=load s.heap.objs.size) (wpAny_load (abH (j_ _ rfl) _) ?_);show wpAny _ _ (pure ((#[]:Array Value)++vs.toArray).toList) Q E _;rw[show ((#[]:Array Value)++vs.toArray).toList=vs by simp];exact h_ h
def ug (a:s.heap.IsList l vs.toArray\/s.heap.IsTuple l vs.toArray) (b:vs.length<=sizeLine) (h:Q vs { s with heap:=(s.heap.push (seqObj "list" #[] 0)).update s.heap.objs.size (Obj.mapSeq (·++vs.toArray))}):wpAny (model P w) A (collect (.ref l)) Q E s:=by
 rcases a with a | a
 ·exact collect_list a h b
 exact uf a b h
def sortedK (t:s.heap.IsList l vs.toArray\/s.heap.IsTuple l vs.toArray) (f:vs.length<64) (p:2<=vs.length->∀h',Kpt s.heap h'->wpAny (model P w) A.in1.in1 (keyKind' vs.toArray) (fun κ s'=>s'={ s with heap:=h'}/\∀i j (C:Bool->Shared->Prop),i<vs.length->j<vs.length->C (O.blt (key i) (key j)) { s with heap:=h'}->kas_ask P w A.in1.in1 κ vs i j C { s with heap:=h'}) (fun _ _=>False) { s with heap:=h'}) (h:∀ps h' c,Srt O key vs.length ps->Kpt s.heap h'->h'.get? (s.heap.objs.size+1)=some (seqObj "list" (ps.map fun i=>vs.getD i Value.none).toArray c)->Q (.ref (s.heap.objs.size+1)) { s with heap:=h'}):wpAny (model P w) A (call (.builtin "sorted") [.ref l]) Q E s:=by
 refine Calls.call_function_entry kind_sorted plain_sorted entry_sorted (args_sorted1 _) ?_;unfold Builtin.«sorted»;refine a_ (m:=checkCount "sorted" 1 1 _) (h_ ?_);refine a_ (ug t (by rw[aby];omega) ?_);refine a_ (ab5 ?_ (by rw[aby];omega));have g:((s.heap.push (seqObj "list" #[] 0)).update s.heap.objs.size (Obj.mapSeq (·++vs.toArray))).objs.size=s.heap.objs.size+1:=by rw[Heap.size_update,size_push']
 have a:(((s.heap.push (seqObj "list" #[] 0)).update s.heap.objs.size (Obj.mapSeq (·++vs.toArray))).push (seqObj "list" vs.toArray 0)).get? (s.heap.objs.size+1)=some (seqObj "list" vs.toArray 0):=by rw[<- g];exact j_ _ rfl
 show wpAny _ _ _ _ _ { s with heap:=((s.heap.push (seqObj "list" #[] 0)).update s.heap.objs.size (Obj.mapSeq (·++vs.toArray))).push (seqObj "list" vs.toArray 0)};rw[g];refine a_ (ZP (ZG slot_list_sort ⟨_,a,rfl⟩ entry_list_sort (mR (O:=O) (key:=key) a f (fun r h' d=>p r h' fun b o e=>d b o ?_ ?_) fun ps q=>⟨_,rfl,?_⟩) (args_list_sort _)))
 ·exact G_ (ZW (m_ e))
 ·have n:b<s.heap.objs.size:=m_ e;refine b_ _ ?_;rw[aaC _ _ _ _ (G_ n)];exact b_ _ e
 obtain⟨d,c,k⟩:=wL (h:=s.heap) (vs:=vs) (out:=(ps.map fun i=>vs.getD i Value.none).toArray);exact h_ ⟨_,rfl,h ps _ c q d k⟩
end
open L2 PySem.W M
@[reducible] def adh:KeyOrd:=strKind.toKeyOrd
def Ai (x:Str):adh.α:=x.cps.toList
section
variable {X:Cx}{pins:List (Addr × Obj)}{Z:L2.St}
def RC (I:Inv X pins Z H s) (M:g8 X.K H3 H) (k:KV3 X.K H Q3 Q) {n:Type} (O:KeyOrd) (key:n->O.α) (f:n->T) (m:n) {d:List n} (L:gV X.K H (d.map f) ys) (o:Vals ys b) (U:s.heap.IsList a b.toArray\/s.heap.IsTuple a b.toArray) (h64:d.length<64) (S:2<=b.length->∀h',Kpt s.heap h'->wpAny (model X.prog X.w) X.A.in1.in1 (keyKind' b.toArray) (fun κ s'=>s'={ s with heap:=h'}/\∀i j (C:Bool->Shared->Prop),i<b.length->j<b.length->C (O.blt (key (d.getD i m)) (key (d.getD j m))) { s with heap:=h'}->kas_ask X.prog X.w X.A.in1.in1 κ b i j C { s with heap:=h'}) (fun _ _=>False) { s with heap:=h'}) (h:∀us:List n,us.Perm d->us.Pairwise (fun x y=>O.kle (key x) (key y))->∀p,H3 p=none->Q3 (.ref p) (fY H3 p (.lst (us.map f)))):wpAny (model X.prog X.w) X.A (call (.builtin "sorted") [.ref a]) (EP X pins Z Q) X.xe s:=by
 have P:=L.length;rw[d_] at P;have l2:=o.length;have hz:sizeLine=16777216:=rfl;refine sortedK (O:=O) (key:=fun i=>key (d.getD i m)) U (by omega) S fun q h' c Y kp F=>?_;obtain⟨u,J⟩:=Y;have g:∀i∈q,i<d.length:=fun i e=>by have:=X_.mp (u.mem_iff.mp e);omega
 have r:q.length=d.length:=by rw[u.length_eq,z_];omega
 have N:gV X.K H ((q.map fun i=>d.getD i m).map f) (q.map fun i=>ys.getD i .non):=by
  clear J u r F;induction q with
  |nil=>exact .nil
  |cons i q G =>
  refine .cons ?_ (G fun j l=>g j (.tail _ l));have e:=g i (.head _);obtain⟨y,B,v⟩:=L.get (i:=i) (t:=f d[i]) (by rw[x_,e_ e];rfl);dsimp only;rw[i_,e_ e,i_,B];exact v
 have R:Vals (q.map fun i=>ys.getD i .non) (q.map fun i=>b.getD i Value.none):=by
  clear J u r N F;induction q with
  |nil=>exact .nil
  |cons i q G =>
  refine .cons ?_ (G fun j l=>g j (.tail _ l));have e:i<ys.length:=by have:=g i (.head _);omega
  obtain⟨z,B,v⟩:=o.get (i:=i) (e_ e);dsimp only;rw[i_,e_ e,i_,B];exact v
 have D:H (s.heap.objs.size+1)=none:=I.hok.fresh (aaE _);refine⟨.ref (s.heap.objs.size+1),upd H (s.heap.objs.size+1) (.lst (q.map fun i=>ys.getD i .non)),I.laid (t':=s.toks) kp (aaE _) ⟨by rw[d_];omega,_,c,R,F⟩,rfl,?_⟩;refine k _ _ _ _ (aK D) (M.newLst D N) .ofRef (h _ ?_ ?_ _ (M.fresh D))
 ·have E:=u.map fun i=>d.getD i m;rw[show b.length=d.length by omega] at E;have W:(List.range d.length).map (fun i=>d.getD i m)=d:=by
   apply abh;intro i;rw[x_];by_cases e:i<d.length
   ·rw[Zy e,e_ e];simp [i_,e]
   rw[O_ (by simpa using e),O_ (by omega)];rfl
  rw[W] at E;exact E
 rw[aaG];intro i j e l hij;rw[d_] at e l;have:=J i j (by omega) (by omega);rw[i_,e_ e,i_,e_ l] at this;rw[aaJ,aaJ];exact this
def qK:∀{d:List Str}{ys:List V}{c:List Value},gV X.K H (d.map T.str) ys->Vals ys c->StrsAre c d
 |[],_,_,r,a=>by rw[r.inv0] at a;cases a;exact .nil
 |x::d,_,_,r,a=>by
  obtain⟨v,f,rfl,q,b⟩:=r.inv
  cases a with
  |cons e a =>
   cases q.str
   obtain⟨t,rfl⟩:=e
   exact .cons x t (qK b a)
def StrsAre.get (h:StrsAre a c):∀i,i<a.length->∃t,a.getD i Value.none=Value.str (c.getD i default) t:=by
 induction h with
 |nil=>intro i b;exact absurd b (Nat.not_lt_zero _)
 |cons x t _ d =>
 intro i b;cases i with
 |zero=>exact⟨t,rfl⟩
 |succ i=>exact d i (by simpa using b)
def StrsAre.len (h:StrsAre a b):a.length=b.length:=by
 induction h with
 |nil=>rfl
 |cons x t _ c=>rw[p_,p_,c]
def Fx (I:Inv X pins Z H s) (z:g8 X.K H3 H) (k:KV3 X.K H Q3 Q) (g:gV X.K H (d.map T.str) ys) (c:Vals ys b) (r:s.heap.IsList a b.toArray\/s.heap.IsTuple a b.toArray) (f:d.length<64) (h:∀us:List Str,us.Perm d->us.Pairwise (fun x y=>adh.kle (Ai x) (Ai y))->∀p,H3 p=none->Q3 (.ref p) (fY H3 p (.lst (us.map T.str)))):wpAny (model X.prog X.w) X.A (call (.builtin "sorted") [.ref a]) (EP X pins Z Q) X.xe s:=by
 have e:=qK g c;refine RC I z k adh Ai T.str default g c r f (fun q h' E=>?_) h;refine kas_kind (T:=.type "str") (s:={ s with heap:=h'}) q (fun v l=>?_) rfl rfl ⟨rfl,fun i j C o n D=>?_⟩
 ·obtain⟨x,t,rfl⟩:=e.all v l;exact Looks.of_pure rfl
 obtain⟨t,B⟩:=StrsAre.get e i o;obtain⟨u,m⟩:=StrsAre.get e j n;unfold kas_ask;rw[B,m];exact kas_lt_str D
end
def leS (x y:Str):Prop:=adh.kle (Ai x) (Ai y)
def srL (x:T) (H:gb) (Q:v6):Prop:=∃(b:List Str) (a:Addr),x=.ref a/\H a=some (.lst (b.map T.str))/\b.length<64/\∀us:List Str,us.Perm b->us.Pairwise leS->∀p,H p=none->Q (.ref p) (fY H p (.lst (us.map T.str)))
def Fy:List T->gb->v6->Prop:=fun ts H Q=>match ts with
 |[x]=>srL x H Q
 |_=>False
def RD (x:T) (H:gb) (Q:v6):Fy [x] H Q=srL x H Q:=rfl
def Kd:dj X (.builtin "sorted") Fy:=by
 intro f s Z H xs us Q I o h;obtain⟨ts,H3,q,r,g,h,k⟩:=h;cases ts with
 |nil=>exact h.elim
 |cons t ts =>
 cases ts with
 |cons _ _=>exact h.elim
 |nil =>
 obtain⟨v,rfl,b⟩:=r.one';obtain⟨u,rfl,e⟩:=vals1 o;obtain⟨p,a,rfl,l,c,h⟩:=h;rw[b.ref] at e;cases e;obtain⟨ys,j,m⟩:=g.sqL (.inl l);obtain⟨i,d,n,_⟩:=I.list j;exact Fx I g k m d (.inl n.isList) c h
def Aj (r:KV kvs vs):∀(us:List Value),us.length=vs.length->(∀(j:Nat) (v:Value),us[j]?=some v->∃k x,vs[j]?=some (k,x)/\(bu P w).is k v=true)->Vals (kvs.map fun q=>kV q.1) us:=by
 induction r with
 |nil=>intro us h _;rw[aau h];exact .nil
 |cons m n l =>
 intro us d a;cases us with
 |nil=>cases d
 |cons u us =>
 refine .cons ?_ (l us (Nat.succ.inj d) fun j v e=>a (j+1) v e);obtain⟨k,x,e,g⟩:=a 0 u rfl;cases e;obtain⟨f,_⟩:=m;dsimp only at f ⊢;rw[f];rcases bJ g with ⟨i,t,c,b⟩ | ⟨y,t,c,b⟩
 ·rw[c,b];exact⟨t,rfl⟩
 rw[c,b];exact⟨t,rfl⟩
def Ak {K:Frag} (r:acR K H kvs vs):gV K H (kvs.map fun q=>T.str q.1) (vs.map fun q=>kV q.1):=by
 induction r with
 |nil=>exact .nil
 |cons h _ a =>
 refine .cons ?_ a;dsimp only;rw[h.1];exact .ofStr
def Ke:Kpt h (sortedHeap (h.push (seqObj "list" vs.toArray 0)) h.objs.size vs out)/\∃c,(sortedHeap (h.push (seqObj "list" vs.toArray 0)) h.objs.size vs out).get? h.objs.size=some (seqObj "list" out c):=by
 have a:(h.push (seqObj "list" vs.toArray 0)).get? h.objs.size=some (seqObj "list" vs.toArray 0):=j_ _ rfl;refine⟨fun b o e=>?_,?_⟩
 ·have d:b<h.objs.size:=m_ e;unfold sortedHeap;rw[aaC _ _ _ _ (G_ d)];refine b_ _ (b_ _ ?_);rw[aaC _ _ _ _ (G_ d)];exact b_ _ e
 unfold sortedHeap;exact⟨_,abH (b_ _ (b_ _ (abH a fun _=>#[]))) fun _=>out⟩
section
variable {P:Program}{w:World}{A:Around}{O:KeyOrd}
def Kf (q:∀A' E',A'.handled=A.handled->wpAny (model P w) A' (collect x) (fun vs s1=>vs.length<64 /\
   (2<=vs.length->∀h',Kpt s1.heap h'->wpAny (model P w) A.in1.in1 (keyKind' vs.toArray) (fun κ s'=>s'={ s1 with heap:=h'}/\∀i j (C:Bool->Shared->Prop),i<vs.length->j<vs.length->C (O.blt (key i) (key j)) { s1 with heap:=h'}->kas_ask P w A.in1.in1 κ vs i j C { s1 with heap:=h'}) (fun _ _=>False) { s1 with heap:=h'}) /\
   ∀ps h' c,Srt O key vs.length ps->Kpt s1.heap h'->h'.get? s1.heap.objs.size=some (seqObj "list" (ps.map fun i=>vs.getD i Value.none).toArray c)->Q (.ref s1.heap.objs.size) { s1 with heap:=h'}) E' s):wpAny (model P w) A (call (.builtin "sorted") [x]) Q E s:=by
 refine Calls.call_function_entry kind_sorted plain_sorted entry_sorted (args_sorted1 _) ?_;unfold Builtin.«sorted»;refine a_ (m:=checkCount "sorted" 1 1 _) (h_ ?_);refine a_ (ZX (q _ _ rfl) (fun vs s1 g=>?_) fun _ _ e=>e);obtain⟨f,l,h⟩:=g;refine a_ (ab5 ?_ (by rw[aby];omega));have a:(s1.heap.push (seqObj "list" vs.toArray 0)).get? s1.heap.objs.size=some (seqObj "list" vs.toArray 0):=j_ _ rfl;refine a_ (ZP (ZG slot_list_sort ⟨_,a,rfl⟩ entry_list_sort (mR (O:=O) (key:=key) a f (fun p h' d=>l p h' fun b o e=>d b o ?_ ?_) fun ps n=>⟨_,rfl,?_⟩) (args_list_sort _)))
 ·exact G_ (m_ e)
 ·exact b_ _ e
 obtain⟨d,c,k⟩:=Ke (h:=s1.heap) (vs:=vs) (out:=(ps.map fun i=>vs.getD i Value.none).toArray);exact h_ ⟨_,rfl,h ps _ c n d k⟩
def uh {T:String} (K:KdlSrc P w T r d n u z) (D:A.handled=none) (p:z s.heap) (F:n<=sizeLine) (h:∀h' tk a,Kpt s.heap h'->s.heap.objs.size<h'.objs.size->ItemsOf u a n->Q a.toList { s with heap:=h',toks:=tk}):wpAny (model P w) A (collect (.ref r)) Q E s:=by
 have k:=K.there _ p;unfold collect;refine a_ (wpAny_runValue (aaX entry_proto_collect' ?_));refine a_ (m:=newList []) (ab5 (h_ ⟨abX _ (by decide +kernel),aaX entry_list_iadd' ?_⟩))
 let st:Shared:={ s with heap:=s.heap.push (seqObj "list" #[] 0)}
 let G:Result->Shared->Prop:=fun q t=>∃h' tk a c,q=.ok (.ret (.ref s.heap.objs.size))/\t={ s with heap:=h',toks:=tk}/\Kpt s.heap h'/\h'.get? s.heap.objs.size=some (seqObj "list" a c)/\ItemsOf u a n
 have key:=kdl_extend (A:=A) (s:=st) (R:=G) K D (K.keep _ _ p fun b _ o e=>b_ _ e) s.heap.objs.size (Ze k.1) (Ze k.2) (.ref s.heap.objs.size) 0 (j_ _ rfl) (fun h' tk a c C i g=>⟨h',tk,a,c,rfl,rfl,fun b o e=>C b o (G_ (m_ e)) (b_ _ e),i,g⟩) F;have j:∀q t,G q t->∃h' tk a c,q=.ok (.ret (.ref s.heap.objs.size))/\h'.get? s.heap.objs.size=some (seqObj "list" a c)/\t={ s with heap:=h',toks:=tk}/\Q a.toList t:=by rintro q t ⟨h',tk,a,c,l,rfl,B,i,g⟩;exact⟨h',tk,a,c,l,i,rfl,h h' tk a B (m_ i) g⟩
 refine ZX (A:=A.in1) key (fun f t x=>?_) fun e t x=>?_
 ·cases f with
  |done f=>obtain⟨h',tk,a,c,l,i,rfl,v⟩:=j _ _ x;cases l;exact a_ (m:=load s.heap.objs.size) (wpAny_load i (h_ v))
  |again H =>
  refine⟨x.1,abg x.2 fun q t y=>?_⟩;obtain⟨h',tk,a,c,rfl,i,rfl,v⟩:=j _ _ y;exact a_ (m:=load s.heap.objs.size) (wpAny_load i (h_ v))
 obtain⟨_,_,_,_,l,_⟩:=j _ _ x;cases l
variable {X:Cx}{pins:List (Addr × Obj)}{Z:L2.St}
def Fz (I:Inv X pins Z H s) (S:g8 X.K H3 H) (k:KV3 X.K H Q3 Q) (hh:X.A.handled=none) (ha:H3 a=some (.dct kvs)) (h64:kvs.length<64) (h:∀us:List Str,us.Perm (kvs.map (·.1))->us.Pairwise leS->∀p,H3 p=none->Q3 (.ref p) (fY H3 p (.lst (us.map T.str)))):wpAny (model X.prog X.w) X.A (call (.builtin "sorted") [.ref a]) (EP X pins Z Q) X.xe s:=by
 obtain⟨vs,r,rd⟩:=S a _ ha;obtain⟨z,hd,V,L,dd⟩:=rT I.hok r;obtain⟨o,es,ep,h1,h2,h3,h4,h5,h6⟩:=dd;have hl:=L.length;have hl2:=abj rd;refine Kf (O:=adh) (key:=fun i=>Ai ((kvs.map (·.1)).getD i default)) fun A' E' hA=>?_;refine uh (kdl_dict (knd:=bu X.prog X.w) (kvs:=V) (ep:=ep) hd) (hA.trans hh) ⟨o,es,h1,h2,h3,h4,h5,h6⟩ (by omega) fun h' tk G kp F n=>?_;have g:=Aj (P:=X.prog) (w:=X.w) L G.toList (by rw[aa1];exact n.1) fun j v e=>n.2 j v (by rw[<- Array.getElem?_toList];exact e);have rs:=Ak rd;have f:gV X.K H ((kvs.map (·.1)).map T.str) (vs.map fun q=>kV q.1):=by rw[U_];exact rs
 have R:=qK f g;have l3:=StrsAre.len R;rw[d_] at l3;generalize hys:(vs.map fun q=>kV q.1)=ys at g f;generalize G.toList=B at *;have l1:=f.length;rw[d_,d_] at l1;have l2:=g.length;have hz:sizeLine=16777216:=rfl;refine⟨by omega,fun g2 g' kq=>?_,fun q g' c hs kq hc=>?_⟩
 ·refine kas_kind (T:=.type "str") (s:={ s with heap:=g',toks:=tk}) g2 (fun v hv=>?_) rfl rfl ⟨rfl,fun i j C d m hC=>?_⟩
  ·obtain⟨x,t,rfl⟩:=R.all v hv;exact Looks.of_pure rfl
  obtain⟨t,E⟩:=StrsAre.get R i d;obtain⟨u,r⟩:=StrsAre.get R j m;unfold kas_ask;rw[E,r];exact kas_lt_str hC
 obtain⟨N,hu⟩:=hs;have l:∀i∈q,i<kvs.length:=fun i d=>by have:=X_.mp (N.mem_iff.mp d);omega
 have M:q.length=kvs.length:=by rw[N.length_eq,z_];omega
 have ry:gV X.K H ((q.map fun i=>(kvs.map (·.1)).getD i default).map T.str) (q.map fun i=>ys.getD i .non):=by
  clear hu N M hc;induction q with
  |nil=>exact .nil
  |cons i q ih =>
  refine .cons ?_ (ih fun j m=>l j (.tail _ m));have d:=l i (.head _);have J:i<(kvs.map (·.1)).length:=by rw[d_];exact d
  obtain⟨y,E,U⟩:=f.get (i:=i) (t:=T.str ((kvs.map (·.1))[i])) (by rw[x_,e_ J];rfl);dsimp only;rw[i_,e_ J,i_,E];exact U
 have rz:Vals (q.map fun i=>ys.getD i .non) (q.map fun i=>B.getD i Value.none):=by
  clear hu N M ry hc;induction q with
  |nil=>exact .nil
  |cons i q ih =>
  refine .cons ?_ (ih fun j m=>l j (.tail _ m));have d:i<ys.length:=by have:=l i (.head _);omega
  obtain⟨z,E,U⟩:=g.get (i:=i) (e_ d);dsimp only;rw[i_,e_ d,i_,E];exact U
 have D:s.heap.objs.size<=h'.objs.size:=aaw F;have W:H h'.objs.size=none:=I.hok.fresh D;refine⟨.ref h'.objs.size,upd H h'.objs.size (.lst (q.map fun i=>ys.getD i .non)),I.laid (t':=tk) (fun b o e=>kq b o (kp b o e)) D ⟨by rw[d_];omega,_,c,rz,hc⟩,rfl,?_⟩;refine k _ _ _ _ (aK W) (S.newLst W ry) .ofRef (h _ ?_ ?_ _ (S.fresh W))
 ·have Y:=N.map fun i=>(kvs.map (·.1)).getD i default;rw[show B.length=(kvs.map (·.1)).length by rw[d_];omega] at Y;have r:(List.range (kvs.map (·.1)).length).map (fun i=>(kvs.map (·.1)).getD i default)=kvs.map (·.1):=by
   apply abh;intro i;rw[x_];by_cases d:i<(kvs.map (·.1)).length
   ·rw[Zy d,e_ d,abd,i_,e_ d];rfl
   rw[O_ (by simpa using d),O_ (by omega)];rfl
  rw[r] at Y;exact Y
 rw[aaG];intro i j d m hij;rw[d_] at d m;have:=hu i j (by omega) (by omega);rw[i_,e_ d,i_,e_ m] at this;rw[aaJ,aaJ];exact this
def sdD (o:Option O3) (H:gb) (Q:v6):Prop:=match o with
 |some (.dct kvs)=>kvs.length<64/\∀us:List Str,us.Perm (kvs.map (·.1))->us.Pairwise leS->∀p,H p=none->Q (.ref p) (fY H p (.lst (us.map T.str)))
 |_=>False
def FJ:List T->gb->v6->Prop:=fun ts H Q=>match ts with
 |[.ref a]=>sdD (H a) H Q
 |_=>False
def RG (a:Addr) (H:gb) (Q:v6):FJ [.ref a] H Q=sdD (H a) H Q:=rfl
def Wu (kvs:List (Str × T)) (H:gb) (Q:v6):sdD (some (.dct kvs)) H Q=(kvs.length<64/\∀us:List Str,us.Perm (kvs.map (·.1))->us.Pairwise leS->∀p,H p=none->Q (.ref p) (fY H p (.lst (us.map T.str)))):=rfl
def Kg (j:tR n X.A):dj X (.builtin "sorted") FJ:=by
 intro d s Z H xs us Q I i h;obtain⟨ts,H3,f,r,g,h,k⟩:=h
 match ts,h,r with
 |[.ref a],h,r =>
 obtain⟨v,rfl,b⟩:=r.one';obtain⟨u,rfl,c⟩:=vals1 i;rw[b.ref] at c;cases c;have h':sdD (H3 a) H3 f:=h;unfold sdD at h';split at h'
 ·rename_i kvs e;exact Fz I g k j.hd e h'.1 h'.2
 exact h'.elim
end
@[reducible] def adn:KeyOrd where
 α:=Int × Int × Int
 blt x y:=decide (x.1<y.1\/(x.1=y.1/\(x.2.1<y.2.1\/(x.2.1=y.2.1/\x.2.2<y.2.2))))
 irrefl a:=by rw[aai];omega
 trans a b c h1 h2:=by rw[ab0] at *;omega
 negTrans a b c h:=by rw[ab0] at h;rw[ab0,ab0];omega
 total a b h1 h2:=by
  rw[aai] at h1 h2;obtain⟨i,f,l⟩:=a;obtain⟨d,k,j⟩:=b;dsimp only at h1 h2;have m:i=d:=by omega
  have e:f=k:=by omega
  have g:l=j:=by omega
  rw[m,e,g]
def Kh (x y:Int × Int × Int):Prop:=adn.kle x y
def trT (p:Int × Int × Int):T:=.tup [.int p.1,.int p.2.1,.int p.2.2]
section
variable {X:Cx}{pins:List (Addr × Obj)}{Z:L2.St}
def RJ (h:Heap) (p:Int × Int × Int) (v:Value):Prop:=∃a o n t u z,v=.ref a/\h.get? a=some o/\o.cls=.type "tuple"/\o.data=.seq #[.int p.1 t,.int p.2.1 u,.int p.2.2 z] n
def wM (I:Inv X pins Z H s) (k:Kpt s.heap h'):∀{ps:List (Int × Int × Int)}{ys:List V}{d:List Value},gV X.K H (ps.map trT) ys->Vals ys d ->
  d.length=ps.length/\(∃fs,KatTups h' d fs/\fs.length=d.length/\∀v∈fs,∃x t,v=Value.int x t)/\∀(i:Nat) (p:Int × Int × Int),ps[i]?=some p->∃v,d[i]?=some v/\RJ h' p v
 |[],_,_,r,f=>by
  rw[r.inv0] at f
  cases f
  exact⟨rfl,⟨[],.nil,rfl,(fun _ z=>nomatch z)⟩,(fun _ _ z=>nomatch z)⟩
 |p::ps,_,_,r,f=>by
  obtain⟨v,r',rfl,q,b⟩:=r.inv
  cases f with
  |cons F f =>
   rename_i u us
   obtain⟨J,⟨fs,N,O,y⟩,A⟩:=wM I k b f
   obtain⟨a,xs,rfl,R,C⟩:=Rep.tup q
   cases F
   obtain⟨w,c,⟨o,D,m,n,l⟩,_⟩:=I.tuple R
   obtain⟨W,U,rfl,B,Q⟩:=C.inv
   obtain⟨v2,Y,rfl,G,S⟩:=Q.inv
   obtain⟨v3,r3,rfl,T,E⟩:=S.inv
   rw[E.inv0] at c
   cases B.int
   cases G.int
   cases T.int
   cases c with
   |cons P c =>
   cases c with
   |cons L c =>
   cases c with
   |cons M c =>
   cases c
   obtain⟨t,rfl⟩:=P
   obtain⟨t',rfl⟩:=L
   obtain⟨j,rfl⟩:=M
   have g:=k a o D
   refine⟨by simp [J],⟨.int p.1 t::fs,.cons g m l rfl N,by simp [O],fun z h=>?_⟩,fun i z h=>?_⟩
   ·
    rcases n_.mp h with e | e
    ·
     exact⟨_,_,e⟩
    ·
     exact y z e
   ·
    cases i with
    |zero=>cases h;exact⟨_,rfl,a,o,n,t,t',j,rfl,g,m,l⟩
    |succ i=>exact A i z h
def Wv (e:s'.heap=h') (p:RJ h' x u) (l:RJ h' y v) (h:C (adn.blt x y) s'):
  wpAny (model P w) A (keyLt' (tuples' true) u v) C E s':=by
 obtain⟨a,o,n,q,z,t,rfl,j,D,m⟩:=p;obtain⟨b,r,B,F,s,G,rfl,d,k,c⟩:=l;subst e;refine kat_lt j m d c ?_;dsimp only[adn] at h;refine kat_cons (abW _ _ _ _ P w _ _ ?_);by_cases f:x.1=y.1
 ·rw[show (x.1==y.1)=true from aaf.mpr f];refine kat_yes (kat_cons (abW _ _ _ _ P w _ _ ?_));by_cases g:x.2.1=y.2.1
  ·rw[show (x.2.1==y.2.1)=true from aaf.mpr g];refine kat_yes (kat_cons (abW _ _ _ _ P w _ _ ?_));by_cases i:x.2.2=y.2.2
   ·rw[show (x.2.2==y.2.2)=true from aaf.mpr i];refine kat_yes (kat_nil ?_);rw[E_ (by omega)] at h;exact h
   rw[show (x.2.2==y.2.2)=false from ZM.mpr i];refine kat_no (kat_one _ _ (wpAny_lt_int ?_));rw[show decide (x.1<y.1\/(x.1=y.1/\(x.2.1<y.2.1\/(x.2.1=y.2.1/\x.2.2<y.2.2))))=decide (x.2.2<y.2.2) from aaK.mpr (by omega)] at h;exact h
  rw[show (x.2.1==y.2.1)=false from ZM.mpr g];refine kat_no (kat_one _ _ (wpAny_lt_int ?_));rw[show decide (x.1<y.1\/(x.1=y.1/\(x.2.1<y.2.1\/(x.2.1=y.2.1/\x.2.2<y.2.2))))=decide (x.2.1<y.2.1) from aaK.mpr (by omega)] at h;exact h
 rw[show (x.1==y.1)=false from ZM.mpr f];refine kat_no (oneLt_int ?_);rw[show decide (x.1<y.1\/(x.1=y.1/\(x.2.1<y.2.1\/(x.2.1=y.2.1/\x.2.2<y.2.2))))=decide (x.1<y.1) from aaK.mpr (by omega)] at h;exact h
end
def srT (o:Option O3) (H:gb) (Q:v6):Prop:=match o with
 |some (.lst ts)=>∃ps:List (Int × Int × Int),ts=ps.map trT/\ps.length<64/\∀us:List (Int × Int × Int),us.Perm ps->us.Pairwise Kh->∀p,H p=none->Q (.ref p) (fY H p (.lst (us.map trT)))
 |_=>False
def FN:List T->gb->v6->Prop:=fun ts H Q=>match ts with
 |[.ref a]=>srT (H a) H Q
 |_=>False
def FP (a:Addr) (H:gb) (Q:v6):FN [.ref a] H Q=srT (H a) H Q:=rfl
def Ww (ts:List T) (H:gb) (Q:v6):srT (some (.lst ts)) H Q=(∃ps:List (Int × Int × Int),ts=ps.map trT/\ps.length<64/\∀us:List (Int × Int × Int),us.Perm ps->us.Pairwise Kh->∀p,H p=none->Q (.ref p) (fY H p (.lst (us.map trT)))):=rfl
def Kl:dj X (.builtin "sorted") FN:=by
 intro U s Z H xs us Q I rv h;obtain⟨ts,H3,Q3,r,A,h,k⟩:=h;cases ts with
 |nil=>exact h.elim
 |cons t ts =>
 cases ts with
 |cons _ _=>cases t <;> exact h.elim
 |nil =>
 cases t with
 |ref a =>
  rw[FP] at h;obtain⟨v,rfl,F⟩:=r.one';obtain⟨u,rfl,V⟩:=vals1 rv;rw[F.ref] at V;cases V;cases e:H3 a with
  |none=>rw[e] at h;exact h.elim
  |some o =>
  rw[e] at h;cases o with
  |lst ls =>
   obtain⟨ps,rfl,h64,h⟩:=h;obtain⟨ys,sq,w⟩:=A.sqL (.inl e);obtain⟨E,g,hl,_⟩:=I.list sq;have D:=(wM I (fun _ _ q=>q) w g).1
   let key:Nat->adn.α:=fun i=>ps.getD i default
   refine sortedK (O:=adn) (key:=key) (.inl hl.isList) (by omega) (fun h2 h' L=>?_) fun q h' c hs L N=>?_
   ·obtain⟨_,⟨fs,kt,hfl,P⟩,m⟩:=wM I L w g;refine kat_kind (T:=.type "int") (s:={ s with heap:=h'}) kt (by omega) (fun v hv=>?_) rfl ⟨rfl,fun i j C b f hC=>?_⟩
    ·obtain⟨x,t,rfl⟩:=P v hv;exact Looks.of_pure rfl
    have gi:ps[i]?=some (ps.getD i default):=by rw[i_,e_ (by omega)];rfl
    have gj:ps[j]?=some (ps.getD j default):=by rw[i_,e_ (by omega)];rfl
    obtain⟨vi,l,p1⟩:=m i _ gi;obtain⟨vj,G,p2⟩:=m j _ gj;unfold kas_ask;rw[i_,i_,l,G];exact Wv rfl p1 p2 hC
   obtain⟨p,S⟩:=hs;have d:∀i∈q,i<ps.length:=fun i b=>by rw[<- D];exact X_.mp (p.mem_iff.mp b)
   have Y:=w.length;rw[d_] at Y;have n:q.length=ps.length:=by rw[p.length_eq,z_,D]
   have hz:sizeLine=16777216:=rfl;have W:gV X.K H ((q.map fun i=>ps.getD i default).map trT) (q.map fun i=>ys.getD i .non):=by
    clear S p n N;induction q with
    |nil=>exact .nil
    |cons i q R =>
    refine .cons ?_ (R fun j f=>d j (.tail _ f));have b:=d i (.head _);obtain⟨y,l,B⟩:=w.get (i:=i) (t:=trT ps[i]) (by rw[x_,e_ b];rfl);dsimp only;rw[i_,e_ b,i_,l];exact B
   have rz:Vals (q.map fun i=>ys.getD i .non) (q.map fun i=>E.getD i Value.none):=by
    clear S p n W N;induction q with
    |nil=>exact .nil
    |cons i q R =>
    refine .cons ?_ (R fun j f=>d j (.tail _ f));have b:=d i (.head _);obtain⟨z,l,B⟩:=g.get (i:=i) (e_ (show i<ys.length by omega));dsimp only;rw[i_,e_ (show i<ys.length by omega),i_,l];exact B
   have J:H (s.heap.objs.size+1)=none:=I.hok.fresh (aaE _);refine⟨.ref (s.heap.objs.size+1),upd H (s.heap.objs.size+1) (.lst (q.map fun i=>ys.getD i .non)),I.laid (t':=s.toks) L (aaE _) ⟨by rw[d_];omega,_,c,rz,N⟩,rfl,?_⟩;refine k _ _ _ _ (aK J) (A.newLst J W) .ofRef (h _ ?_ ?_ _ (A.fresh J))
   ·have M:=p.map fun i=>ps.getD i default;rw[D] at M;have G:(List.range ps.length).map (fun i=>ps.getD i default)=ps:=by
     apply abh;intro i;rw[x_];by_cases b:i<ps.length
     ·rw[Zy b,e_ b];simp [i_,b]
     rw[O_ (by simpa using b),O_ (by omega)];rfl
    rw[G] at M;exact M
   rw[aaG];intro i j b f hij;rw[d_] at b f;have:=S i j (by omega) (by omega);rw[i_,e_ b,i_,e_ f] at this;rw[aaJ,aaJ];exact this
  |_=>exact h.elim
 |_=>cases h
def Km (f:A.handled=none) (it t:Addr) (g:t≠it) (a:Array Value) (k:Nat) (b:a[k]?=none):
  Draws prog w A it [it,t] k (fun _ _=>True) (fun i h=>i=k/\h.IsListIter it t i/\h.IsList t a) where
 live:=fun _ _ st=>let ⟨o,ho,_⟩:=st.2.1;⟨o,ho⟩
 frame:=fun _ _ _ st b=>⟨st.1,st.2.1.at fun o e=>b it (by simp) o e,st.2.2.at fun o e=>b t (by simp) o e⟩
 item:=fun i s Q E d st j=>absurd st.1 (G_ d)
 done:=fun s Q E st c=>wpAny_nextOf_list_end f st.2.1 st.2.2 b c
structure SqK where
 Sq:Frag->Hp->Addr->List V->Prop
 It:Heap->Addr->Addr->Nat->Prop
 Is:Heap->Addr->Array Value->Prop
 itAt:∀{h h':Heap} {it a:Addr} {i:Nat},It h it a i->(∀o,h.get? it=some o->h'.get? it=some o)->It h' it a i
 itOb:∀{h:Heap} {it a:Addr} {i:Nat},It h it a i->∃o,h.get? it=some o/\∀v,o.data≠.cell v
 lt:∀{h:Heap} {a:Addr} {xs:Array Value},Is h a xs->a<h.objs.size
 seq:∀{X:Cx} {pins:List (Addr × Obj)} {Z:L2.St} {H:Hp} {s:Shared} {a:Addr} {xs:List V},L2.Inv X pins Z H s->Sq X.K H a xs->∃its:List Value,Vals xs its/\Is s.heap a its.toArray
 inj:∀{X:Cx} {pins:List (Addr × Obj)} {Z:L2.St} {H:Hp} {s:Shared} {a:Addr} {xs ys:List V},L2.Inv X pins Z H s->Sq X.K H a xs->Sq X.K H a ys->xs=ys
 dr:∀{prog:Program} {w:World} {A:Around} (hh:A.handled=none) (it t:Addr) (hne:t≠it) (items:Array Value),Draws prog w A it [it,t] items.size (fun i v=>items[i]?=some v) (fun i h=>It h it t i/\Is h t items)
 drE:∀{prog:Program} {w:World} {A:Around} (hh:A.handled=none) (it t:Addr) (hne:t≠it) (items:Array Value) (k:Nat) (hk:items[k]?=none),Draws prog w A it [it,t] k (fun _ _=>True) (fun i h=>i=k/\It h it t i/\Is h t items)
def kL:SqK:=⟨SqL,fun h=>h.IsListIter,fun h=>h.IsList,fun x k=>x.at k,fun ⟨o,e,_,d⟩=>⟨o,e,fun v z=>by rw[d] at z;cases z⟩,fun ⟨_,e,_⟩=>m_ e,fun I q=>let ⟨its,r,p,_⟩:=I.list q;⟨its,r,p.isList⟩,fun I a b=>I.list_inj a b,Draws.list,Km⟩
def kT:SqK:=⟨SqT,fun h=>h.IsTupleIter,fun h=>h.IsTuple,fun x k=>x.at k,fun ⟨o,e,_,d⟩=>⟨o,e,fun v z=>by rw[d] at z;cases z⟩,fun ⟨_,e,_⟩=>m_ e,fun I q=>let ⟨its,r,p,_⟩:=I.tuple q;⟨its,r,p⟩,fun I a b=>I.tuple_inj a b,Dz,DK⟩
def RK (c d:SqK) (K:Frag) (a b:Addr):It :=
 ⟨fun i H=>∃xs ys x y,c.Sq K H a xs/\d.Sq K H b ys/\xs[i]?=some x/\ys[i]?=some y,
  fun i H v H'=>∃p x y,v=.ref p/\H p=none/\H'=upd H p (.tup [x,y])/\(∀xs,c.Sq K H a xs->xs[i]?=some x)/\∀ys,d.Sq K H b ys->ys[i]?=some y,
  fun i H=>∃xs ys,c.Sq K H a xs/\d.Sq K H b ys/\(xs.length<=i\/ys.length<=i)⟩
def YW (c d:SqK) (a b z e j f g:Addr) (i:Nat) (h:Heap):Prop:=IsZip h z e j .none/\IsPair h e (.ref f) (.ref g)/\(∃u v,IsPair h j u v)/\c.It h f a i/\d.It h g b i
def Al (f g:SqK) {K:Frag} (a b z r n j l:Addr) (M:a<j/\b<j) (V:j<l) (l3:l<r) (l4:r<n) (l5:n<z):
  Turn P w K (.Tuple U x1 pos) (RK f g K a b) [z,r,n,j,l] z (YW f g a b z r n j l) where
 mem:=l_
 obj:=fun i h st c d=>by
  obtain⟨C,F,⟨u,v,L⟩,G,J⟩:=st
  simp only[n_,L_,aaa] at d
  rcases d with rfl | rfl | rfl | rfl | rfl
  ·
   exact⟨_,C,fun v z=>by cases z⟩
  ·
   exact⟨_,F,fun v z=>by cases z⟩
  ·
   exact⟨_,L,fun v z=>by cases z⟩
  ·
   exact f.itOb G
  ·
   exact g.itOb J
 keep:=fun i h h' st k=>by
  obtain⟨C,F,⟨u,v,L⟩,G,J⟩:=st
  exact⟨k z (by simp) _ C,k r (by simp) _ F,⟨u,v,k n (by simp) _ L⟩,f.itAt G fun o e=>k j (by simp) o e,g.itAt J fun o e=>k l (by simp) o e⟩
 item:=by
  intro X hP hw hK d i m s Z H E I Y st S
  subst hP hw hK
  obtain⟨xs,ys,x,y,qx,qy,ex,ey⟩:=S
  obtain⟨t,rv,p1⟩:=f.seq I qx
  obtain⟨B,Q,p2⟩:=g.seq I qy
  obtain⟨u,hu,ru⟩:=rv.get ex
  obtain⟨v,hv,rv'⟩:=Q.get ey
  have C:=st.1
  have F:=st.2.1
  obtain⟨a0,b0,L⟩:=st.2.2.1
  have G:=st.2.2.2.1
  have J:=st.2.2.2.2
  have hu':t.toArray[i]?=some u:=by simpa using hu
  have W:B.toArray[i]?=some v:=by simpa using hv
  have D:ZAp z r n j l [j,a] [l,b]:=zap M V l3 l4 l5
  have d1:=f.dr (prog:=X.prog) (w:=X.w) (A:=X.A.in1) (I.ok.hd d) j a (G_ M.1) t.toArray
  have d2:=g.dr (prog:=X.prog) (w:=X.w) (A:=X.A.in1) (I.ok.hd d) l b (G_ (ZD M.2 V)) B.toArray
  refine yC d1 d2 D C F L ⟨G,p1⟩ ⟨J,p2⟩ (Zt.mp hu').1 (Zt.mp W).1 fun N O h' tk px py hz' hO' s1 s2 hT hsz kp=>?_
  have e1:N=u:=D_ (px.symm.trans hu')
  have e2:O=v:=D_ (py.symm.trans W)
  subst e1 e2
  refine⟨_,rfl,wpAny_letOwnedTupleGo_zip hz' fun h2' hz2' sb=>?_⟩
  have kp2:∀c o,c∉[z,n,j,l]->s.heap.get? c=some o->h2'.get? c=some o:=fun c o nc e=>(sb.2 c fun q=>nc (q▸l_)).trans (kp c o nc e)
  have p:∀c∈[z,n,j,l],c∈[z,r,n,j,l]:=fun c d=>by simp only[n_,L_,aaa] at d ⊢;rcases d with q | q | q | q <;> simp [q]
  have R:∀{c o},s.heap.get? c=some o->s.heap.objs.size≠c:=fun e=>Ze (m_ e)
  have lt1:∀{c:Addr},c∈[z,r,n,j,l]->c≠s.heap.objs.size:=fun {c} d=>by
   simp only[n_,L_,aaa] at d
   rcases d with q | q | q | q | q <;> subst q
   ·
    exact Ne.symm (R C)
   ·
    exact Ne.symm (R F)
   ·
    exact Ne.symm (R L)
   ·
    obtain⟨o,e,_⟩:=f.itOb G;exact Ne.symm (R e)
   ·
    obtain⟨o,e,_⟩:=g.itOb J;exact Ne.symm (R e)
  have hTz:s.heap.objs.size≠z:=R C
  have I1:Inv X m Z (upd H s.heap.objs.size (.tup [x,y])) { s with heap:=s.heap.push { cls:=.type "tuple",data:=.seq #[N,O]},toks:=tk} :=
   I.laid (t':=tk) (fun b o e=>b_ _ e) (k_ _) (show vy X.prog X.w _ _ _ (.tup [x,y]) from ⟨by show 2<=sizeLine;decide,[N,O],.cons ru (.cons rv' .nil),ac6.new _ _⟩)
  have I2:Inv X m Z (upd H s.heap.objs.size (.tup [x,y])) { s with heap:=h2',toks:=tk}:=iJ (s:={ s with heap:=s.heap.push { cls:=.type "tuple",data:=.seq #[N,O]},toks:=tk}) (ch:=[z,n,j,l]) (t':=tk) I1 (fun c o nc e=>by
   by_cases q:c=s.heap.objs.size
   ·
    subst q
    have T:(s.heap.push { cls:=.type "tuple",data:=.seq #[N,O]}).get? s.heap.objs.size=some o:=e
    rw[j_ _ rfl] at T
    cases T
    exact (sb.2 _ hTz).trans hT
   ·
    have T:(s.heap.push { cls:=.type "tuple",data:=.seq #[N,O]}).get? c=some o:=e
    rw[Heap.get?_push_ne _ _ _ q] at T
    exact kp2 c o nc T) fun c d=>⟨by rw[aM (lt1 (p c d))];exact (Y c (p c d)).1,(Y c (p c d)).2⟩
  refine⟨.ref s.heap.objs.size,_,I2,rfl,⟨s.heap.objs.size,x,y,rfl,I.hok.fresh (k_ _),rfl,fun zs hq=>by rw[f.inj I hq qx];exact ex,fun zs hq=>by rw[g.inj I hq qy];exact ey⟩,?_,fun c d=>by rw[aM (lt1 d)];exact (Y c d).1⟩
  have n1:r≠z:=D.ne.1
  refine⟨hz2',?_,⟨N,O,(sb.2 n D.ne.2.1).trans hO'⟩,f.itAt s1.1 fun o e=>(sb.2 j D.i1z).trans e,g.itAt s2.1 fun o e=>(sb.2 l D.i2z).trans e⟩
  refine kp2 r _ ?_ F
  simp only[n_,L_,aaa,not_or]
  exact⟨D.ne.1,D.ne.2.2.1,Ne.symm D.i1ti,Ne.symm D.i2ti⟩
 done:=by
  intro X hP hw hK d i m s Z H E I Y st S
  subst hP hw hK
  obtain⟨xs,ys,qx,qy,S⟩:=S
  obtain⟨t,rv,p1⟩:=f.seq I qx
  obtain⟨B,Q,p2⟩:=g.seq I qy
  have C:=st.1
  have F:=st.2.1
  obtain⟨a0,b0,L⟩:=st.2.2.1
  have G:=st.2.2.2.1
  have J:=st.2.2.2.2
  have n1:=rv.length
  have n2:=Q.length
  have D:ZAp z r n j l [j,a] [l,b]:=zap M V l3 l4 l5
  have fin:∀(h':Heap) (tk:Nat),(∀c o,c∉[z,n,j,l]->s.heap.get? c=some o->h'.get? c=some o)->(none:Option Value)=none/\Inv X m Z H { s with heap:=h',toks:=tk}:=fun h' tk kp=>⟨rfl,iJ I kp fun c d=>Y c (by
   simp only[n_,L_,aaa] at d ⊢;rcases d with q | q | q | q <;> simp [q])⟩
  have d1:=f.dr (prog:=X.prog) (w:=X.w) (A:=X.A.in1) (I.ok.hd d) j a (G_ M.1) t.toArray
  have d2:=g.dr (prog:=X.prog) (w:=X.w) (A:=X.A.in1) (I.ok.hd d) l b (G_ (ZD M.2 V)) B.toArray
  by_cases hi:xs.length<=i
  ·
   have e1:=f.drE (prog:=X.prog) (w:=X.w) (A:=X.A.in1) (I.ok.hd d) j a (G_ M.1) t.toArray i (by simp;omega)
   exact DG (k:=i) e1 d2 D C F L ⟨rfl,G,p1⟩ ⟨J,p2⟩ (.inl rfl) fin
  ·
   have hy:ys.length<=i:=S.resolve_left hi
   have e2:=g.drE (prog:=X.prog) (w:=X.w) (A:=X.A.in1) (I.ok.hd d) l b (G_ (ZD M.2 V)) B.toArray i (by simp;omega)
   exact DG (k:=i) d1 e2 D C F L ⟨G,p1⟩ ⟨rfl,J,p2⟩ (.inr ⟨by simp;omega,rfl⟩) fin
 self:=fun _ _ _ _ _ st h=>wpAny_pyIter_zip st.1 h
abbrev FQ (t:Addr):Obj:={ cls:=.type "list_iterator",data:=.fields #[.ref t,.int 0 0]}
def wN (a b:Addr) (xs ys:Array Value) :
  Meets (Builtin.«zip.__new__» ⟨[.type "zip",.ref a,.ref b],[]⟩) (fun _ R s=>s.heap.IsTuple a xs/\s.heap.IsList b ys/\∀f j k e,f=s.heap.push (Np a)->j=f.push (FQ b)->k=j.push { cls:=.type "tuple",data:=.seq #[.ref s.heap.objs.size,.ref f.objs.size]}->e=k.push { cls:=.type "tuple",data:=.seq #[.none,.none]} ->
   R (.ok (.ret (.ref e.objs.size))) { s with heap:=e.push { cls:=.type "zip",data:=.fields #[.none,.bool false,.bool false,.ref j.objs.size,.ref k.objs.size]}}) :=
 .of_wp fun prog w A R s h=>by
  obtain⟨o,g,d,tk,n⟩:=s;obtain⟨m,c,h⟩:=h;have p:=sub_zip;have l:Heap.IsTuple (Shared.heap ⟨o,g,d,tk,n⟩) a xs:=m;have i:Heap.IsList (Shared.heap ⟨o.push { cls:=.type "tuple_iterator",data:=.fields #[.ref a,.int 0 0]},g,d,tk,n⟩) b ys:=Heap.IsList.push c _
  wp_walk using abA l,wpAny_pyIter_list i
  exact⟨_,rfl,h _ _ _ _ rfl rfl rfl rfl⟩
section
variable {s:Shared}
def Am (m:s.heap.IsTuple e xs) (k:s.heap.IsList f ys) (h:∀h' i1 i2 ti to z,IsZip h' z ti to .none->IsPair h' ti (.ref i1) (.ref i2)->IsPair h' to .none .none->h'.IsTupleIter i1 e 0->h'.IsListIter i2 f 0 ->
   s.heap.objs.size<=i1->i1<i2->i2<ti->ti<to->to<z->(∀c o,s.heap.get? c=some o->h'.get? c=some o)->Q (.ref z) { s with heap:=h'}):
  wpAny (model prog w) A (call (.type "zip") [.ref e,.ref f]) Q E s:=by
 refine callType_new F.called_zip (by decide) (F.typeCall_zip_2 _ _) (F.newCall_zip_2 _ _) (fun j=>F.args_object_init_3 j _ _) F.entry_zip_new
  (wN e f xs ys) ⟨m,k,fun a b d g r l t n=>?_⟩
 have p:∀(h:Heap) (o:Obj),h.objs.size<(h.push o).objs.size:=fun h o=>by rw[aad];exact ZK _
 have x:=j_ g (o:={ cls:=.type "zip",data:=.fields #[.none,.bool false,.bool false,.ref b.objs.size,.ref d.objs.size]}) rfl;have y:g.get? d.objs.size=some { cls:=.type "tuple",data:=.seq #[.none,.none]}:=by rw[n];exact j_ _ rfl
 have B:d.get? b.objs.size=some { cls:=.type "tuple",data:=.seq #[.ref s.heap.objs.size,.ref a.objs.size]}:=by rw[t];exact j_ _ rfl
 have G:b.get? a.objs.size=some (FQ f):=by rw[l];exact j_ _ rfl
 have C:a.get? s.heap.objs.size=some (Np e):=by rw[r];exact j_ _ rfl
 have D:∀c o,s.heap.get? c=some o->a.get? c=some o:=fun c o q=>by rw[r];exact b_ _ q
 have v:∀c o,a.get? c=some o->b.get? c=some o:=fun c o q=>by rw[l];exact b_ _ q
 have u:∀c o,b.get? c=some o->d.get? c=some o:=fun c o q=>by rw[t];exact b_ _ q
 have i:∀c o,d.get? c=some o->g.get? c=some o:=fun c o q=>by rw[n];exact b_ _ q
 refine⟨⟨_,x,rfl⟩,h _ s.heap.objs.size a.objs.size b.objs.size d.objs.size g.objs.size x (b_ _ (i _ _ B)) (b_ _ y) ⟨_,b_ _ (i _ _ (u _ _ (v _ _ C))),rfl,rfl⟩ ⟨_,b_ _ (i _ _ (u _ _ G)),rfl,rfl⟩
  (k_ _) ?_ ?_ ?_ ?_ fun c o q=>b_ _ (i _ _ (u _ _ (v _ _ (D _ _ q))))⟩
 ·rw[r];exact p _ _
 ·rw[l];exact p _ _
 ·rw[t];exact p _ _
 rw[n];exact p _ _
end
def FT (a b:SqK) (prog:Program) (w:World):Prop:=∀(A:Around) (E:Value->Shared->Prop) (s:Shared) (t1 t2:Addr) (xs ys:Array Value) (Q:Value->Shared->Prop),a.Is s.heap t1 xs->b.Is s.heap t2 ys ->
 (∀h' e f d g z,IsZip h' z d g .none->IsPair h' d (.ref e) (.ref f)->IsPair h' g .none .none->a.It h' e t1 0->b.It h' f t2 0->s.heap.objs.size<=e->e<f->f<d->d<g->g<z->(∀c o,s.heap.get? c=some o->h'.get? c=some o)->Q (.ref z) { s with heap:=h'}) ->
 wpAny (model prog w) A (call (.type "zip") [.ref t1,.ref t2]) Q E s
def zcL:FT kL kL prog w:=fun _ _ _ _ _ _ _ _ p1 e h=>call_zip_2 p1 e fun h' f d b g c _ a=>h h' _ _ _ _ _ f d b g c (k_ _) (ZK _) (ZK _) (ZK _) (ZK _) a
section
variable {X:Cx}{elts:List Expr}{x1:Nat}{tpos pos p:Pos}
def Wx (c d:SqK) (K:Frag) (t:TA):TI:=fun Z H R=>t Z H fun vs e=>∃a b,vs=[.ref a,.ref b]/\(∃xs,c.Sq K e a xs)/\(∃ys,d.Sq K e b ys)/\R (RK c d K a b) e
def yI (zc:FT d f X.prog X.w) (D:Gl X "zip") (U:X.mg "zip"=none) (J:bootBuiltins "zip"=some (.type "zip")) (W:PA X [ea,eb] t) (M:starEach [ea,eb] X.env=[(false,eval ea X.env),(false,eval eb X.env)]:=by rfl) (i:starEach [eb] X.env=[(false,eval eb X.env)]:=by rfl):
  PI X (.Tuple elts x1 tpos) (.Call (.Name "zip" p) [ea,eb] [] pos) (Wx d f X.K t):=by
 intro g s Z H R I h;refine Call_ (dB I D U J (Zj (Fl (W pos g s Z H _ I h) fun us O ⟨vs,y,j,F,E⟩=>?_) (by rw[M,i]) (by rw[i];rfl)));obtain⟨a,b,e,⟨xs,sa⟩,⟨ys,V⟩,q⟩:=E;subst e;cases F with
 |cons r n =>
 cases n with
 |cons r' n =>
 cases n;cases r;cases r';obtain⟨L,rv,p1⟩:=d.seq j sa;obtain⟨T,rw',v⟩:=f.seq j V;refine zc _ _ _ _ _ _ _ _ p1 v fun h' m o u x z A hI Y N S k C G P l4 Q=>wpAny_pyIter_zip A ?_;have B:∀c,m<=c->lU X g y c:=fun c l=>j.fpOk (P_ k l) (j.hok.fresh (P_ k l));refine⟨z,[z,u,x,m,o],_,_,y,rfl,j.kept (t':=O.toks) Q,Al d f a b z u x m o ⟨J_ (d.lt p1) k,J_ (f.lt v) k⟩ C G P l4,⟨A,hI,⟨_,_,Y⟩,N,S⟩,fun c l=>B c ?_,q⟩;simp only[n_,L_,aaa] at l;simp only[Addr] at *;omega
def pG {K:Frag} (A:∀H' c,tE K H H'->g8 K c H'->S c->(∃xs,d.Sq K H' a xs/\gV K H' ts xs)/\∃ys,g.Sq K H' b ys/\gV K H' us ys):jw K (RK d g K a b) (gG ts us) S H:=fun H' c G q st=>by
 obtain⟨⟨xs,m,o⟩,ys,l,r⟩:=A H' c G q st;have J:=o.length;have D:=r.length;refine⟨fun i E=>⟨xs,ys,m,l,by rw[tK] at E;omega⟩,fun i t e=>?_⟩;rw[tH] at e;cases h:ts[i]? with
 |none=>rw[h] at e;cases e
 |some x =>
 cases k:us[i]? with
 |none=>rw[h,k] at e;cases e
 |some y =>
 rw[h,k] at e;cases e;obtain⟨v,s,C⟩:=o.get h;obtain⟨I,f,j⟩:=r.get k;refine⟨⟨xs,ys,v,I,m,l,s,f⟩,fun z w B=>?_⟩;obtain⟨p,L,M,rfl,n,rfl,u,F⟩:=B;have:=(u xs m).symm.trans s;cases this;have:=(F ys l).symm.trans f;cases this;exact⟨aK n,q.new n,g8.newTup (H3:=c) n (.cons C (.cons j .nil))⟩
def zlO (o u:Option O3) (a b:Addr) (H:gb) (R:List T->(gb->Prop)->gb->Prop):Prop:=match o,u with
 |some (.lst xs),some (.lst ys)=>R (gG xs ys) (fun H'=>bh a xs H'/\bh b ys H') H
 |_,_=>False
def FW (d:TA3):TI3:=fun Z H R=>d Z H fun vs c=>match vs with
 |[.ref a,.ref b]=>zlO (c a) (c b) a b c R
 |_=>False
def Ko (i:Gl X "zip") (x:X.mg "zip"=none) (B:PA3 X [ea,eb] g) (o:starEach [ea,eb] X.env=[(false,eval ea X.env),(false,eval eb X.env)]:=by rfl) (e:starEach [eb] X.env=[(false,eval eb X.env)]:=by rfl):
  PI3 X (.Tuple elts x1 tpos) (.Call (.Name "zip" p) [ea,eb] [] pos) (FW g):=by
 refine PI.imp (yI zcL i x vU B o e) ?_;rintro Z H R ⟨C,H3,R3,j,l,h,k⟩;refine⟨C,H3,_,j,l,h,fun vs H' ts c y d r q=>?_⟩
 match ts,q,r with
 |[.ref a,.ref b],q,r =>
  have f:(match c a,c b with
   |some (.lst xs),some (.lst ys)=>R3 (gG xs ys) (fun H'=>bh a xs H'/\bh b ys H') c
   |_,_=>False):=q
  obtain⟨v,w,rfl,m,u⟩:=r.two'
  split at f
  ·
   rename_i xs ys t n
   obtain⟨us,D,F⟩:=d.sqL (.inl t)
   obtain⟨E,A,G⟩:=d.sqL (.inl n)
   exact⟨a,b,by rw[m.ref,u.ref],⟨_,D⟩,⟨_,A⟩,k _ _ _ H' c y d (pG fun _ _ _ s z=>⟨s.sqL z.1,s.sqL z.2⟩) f⟩
  ·
   exact f.elim
def Kp (d:TA3) {Z:St3}{H:gb}{R:List T->(gb->Prop)->gb->Prop}:FW d Z H R=d Z H fun vs c=>match vs with
 |[.ref a,.ref b]=>zlO (c a) (c b) a b c R
 |_=>False:=rfl
def Wz (xs ys:List T) (a b:Addr) (H:gb) (R:List T->(gb->Prop)->gb->Prop):zlO (some (.lst xs)) (some (.lst ys)) a b H R=R (gG xs ys) (fun H'=>bh a xs H'/\bh b ys H') H:=rfl
end
def zcM:FT kT kL prog w:=fun _ _ _ _ _ _ _ _ p1 a h=>Am p1 a h
section
variable {elts:List Expr}{x1:Nat}{tpos pos p:Pos}
def zmO (xs:List T) (u:Option O3) (b:Addr) (H:gb) (R:List T->(gb->Prop)->gb->Prop):Prop:=match u with
 |some (.lst ys)=>R (gG xs ys) (bh b ys) H
 |_=>False
def FZ (c:TA3):TI3:=fun Z H R=>c Z H fun vs a=>match vs with
 |[.tup xs,.ref b]=>zmO xs (a b) b a R
 |_=>False
def Kq (m:Gl X "zip") (A:X.mg "zip"=none) (D:PA3 X [ea,eb] g) (x:starEach [ea,eb] X.env=[(false,eval ea X.env),(false,eval eb X.env)]:=by rfl) (e:starEach [eb] X.env=[(false,eval eb X.env)]:=by rfl):
  PI3 X (.Tuple elts x1 tpos) (.Call (.Name "zip" p) [ea,eb] [] pos) (FZ g):=by
 refine PI.imp (yI zcM m A vU D x e) ?_;rintro Z H R ⟨E,H3,R3,n,o,h,k⟩;refine⟨E,H3,_,n,o,h,fun vs H' ts c B d r q=>?_⟩
 match ts,q,r with
 |[.tup xs,.ref b],q,r =>
  have f:(match c b with
   |some (.lst ys)=>R3 (gG xs ys) (bh b ys) c
   |_=>False):=q
  obtain⟨v,w,rfl,t,y⟩:=r.two'
  obtain⟨a,us,rfl,i,j⟩:=t.tup
  split at f
  ·
   rename_i ys u
   obtain⟨F,C,G⟩:=d.sqL (.inl u)
   exact⟨a,b,by rw[y.ref],⟨_,i⟩,⟨_,C⟩,k _ _ _ H' c B d (pG fun _ _ l s z=>⟨⟨_,l _ _ i,j.mono l⟩,s.sqL z⟩) f⟩
  ·
   exact f.elim
def Kr (c:TA3) {Z:St3}{H:gb}{R:List T->(gb->Prop)->gb->Prop}:FZ c Z H R=c Z H fun vs a=>match vs with
 |[.tup xs,.ref b]=>zmO xs (a b) b a R
 |_=>False:=rfl
def WD (xs ys:List T) (b:Addr) (H:gb) (R:List T->(gb->Prop)->gb->Prop):zmO xs (some (.lst ys)) b H R=R (gG xs ys) (bh b ys) H:=rfl
end
end L3
namespace L2
open PySem
section
variable {os:OsState}
variable {dd:Option Addr}
abbrev Ga (h:Heap) (C:Addr) (us:List Value):Heap:=(h.push { cls:=.type "tuple",data:=.seq us.toArray}).push { cls:=.ref C,data:=.fields #[.ref h.objs.size,.none,.none,.none,.bool false,.none]}
def XIn (P:Program) (w:World) (A:Around) (E:Value->Shared->Prop) (c:Str->Option Value) (h:Heap) (C:Addr) (us:List Value) (s:Shared) (Q:Shared->Prop):Prop :=
 (∃a d,c "__init__"=some (.ref a)/\h.get? a=some d/\d.cls=.type "function"/\wpAny (model P w) A (call (.ref a) (.ref (h.objs.size+1)::us)) (fun r s'=>r=.none/\Q s') E { s with heap:=Ga h C us}) \/
 c "__init__"=none/\∀h' vs,(∀b o,h.get? b=some o->h'.get? b=some o)->h'.get? (h.objs.size+1)=some ⟨.ref C,none,.fields vs,#[]⟩->vs[1]?=some .none->Q { s with heap:=h'}
def wO (l:ExcBaseFacts Bn newId inN bmN) (f:bmB.contains (.type Bn)=true) (F:ExcBaseFacts B nid initId bmB) (T:OwnTail h bmB bm) (c:h.get? C=some (excClassObj nm q C N bs bm hdct sn sub ab col dd k0 k1 k2 k3 k5 newId)) (v:h.Ns N p) (D:us.length<=sizeLine) (i:XIn prog w A E p h C us ⟨h,g,d,t,os⟩ (Q (.done (.ret (.ref (h.objs.size+1)))))):
  wpAny (model prog w) A (Builtin.«type.__call__» ⟨.ref C::us,[]⟩) Q E ⟨h,g,d,t,os⟩:=by
 have a:∀b o,h.get? b=some o->(Ga h C us).get? b=some o:=fun b o e=>b_ _ (b_ _ e);have j:(Ga h C us).get? (h.objs.size+1)=some { cls:=.ref C,data:=.fields #[.ref h.objs.size,.none,.none,.none,.bool false,.none]}:=by have:=j_ (h.push { cls:=.type "tuple",data:=.seq us.toArray}) (o:={ cls:=.ref C,data:=.fields #[.ref h.objs.size,.none,.none,.none,.bool false,.none]}) rfl;rw[aad] at this;exact this
 have m:(Value.ref C::bm).contains (.ref C)=true:=by simp
 repeat (first | (with_reducible refine aaR c ?_) | (with_reducible refine wpAny_madeBy_exc c ?_) | wp_step)
 refine codeAny_call_builtin_code (abX _ l.quiet) (wpAny_check_new_subU l f T c (codeAny_exc_new_subU l f F T c ?_ D));show wpAny _ _ _ _ _ _;unfold isInstance;repeat (first | (with_reducible refine aaR j ?_) | (with_reducible refine wpAny_isSubtype_exc (a _ _ c) ?_;rw[m]) | wp_step)
 show wpAny _ _ (typeLookup (.ref C) _) _ _ _;refine wpAny_typeLookup_tail (a _ _ c) (v.keeps a) (T.keeps a) F.mroIs F.init.lookup ?_;rcases i with ⟨H,G,k,y,u,i⟩ | ⟨k,i⟩
 ·rw[k];refine ZP (a_ ?_);unfold bindSpecial;refine a_ (aa3 (T:="function") ⟨_,a _ _ y,u⟩ ?_);rw[if_pos (by decide)];refine h_ (a_ (ZX i (fun r s' z=>?_) fun _ _ x=>x));obtain⟨rfl,s⟩:=z
  wp_walk
  exact s
 rw[k];refine ZP (a_ (aaO (F.init.bind _) ?_));refine a_ (wpAny_call (codeAny_call_builtin F.init.plain F.initEntry (wpAny_check_init_subU F (T.keeps a) (a _ _ c) j rfl ?_)))
 wp_walk
 refine i _ _ (fun b o n=>?_) (ZL _ (b_ _ j) rfl) rfl;exact (Y_ _ _ (Ze (ZW (m_ n)))).trans (b_ _ (a b o n))
def um (e:ExcBaseFacts Bn newId inN bmN) (b:bmB.contains (.type Bn)=true) (F:ExcBaseFacts B nid initId bmB) (T:OwnTail h bmB bm) (a:h.get? C=some (excClassObj nm q C N bs bm hdct sn sub ab col dd k0 k1 k2 k3 k5 newId)) (f:h.Ns N c) (j:us.length<=sizeLine) (i:XIn prog w (A.under (.builtin "type.__call__" ⟨.ref C::us,[]⟩)) E c h C us ⟨h,g,d,t,os⟩ (Q (.ref (h.objs.size+1)))):
  wpAny (model prog w) A (call (.ref C) us) Q E ⟨h,g,d,t,os⟩:=by
 have m:=tc_lookup;have k:=tc_bind (.ref C);have l:(⟨h,g,d,t,os⟩:Shared).TypeIs (.ref C) "type":=⟨_,a,rfl⟩;refine wpAny_call (codeAny_of_tree ?_);show wpAny _ _ (callAny (.ref C) _) _ _ _;repeat (any_goals (first | assumption | (with_reducible refine aaR a ?_) | wp_step))
 refine⟨rfl,codeAny_call_builtin_at (abX _ (by decide +kernel)) entry_typeCall (wpAny_check_type_call_sub a (wO e b F T a f j i))⟩
end
def uo (h:Heap) (a:Addr) (f:Obj->Obj):(h.update a f).objs.size=h.objs.size:=Heap.size_after_update ..
abbrev fra (l : List Env) : List Addr:=l.filterMap (·.frame)
def Ntd (h:Heap) (S:Addr->Prop) (e:Addr) (a:Value) (b:Option Addr) (c:Value):Prop :=
 ∃vs d T oT ts,h.get? e=some ⟨a,b,.fields vs,d⟩/\vs[1]?=some (.ref T)/\¬S T/\T≠e/\h.get? T=some oT/\oT.data=.fields ts/\ts[3]?=some c
def Rsd (h:Heap) (e:Addr) (a:Value) (b:Option Addr):Prop:=∃vs c,h.get? e=some ⟨a,b,.fields vs,c⟩/\vs[1]?=some .none
structure Kpx (fs:List Addr) (e:Addr) (S:Addr->Prop) (h h':Heap):Prop where
 sz:h.objs.size<=h'.objs.size
 ex:∃xs:List Addr,(∀b∈xs,¬S b)/\∀b o,h.get? b=some o->b∉fs->b≠e->b∉xs->h'.get? b=some o
 slot:∀b o,h.get? b=some o->b∈fs->∃sl,h'.get? b=some { o with slots:=sl}
 up:∀b o,h.get? b=some o->(∀vs,o.data≠.fields vs)->∃sl,h'.get? b=some { o with slots:=sl}
def Kpx.keep (x:Kpx fs e S h h') (b:Addr) (o:Obj) (c:h.get? b=some o) (f:S b) (g:b∉fs) (d:b≠e):h'.get? b=some o :=
 let ⟨_,a,k⟩:=x.ex;k b o c g d fun m=>a b m f
def Kpx.trans (x:Kpx fs e S h n) (y:Kpx fs e S n g):Kpx fs e S h g:=by
 obtain⟨xs,a,k⟩:=x.ex;obtain⟨ys,q,p⟩:=y.ex;exact⟨P_ x.sz y.sz,⟨xs++ys,fun b m=>(F_.mp m).elim (a b) (q b),fun b o c d i j=>p b o (k b o c d i fun m=>j (Zo _ m)) d i fun m=>j (Zi _ m)⟩,
  fun b o c f=>let ⟨_,e1⟩:=x.slot b o c f;let ⟨sl,e2⟩:=y.slot b _ e1 f;⟨sl,e2⟩,
  fun b o c l=>let ⟨_,e1⟩:=x.up b o c l;let ⟨sl,e2⟩:=y.up b _ e1 l;⟨sl,e2⟩⟩
def Kpx.fr (x:Kpx fs e S h h') (a:h.FunFrames base l):h'.FunFrames base l:=a.of_keeps fun b o c d=>let ⟨_,q⟩:=x.up b o c d;⟨_,q,rfl⟩
section
variable {M:Model}{A:Around}{S:Addr->Prop}{cls:Value}{dct:Option Addr}
def yJ (u:A.frames=some (env::outer)) (C:s.heap.FunFrames base (env::outer)) (I:env.frame=some L) (w:s.heap.get? e=some ⟨cls,dct,.fields vs,x⟩) (F:1<vs.size) (r:∀b,S b->b<s.heap.objs.size) (h:∀h' fl,fl=rawInt L->Ntd h' S e cls dct fl->Kpx (fra (env::outer)) e S s.heap h'->Q () { s with heap:=h'}):
  wpAny M A (do let a <- frameOf env;let pl <- entryPlaceOf L c;let b <- EntryCells.newEntry d a .none (rawInt L) .none pl;setField (.ref e) 1 b) Q E s:=by
 have D:e∉fra (env::outer):=fun m=>by obtain⟨_,o,B,J⟩:=C.mem m;rw[w] at B;cases B;exact J vs rfl
 refine a_ (wpAny_frameOf_fun u C I fun k q=>?_);refine a_ (wpAny_entryPlaceOf fun pl l=>?_);unfold EntryCells.newEntry newFields;refine a_ (Zw ?_ (l.sizeOk5 _ _ _ _ _));generalize p:([d,.ref L,.none,rawInt L,.none]++(if pl.isEmpty then List.replicate 6 Value.none else pl)).toArray=ts;have v:k.get? e=some ⟨cls,dct,.fields vs,x⟩:=(q.2.1 e D).trans w;have y:k.objs.size≠e:=Ze (m_ v);refine abw (b_ _ v) rfl F (h _ _ rfl ?_ ⟨by rw[uo,aad,q.1];exact aaE _,⟨[],(fun _ m=>nomatch m),fun b o i G j _=>?_⟩,fun b o i H=>?_,fun b o i n=>?_⟩)
 ·refine⟨vs.setIfInBounds 1 (.ref k.objs.size),x,k.objs.size,_,ts,ZL _ (b_ _ v) rfl,by simp [F],?_,y,(Y_ _ _ (Ne.symm y)).trans (j_ k rfl),rfl,?_⟩
  ·intro g;have:=r _ g;rw[q.1] at this;exact absurd this (Zm _)
  rw[<- p];first | (simp;done) | (rcases l with rfl | ⟨_,_,_,_,_,_,_,rfl⟩ <;> simp)
 ·exact (Y_ _ _ (Ne.symm j)).trans (b_ _ ((q.2.1 b G).trans i))
 ·obtain⟨f,t⟩:=q.2.2 b o i;have j:b≠e:=fun z=>D (z▸H);exact⟨f,(Y_ _ _ (Ne.symm j)).trans (b_ _ t)⟩
 obtain⟨f,t⟩:=q.2.2 b o i;have j:b≠e:=fun z=>by subst z;rw[w] at i;cases i;exact n vs rfl
 exact⟨f,(Y_ _ _ (Ne.symm j)).trans (b_ _ t)⟩
def WF (r:s.heap.get? e=some ⟨cls,dct,.fields vs,l⟩) (w:vs[1]?=some (.ref T)) (f:¬S T) (c:T≠e) (j:s.heap.get? T=some oT) (k:oT.data=.fields ts) (B:ts[3]?=some y) (n:∀b∈fs,∃o,s.heap.get? b=some o/\∀vs,o.data≠.fields vs) (h:∀h',h'.get? e=some ⟨cls,dct,.fields vs,l⟩->Ntd h' S e cls dct x->Kpx fs e S s.heap h'->Q () { s with heap:=h'}):wpAny M A (setField (.ref T) 3 x) Q E s:=by
 have d:∀b,b≠T->(s.heap.update T (Obj.mapFields (·.setIfInBounds 3 x))).get? b=s.heap.get? b:=fun b a=>Y_ _ _ (Ne.symm a);have t:=(Zt.mp B).1;have q:=aaH k (·.setIfInBounds 3 x);have p:∀b o,s.heap.get? b=some o->(∀vs,o.data≠.fields vs)->b≠T:=fun b o a g z=>by subst z;rw[j] at a;cases a;exact g ts k
 refine abw j k t (h _ ((d e (Ne.symm c)).trans r) ⟨vs,l,T,_,_,(d e (Ne.symm c)).trans r,w,f,c,ZL _ j (abJ q),q,by simp [t]⟩ ⟨by rw[uo];exact k_ _,⟨[T],fun b m=>by rw[t_.mp m];exact f,fun b o a _ _ C=>(d b fun z=>C (t_.mpr z)).trans a⟩,fun b o a u=>⟨o.slots,(d b ?_).trans a⟩,fun b o a g=>⟨o.slots,(d b (p b o a g)).trans a⟩⟩);obtain⟨v,i,g⟩:=n b u;exact p b v i g
def Gb (n:Ntd s.heap S e cls dct j) (c:∀b∈fs,∃o,s.heap.get? b=some o/\∀vs,o.data≠.fields vs) (h:∀h',Ntd h' S e cls dct .none->Kpx fs e S s.heap h'->Q () { s with heap:=h'}):wpAny M A (setFlight (.ref e) none) Q E s:=by
 obtain⟨vs,q,T,oT,ts,g,i,d,a,m,p,l⟩:=n;unfold setFlight;refine a_ (T_ g rfl i ?_);rw[if_pos (show (Value.ref T != Value.none)=true from by simp)];exact WF g i d a m p l c fun h' _ f k=>h h' f k
def note (j:A.frames=some (env::outer)) (p:s.heap.FunFrames base (env::outer)) (u:env.frame=some L) (C:Rsd s.heap e cls dct\/Ntd s.heap S e cls dct .none\/Ntd s.heap S e cls dct (rawInt L)) (i:∀b,S b->b<s.heap.objs.size) (h:∀h',Ntd h' S e cls dct (rawInt L)->Kpx (fra (env::outer)) e S s.heap h'->Q () { s with heap:=h'}):wpAny M A (noteFrame (.ref e) env) Q E s:=by
 have z:∀b∈fra (env::outer),∃o,s.heap.get? b=some o/\∀vs,o.data≠.fields vs:=fun b B=>(p.mem B).2;unfold noteFrame;simp only[u];rcases C with ⟨vs,y,c,a⟩ | ⟨vs,y,T,oT,ts,c,a,f,d,l,n,k⟩ | ⟨vs,y,T,oT,ts,c,a,f,d,l,n,k⟩
 ·refine a_ (T_ c rfl a ?_);rw[if_neg (by decide)];exact yJ j p u c (Zt.mp a).1 i fun h' D v w g=>h h' (v▸w) g
 ·refine a_ (T_ c rfl a ?_);rw[if_pos (show (Value.ref T != Value.none)=true from by simp)];refine a_ (T_ l n k ?_);rw[if_neg (show ¬((Value.none==rawInt L)=true) from by simp [rawInt])];refine a_ (WF (x:=.none) c a f d l n k z fun G r _ g=>?_);refine yJ j (g.fr p) u r (Zt.mp a).1 (fun b F=>J_ (i b F) g.sz) fun h' D v w t=>h h' (v▸w) (g.trans t)
 refine a_ (T_ c rfl a ?_);rw[if_pos (show (Value.ref T != Value.none)=true from by simp)];refine a_ (T_ l n k ?_);rw[if_pos (show (rawInt L==rawInt L)=true from by first | (simp;done) | exact beq_self_eq_true _)];exact h_ (h _ ⟨vs,y,T,oT,ts,c,a,f,d,l,n,k⟩ ⟨k_ _,⟨[],(fun _ m=>nomatch m),fun _ _ q _ _ _=>q⟩,fun _ o q _=>⟨o.slots,q⟩,fun _ o q _=>⟨o.slots,q⟩⟩)
def leaves (a:A.frames=some (env::outer)) (i:s.heap.FunFrames base (env::outer)) (l:env.frame=some L) (m:Rsd s.heap e cls dct\/Ntd s.heap S e cls dct .none\/Ntd s.heap S e cls dct (rawInt L)) (d:∀b,S b->b<s.heap.objs.size) (h:∀h',Ntd h' S e cls dct .none->Kpx (fra (env::outer)) e S s.heap h'->Q () { s with heap:=h'}):wpAny M A (leaving env (.ref e)) Q E s:=by
 unfold leaving;refine a_ (note a i l m d fun o n g=>?_);refine Gb n (fun b j=>?_) fun k c f=>h k c (g.trans f);exact ((g.fr i).mem j).2
end
abbrev Std (s:Shared) (H:Hp):Addr->Prop:=fun b=>b<s.heap.objs.size\/∃u,H b=some u
def CX1 (P:Program) (w:World):CXT:=fun outer H s E e s'=>∃(a C:Addr) (b:Option Addr) (H':Hp),e=.ref a/\s'.os=s.os/\AllBare s'.gens/\Un (frs outer) [] H H' s.heap s'.heap/\HOk P w H' s'.heap/\s.heap.objs.size<=a/\H' a=none /\
 Ntd s'.heap (Std s H') a (.ref C) b .none/\E (.ref C) b H'
def SX (X:Cx) (a:List (Addr × Obj)) (H:Hp):Addr->Prop:=fun b=>Std X.s₀ H b\/(∃p∈X.pn++a,p.1=b)\/(∃x,X.env.cells.lookup x=some b)\/b=X.env.locals
structure Fly (X:Cx) (pins:List (Addr × Obj)) (Z:St) (H:Hp) (s:Shared) (ea C:Addr) (dx:Option Addr):Prop where
 inv:Inv X pins Z H s
 new:X.s₀.heap.objs.size<=ea/\ea≠X.env.locals/\(∀x c,X.env.cells.lookup x=some c->c≠ea)/\∀p∈X.pn++pins,p.1≠ea
 free:H ea=none
 fly:Rsd s.heap ea (.ref C) dx\/Ntd s.heap (SX X pins H) ea (.ref C) dx .none
def Ntd.mono (x:Ntd h S e c a d) (k:∀b,f b->S b):Ntd h f e c a d:=by
 obtain⟨vs,g,T,oT,ts,l,i,j,r⟩:=x;exact⟨vs,g,T,oT,ts,l,i,fun z=>j (k _ z),r⟩
section
variable {X:Cx}{pins:List (Addr × Obj)}{Z:St}
def Inv.cellAt (I:Inv X pins Z H s) (h:X.env.cells.lookup x=some c):∃u,s.heap.get? c=some u:=by
 obtain⟨v,o,e,_⟩:=I.cell x c h;exact⟨o,e⟩
def Inv.sx (I:Inv X pins Z H s) (h:SX X pins H b):b<s.heap.objs.size:=by
 rcases h with (h | ⟨u,a⟩) | ⟨p,c,rfl⟩ | ⟨x,d⟩ | rfl
 ·exact J_ h I.sz
 ·exact (I.hok b u a).lt
 ·exact m_ (I.pin p c).1
 ·obtain⟨u,a⟩:=I.cellAt d;exact m_ a
 exact I.lt
def Inv.newer (I:Inv X pins Z H s) {a:Addr}(h:s.heap.objs.size<=a):X.s₀.heap.objs.size<=a/\a≠X.env.locals/\(∀x c,X.env.cells.lookup x=some c->c≠a)/\∀p∈X.pn++pins,p.1≠a:=by
 have d:∀b,b<s.heap.objs.size->b≠a:=fun b e z=>by rw[z] at e;exact absurd e (Nat.not_lt_of_le h)
 exact⟨P_ I.sz h,Ne.symm (d _ I.lt),fun x c f=>d c (let ⟨_,hu⟩:=I.cellAt f;m_ hu),fun p g=>d _ (m_ (I.pin p g).1)⟩
def RL (I:Inv X pins Z H s) (h:CX1 X.prog X.w X.stack H s E e s'):∃f C g H',e=.ref f/\Fly X pins Z H' s' f C g/\E (.ref C) g H':=by
 obtain⟨f,C,g,H',rfl,q,d,n,k,j,c,i,l⟩:=h;refine⟨f,C,g,H',rfl,⟨I.call' q n k d (fun b z=>absurd z (by simp)),I.newer j,c,.inr (i.mono fun b a=>?_)⟩,l⟩;rcases a with (a | a) | ⟨p,r,rfl⟩ | ⟨x,o⟩ | rfl
 ·exact .inl (J_ a I.sz)
 ·exact .inr a
 ·exact .inl (m_ (I.pin p r).1)
 ·obtain⟨u,m⟩:=I.cellAt o;exact .inl (m_ m)
 exact .inl I.lt
def Kpx.hok (k:Kpx fs ea S h h') (g:∀b u,H b=some u->S b) (l:∀b∈fs,H b=none) (f:H ea=none) (x:HOk P w H h):HOk P w H h':=fun b u e=>by
 refine (x b u e).stay (fun c v i q=>?_) (fun _ q=>q) fun _ _ q=>q;have d:∃u,H c=some u:=by
  rcases i with z | z
  ·exact⟨u,z▸e⟩
  exact⟨_,z⟩
 obtain⟨j,a⟩:=d;exact k.keep c v q (g c j a) (fun z=>by rw[l c z] at a;cases a) fun z=>by rw[z,f] at a;cases a
def Ks (F:Fly X pins Z H s ea C dx) (O:X.ex=[]) (G:X.stack=X.env::X.outer) (J:X.env.frame=some X.env.locals) (L:E (.ref C) dx H):
  wpAny (model X.prog X.w) X.A (leaving X.env (.ref ea)) (fun _ s'=>CX1 X.prog X.w X.outer X.H₀ X.s₀ E (.ref ea) s') N s:=by
 obtain ⟨I,f,d,t⟩:=F;have y:=I.stack;have g:=I.ok.frames;rw [G] at y g;have a : fra (X.env :: X.outer) = X.env.locals :: frs X.outer:=by show List.filterMap _ (X.env :: X.outer) = _;rw [abo,J];rfl
 refine leaves (base:=X.base) (S:=SX X pins H) g y J (by rcases t with q | q;exact .inl q;exact .inr (.inl q)) (fun b j=>I.sx j) fun h' x k=>?_;have v:∀b∈fra (X.env::X.outer),H b=none:=fun b j=>I.stkFree b (by rw[G];exact j);have p:∀b o,X.s₀.heap.get? b=some o->b≠X.env.locals:=fun b o e z=>by have h:=m_ e;have M:=I.ok.above;rw[z] at h;exact absurd h (Nat.not_lt_of_le M)
 have l:∀b o,X.s₀.heap.get? b=some o->b≠ea:=fun b o e z=>by have h:=m_ e;rw[z] at h;exact absurd h (Nat.not_lt_of_le f.1)
 have c:∀b:Addr,b∉X.ex:=fun b=>by rw[O];simp
 refine⟨ea,C,dx,H,rfl,I.os,I.bare,⟨fun b o e n B _=>?_,fun b o e n D _=>?_,fun b o e n _=>I.base.free b o e n (c b),fun b o e _=>?_,I.base.tups,I.base.frzs,I.base.tbls⟩,k.hok (fun b u e=>.inl (.inr ⟨u,e⟩)) v d I.hok,f.1,d,x.mono (fun b j=>.inl j),L⟩
 ·refine k.keep b o (I.base.keep b o e n B (c b)) (.inl (.inl (m_ e))) ?_ (l b o e);rw[a];exact fun z=>(n_.mp z).elim (p b o e) B
 ·obtain⟨P,q⟩:=I.base.slot b o e n D (c b);obtain⟨i,r⟩:=k.slot b _ q (by rw[a];exact o_ _ D);exact⟨i,r⟩
 obtain⟨K,q⟩:=I.base.there b o e (c b);by_cases m:b∈fra (X.env::X.outer)
 ·obtain⟨i,r⟩:=k.slot b _ q m;exact⟨_,r⟩
 exact⟨_,k.keep b K q (.inl (.inl (m_ e))) m (l b o e)⟩
def Meet (X:Cx) (E:St->XK):Prop:=∀(a:List (Addr × Obj)) (Z:St) (H:Hp) (s:Shared) (c C:Addr) (b:Option Addr),Fly X a Z H s c C b->E Z (.ref C) b H->X.xe (.ref c) s
end
def Gd {K:Frag}:
  Meet (lY (CX1 P w) P w K c base N a scope f b A outer s H E) (fun _=>E):=fun d Z H' s' h C g F e=>Ks (X:=lY (CX1 P w) P w K c base N a scope f b A outer s H E) F rfl rfl rfl e
section
variable {X:Cx}{k:Nat}
def Ku {Z:St} (F:acJ X.prog X.w X.K X.mg X.base (CX1 X.prog X.w) k f fd ps sp) (p:tR k X.A) (l:Binds X.K fd ps []) (j:Meet X E) (I:Inv X a Z H s) (r:Vals vs us) (h:sp vs H Q (E Z)):wpAny (model X.prog X.w) X.A (call (.ref f) us) (EP X a Z Q) X.xe s:=by
 have m:(us++[]).length=ps.length:=by rw[W_,<- r.length];exact F.len _ _ _ _ h
 have b:=l s us I.kIn m;rw[W_] at b;refine wpAny_call (abg (F.run X.A X.stack s H ⟨us,[]⟩ us vs Q (E Z) p I.env0 b r h) fun r s' c=>?_);cases r with
 |error e=>obtain⟨o,C,n,H',rfl,g,i⟩:=RL I c;exact j a Z H' s' o C n g i
 |ok d =>
 cases d with
 |ret u=>exact I.after c
 |next=>exact False.elim c
 |brk=>exact False.elim c
 |cont=>exact False.elim c
end
open PySem.Builtin PySem.Builtin.ObjectAttr
section
variable {prog:Program}{w:World}{A:Around}{K:Frag}
structure adg (K:Frag) (C:Addr) (cd:ClassData):Prop where
 cls:clsIn K C=some cd
 sa:findIn K (.ref C) "__setattr__"=some (some (.builtin "object.__setattr__"))
 ref:∀self:Value,refuseLoop self "__setattr__" cd.mro=pure ()
 obj:mroIn K C (.type "object")=some true
 dct:cd.hasDict=true
def pH (F:adg K C c) (X:K.In s.heap) (I:InstAt s.heap x d C od) (f:findIn K (.ref C) name=some none) (h:wpAny (model prog w) A.in1 (storeInOwnDict (.ref x) (.ref C) (.str name s.toks) name v false) (fun b s'=>b=.done (.ret .none)/\Q () s') E { s with toks:=s.toks+1}):
  wpAny (model prog w) A (setAttr (.ref x) name v) Q E s:=by
 have a:=PySem.F.store_object;refine set_plain X I F.sa ?_;have sub:PySem.W.Looks (model prog w) s.heap (isInstance (.ref x) (.type "object")) true:=I.type.andThen (looks_mroIn X F.obj);refine codeAny_call_builtin a.slot.plain a.entry (@PySem.W.check_slot (model prog w) _ _ { s with toks:=s.toks+1} "object.__setattr__" "object" "__setattr__" (.ref x) [.str name s.toks,v] [] _ a.kind a.split sub (a.args (.ref x) (.str name s.toks) v) ?_);have e:PySem.W.Looks (model prog w) s.heap (mroOf (.ref C)) c.mro:=(looks_clsIn X F.cls).andThen .now;rw[osa_eq,refuse_eq];refine a_ (a_ (aaj (s:={ s with toks:=s.toks+1}) I.type (a_ (aaj (s:={ s with toks:=s.toks+1}) e ?_))));rw[F.ref];refine h_ (a_ (aaj (s:={ s with toks:=s.toks+1}) I.type (a_ (aaj (s:={ s with toks:=s.toks+1}) (looks_findIn X f) ?_))));refine a_ (h_ ?_);refine ZX h (fun b s' z=>?_) fun _ _ z=>z;obtain⟨rfl,q⟩:=z;exact q
def An (F:adg K C k) (X:K.In s.heap) (i:s.heap.get? x=some ⟨.ref C,some c,.fields vs,m⟩) (j:s.heap.Ns1 c mA) (l:PySem.Within mA ns) (r:ns.length<sizeLine) (q:findIn K (.ref C) name=some none) (h:∀h',h'.Ns1 c (fun y=>if y=name then some v else mA y)->Heap.SameBut c s.heap h'->Q () { s with heap:=h',toks:=s.toks+2}):
  wpAny (model prog w) A (setAttr (.ref x) name v) Q E s:=by
 obtain⟨od,n,_⟩:=oK j;refine pH F X (od:=some od) ⟨i,rfl,rfl,n⟩ q ?_;refine a_ (h_ (a_ (a_ (wpAny_loadPart i (a_ (aaj (s:={ s with toks:=s.toks+1}) (looks_clsIn X F.cls) ?_))))));rw[F.dct];refine h_ (a:=some c) ?_;refine a_ (h_ (a_ (wpAny_nsSet1 (s:={ s with toks:=s.toks+1}) j fun h' b f=>?_)));obtain⟨oD,o,p,g,e,d⟩:=b.count (PySem.Within.cons name v l);refine a_ (wpAny_lookBehind g (by rw[e];exact pastItsLine_dict (P_ d (by rw[p_];omega))) ?_);exact h_ ⟨rfl,h h' b f⟩
def Ge (F:adg K C r) (X:K.In s.heap) (f:s.heap.get? x=some ⟨.ref C,none,.fields vs,k⟩) (D:findIn K (.ref C) name=some none) (h:∀h',h'.get? x=some ⟨.ref C,some s.heap.objs.size,.fields vs,k⟩->h'.Ns1 s.heap.objs.size (fun y=>if y=name then some v else none)->(∀b o,b≠x->s.heap.get? b=some o->h'.get? b=some o)->Q () { s with heap:=h',toks:=s.toks+2}):
  wpAny (model prog w) A (setAttr (.ref x) name v) Q E s:=by
 refine pH F X (od:=none) ⟨f,rfl,rfl,trivial⟩ D ?_;refine a_ (h_ (a_ (a_ (wpAny_loadPart f (a_ (aaj (s:={ s with toks:=s.toks+1}) (looks_clsIn X F.cls) ?_))))));rw[F.dct];have xs:x≠s.heap.objs.size:=G_ (m_ f);have c:(s.heap.push { cls:=.type "dict",data:=.dict #[]}).get? x=some ⟨.ref C,none,.fields vs,k⟩:=b_ _ f;show wpAny _ _ (alloc { cls:=.type "dict",data:=.dict #[]} >>= _) _ _ _;refine a_ (wpAny_alloc (a_ (wpAny_update c (h_ ?_))));have m:=ZL (fun o=>{ cls:=o.cls,dict:=some s.heap.objs.size,data:=o.data,slots:=o.slots}) c rfl;have n:=(Y_ (s.heap.push { cls:=.type "dict",data:=.dict #[]}) (fun o=>{ cls:=o.cls,dict:=some s.heap.objs.size,data:=o.data,slots:=o.slots}) xs).trans (j_ s.heap rfl);have p:∀b o,b≠x->s.heap.get? b=some o->((s.heap.push { cls:=.type "dict",data:=.dict #[]}).update x fun o=>{ cls:=o.cls,dict:=some s.heap.objs.size,data:=o.data,slots:=o.slots}).get? b=some o:=fun b o g e=>(Y_ _ _ (Ne.symm g)).trans (b_ _ e);generalize (s.heap.push { cls:=.type "dict",data:=.dict #[]}).update x (fun o=>{ cls:=o.cls,dict:=some s.heap.objs.size,data:=o.data,slots:=o.slots})=u at m n p;have B:u.Ns s.heap.objs.size (fun _=>none):=⟨_,#[],_,n,rfl,fun e t=>absurd t (by simp),fun _=>rfl⟩;refine a_ (h_ (a_ (wpAny_nsSet1 (Heap.Ns1.of_empty B) fun h' d a=>?_)));obtain⟨oD,q,z,i,l,j⟩:=d.count (PySem.Within.cons name v PySem.Within.nil);refine a_ (wpAny_lookBehind i (by rw[l];exact pastItsLine_dict (P_ j (by rw[p_,ZQ,aby];omega))) ?_);exact h_ ⟨rfl,h h' ((a.2 x xs).trans m) d fun b o g e=>(a.2 b (G_ (m_ e))).trans (p b o g e)⟩
variable {X:Cx}{pins:List (Addr × Obj)}{Z:St}
def Inv.xlay {f a:HO} (I:Inv X pins Z H s) (d:Mut (H e)) (B:s.heap.get? dx=none) (i:H dx=none) (C:dx≠e) (k:∀b o,b≠e->s.heap.get? b=some o->h'.get? b=some o) (l:∃o,h'.get? e=some o) (p:vy X.prog X.w (upd (upd H dx f) e a) h' dx f) (x:vy X.prog X.w (upd (upd H dx f) e a) h' e a):Inv X pins Z (upd (upd H dx f) e a) { s with heap:=h',toks:=t'}:=by
 have t:∃q,H e=some q:=by cases q:H e with
  |none=>rw[q] at d;exact d.elim
  |some o=>exact⟨o,rfl⟩
 obtain⟨q,y⟩:=t;have g:∀b,H b=none->b≠e:=fun b z w=>by subst w;rw[y] at z;cases z
 have A:∀b o,s.heap.get? b=some o->b≠dx:=fun b o z w=>by subst w;rw[B] at z;cases z
 have nm:∀b o,H b=some o->Mut (some o)=False->b≠e/\b≠dx:=fun b o z m=>⟨fun w=>by subst w;rw[z] at d;rw[m] at d;exact d,fun w=>by subst w;rw[i] at z;cases z⟩;have st:∀b o,H b=some o->Mut (some o)=False->upd (upd H dx f) e a b=some o:=fun b o z m=>by rw[aM (nm b o z m).1,aM (nm b o z m).2];exact z
 refine I.un ⟨fun b o z n _ _=>k b o (g b n) z,fun b o z n _ _=>⟨o.slots,k b o (g b n) z⟩,fun b o z n _=>by rw[aM (g b n),aM (A b o z)];exact n,fun b o z _=>?_,fun b xs z=>st b _ z rfl,fun b o u z=>st b _ z rfl,fun b ps z=>⟨#[],by rw[st b _ z rfl];simp⟩⟩ fun b u z=>?_
 ·by_cases w:b=e
  ·subst w;exact l
  exact⟨o,k b o w z⟩
 by_cases w:b=e
 ·subst w;rw[aY] at z;cases z;exact x
 rw[aM w] at z;by_cases j:b=dx
 ·subst j;rw[aY] at z;cases z;exact p
 rw[aM j] at z;refine (I.hok b u z).stay (fun c v h r=>k c v ?_ r) (fun c r=>st c _ r rfl) fun c xs r=>st c _ r rfl;rcases h with rfl | h
 ·exact w
 exact (nm c _ h rfl).1
def Gf (r:∀g,acG (fs.lookup g) (mA g)) (c:PySem.Within mA (fs.map (·.1))) (b:RelV y u):
  (∀g,acG ((dW f y fs).lookup g) (if g=f then some u else mA g))/\PySem.Within (fun g=>if g=f then some u else mA g) ((dW f y fs).map (·.1)):=by
 refine⟨fun g=>?_,fun g a=>?_⟩
 ·rw[gR];by_cases q:g=f
  ·rw[if_pos q,if_pos q];exact b
  rw[if_neg q,if_neg q];exact r g
 by_cases q:g=f
 ·rw[q];exact (fV f y fs).1
 refine (fV f y fs).2 g (c g fun z=>a ?_);show (if g=f then some u else mA g)=none;rw[if_neg q];exact z
def WK (F:adg X.K C cd) (I:Inv X pins Z H s) (c:H e=some (exO e C none rd)) (n:findIn X.K (.ref C) f=some none) (j:RelV y u) (h:∀dx s',H dx=none->dx≠e->Inv X pins Z (upd (upd H dx (dxO dx [(f,y)])) e (exO e C (some dx) rd)) s'->Q () s'):wpAny (model X.prog X.w) A (setAttr (.ref e) f u) Q E s:=by
 obtain⟨vs,l,d,i⟩:=exO.of I.hok c;have a:H s.heap.objs.size=none:=I.hok.fresh (k_ _);have b:s.heap.objs.size≠e:=Ze (m_ d);refine Ge F I.kIn d n fun h' g o k=>h s.heap.objs.size _ a b ?_;have m:dxP s.heap.objs.size [(f,y)] h':=by have:=Gf (f:=f) (fs:=[]) (mA:=fun _=>none) (y:=y) (u:=u) (fun _=>trivial) PySem.Within.nil j;exact⟨_,o,this.1,this.2⟩
 exact I.xlay (by rw[c];exact trivial) (Heap.get?_none_of_le (k_ _)) a b k ⟨_,g⟩ (dxO.ok m) (exO.ok ⟨vs,l,g,i⟩)
def WL (F:adg X.K C cd) (I:Inv X pins Z H s) (j:H e=some (exO e C (some dx) rd)) (g:H dx=some (dxO dx fs)) (D:fs.length<1000) (p:findIn X.K (.ref C) f=some none) (i:RelV y u) (h:∀s',Inv X pins Z (upd H dx (dxO dx (dW f y fs))) s'->Q () s'):wpAny (model X.prog X.w) A (setAttr (.ref e) f u) Q E s:=by
 obtain⟨vs,B,n,v⟩:=exO.of I.hok j;obtain⟨mA,c,r,d⟩:=dxO.of I.hok g;have t:(fs.map (·.1)).length<sizeLine:=by rw[d_,aby];omega
 refine An F I.kIn n c d t p fun h' a k=>h _ ?_;have:=Gf (f:=f) r d i;have l:dxP dx (dW f y fs) h':=⟨_,a,this.1,this.2⟩;exact I.write (x:=dx) (e:=dx) (by rw[g];exact trivial) (.inl rfl) (fun b q m z=>(k.2 b m).trans z) (let ⟨o,_,_,z,_⟩:=a;⟨o,z⟩) (dxO.ok l)
end
def wQ {K:Frag} (X:K.In h) (G:h.Ns N a) (e:nsIn K N n=some (some v)):a n=some v:=by
 obtain⟨o,g,ep,c,f,_,d⟩:=G;unfold nsIn at e;split at e
 ·rename_i q;have:=X _ _ q;rw[c] at this;cases this;cases f;split at e
  ·rename_i b;rw[<- d];unfold nsFind findBy;rw[<- Array.find?_toList,b];simpa using e
  split at e <;> cases e
 cases e
def wR {K:Frag} (X:K.In h) (G:h.Ns N a) (e:nsIn K N n=some v):a n=v:=by
 cases v with
 |none=>exact PySem.W.ns_none_of X G e
 |some v=>exact wQ X G e
def yK (K:Frag) (C:Addr) (io:Option Value) (a:List Value) (newId:String):Bool:=match K.lookup C with
 |some ⟨.type "type",_,.cls cd,sl⟩=>(match cd.mro,sl.toList with
  |.ref C'::bm,[_,_,_,_,some (.builtin n),_]=>C'==C&&(n==newId&&(!cd.hasDel&&(tailIn K a bm&&(nsOkIn K cd.ns&&nsIn K cd.ns "__init__"==some io))))
  |_,_=>false)
 |_=>false
def WM (h:Heap) (C:Addr) (io:Option Value) (b:List Value) (newId:String):Prop :=
 ∃(d:List Value) (N:Addr) (nm q:Str) (g:List Value) (e:Bool) (l:List Str) (sub:List Value) (j:Bool) (a:Option Bool) (n:Option Addr) (i m o k f:Option Value) (c:Str->Option Value),
  h.get? C=some (excClassObj nm q C N g d e l sub j a n i m o k f newId)/\h.Ns N c/\c "__init__"=io/\OwnTail h b d
def lG {K:Frag} (X:K.In h) (q:yK K C io b newId=true):WM h C io b newId:=by
 unfold yK at q;split at q
 ·rename_i A z r v;split at q
  ·rename_i F B g p k f n m o j;simp only[Zq,aaf,abL] at q;obtain⟨rfl,rfl,a,x,c,i⟩:=q;obtain⟨nm,s,y,ns,E,D,w,sub,u,d,t⟩:=z;dsimp only at o a c i;subst o a;have e:r=#[g,p,k,f,some (.builtin n),m]:=by obtain⟨l⟩:=r;simp only at j;rw[j]
   subst e;have G:h.Ns ns (h.nsMap ns):=.of_isNs (PySem.W.isNs_of_in X c);exact⟨B,ns,nm,E,s,D,w,sub,u,d,A,g,p,k,f,m,_,X _ _ v,G,wR X G i,PySem.W.tail_of_in X x⟩
  cases q
 cases q
structure XMk (K:Frag) (C f:Addr) (bmB:List Value) (newId:String):Prop where
 makes:yK K C (some (.ref f)) bmB newId=true
 fn:isFn K (.ref f)=true
 kp:keepIn K (.ref C)=true
section
variable {X:Cx}{CX:CXT}
def Inv.xmade {Z:St} (I:Inv X c Z H s) (us:List Value):Inv X c Z (upd H (s.heap.objs.size+1) (exO (s.heap.objs.size+1) C none true)) { s with heap:=Ga s.heap C us}:=by
 have d:∀b o,s.heap.get? b=some o->(Ga s.heap C us).get? b=some o:=fun b o e=>b_ _ (b_ _ e);refine I.laid (t':=s.toks) (a:=s.heap.objs.size+1) d (aaE _) (exO.ok ⟨#[.ref s.heap.objs.size,.none,.none,.none,.bool false,.none],#[],?_,fun _=>rfl⟩);have:=j_ (s.heap.push { cls:=.type "tuple",data:=.seq us.toArray}) (o:={ cls:=.ref C,data:=.fields #[.ref s.heap.objs.size,.none,.none,.none,.bool false,.none]}) rfl;rw[aad] at this;exact this
def Ao {Z:St} (U:ExcBaseFacts Bn newId inN bmN) (n:bmB.contains (.type Bn)=true) (D:ExcBaseFacts B nid initId bmB) (M:XMk X.K C f bmB newId) (F:acJ X.prog X.w X.K X.mg X.base CX0 k f fd ps sp) (J:tR (k+1) X.A) (S:Binds X.K fd ps []) (I:Inv X b Z H s) (r:Vals vs us) (Y:us.length<=sizeLine) (h:∀x,H x=none->s.heap.objs.size<=x->sp (.ref x::vs) (upd H x (exO x C none true)) (fun v H2=>v=.non/\Q (.ref x) H2) E0):
  wpAny (model X.prog X.w) X.A (call (.ref C) us) (EP X b Z Q) X.xe s:=by
 have o:=h (s.heap.objs.size+1) (I.hok.fresh (aaE _)) (aaE _);have i:=Inv.xmade (C:=C) I us;have p:Vals (V.ref (s.heap.objs.size+1)::vs) (Value.ref (s.heap.objs.size+1)::us):=.cons rfl r;have E:(Value.ref (s.heap.objs.size+1)::us++[]).length=ps.length:=by have e:=p.length;rw[F.len _ _ _ _ o] at e;rw[W_];exact e.symm
 obtain⟨bm,N,nm,q,bs,hd,sn,sub,ab,z,dd,k0,k1,k2,k3,k5,mN,P,hn,L,T⟩:=lG I.kIn M.makes;have l:∃c,X.K.lookup f=some c/\c.cls=.type "function":=by have:=aaf.mp M.fn;exact abC.mp this
 obtain⟨c,W,j⟩:=l;have O:=I.kIn _ _ W;have m:=F.run _ X.stack _ _ ⟨Value.ref (s.heap.objs.size+1)::us,[]⟩ (Value.ref (s.heap.objs.size+1)::us) _ _ E0 (J.make C us []) (i.env0.make C us []) (by have:=S _ (Value.ref (s.heap.objs.size+1)::us) i.kIn E;rw[W_] at this;exact this) p o;obtain⟨hp,g,d,t,os⟩:=s;refine um U n D T P hn Y (.inl ⟨_,_,L,O,j,wpAny_call (abg m fun r s' a=>?_)⟩);cases r with
 |error e=>exact a.elim
 |ok R =>
 cases R with
 |ret u=>obtain⟨v,H',y,G,ev,q3⟩:=i.after a;subst ev;exact⟨G,⟨V.ref (hp.objs.size+1),H',y,rfl,q3⟩⟩
 |next=>exact False.elim a
 |brk=>exact False.elim a
 |cont=>exact False.elim a
end
def pI (n:bmB.contains (.type "BaseException")=true) (o:A.handled=none) (h:wpAny M A x (fun v a=>∃e vs j d,v=.ref e/\WM a.heap C io bmB newId/\a.heap.get? e=some ⟨.ref C,d,.fields vs,j⟩/\vs[1]?=some .none/\E (.ref e) a) E s):
  wpAny M A (raiseStmt env (some x) none) Q E s:=by
 unfold raiseStmt;refine a_ (ZX h (fun v a b=>?_) fun _ _ z=>z);obtain⟨e,vs,j,d,rfl,⟨p,N,nm,q,r,J,w,sub,t,k,D,y,I,F,u,G,H,f,K,B,T⟩,i,m,l⟩:=b;have c:(Value.ref C::p).contains (.type "BaseException")=true:=by rw[List.contains_cons,T.hasType n,Bool.or_true]
 obtain⟨P,g,L,tk,O⟩:=a;repeat (first | (with_reducible refine aaR i ?_) | (with_reducible refine aaR f ?_) | (with_reducible refine wpAny_isSubtype_exc f ?_;rw[c]) | (with_reducible refine T_ i rfl m ?_) | wp_step)
 exact wpAny_raiseNew_none o l
def rem (H:Hp) (e:Addr):Hp:=fun b=>if b=e then none else H b
def ut:rem H e e=none:=by unfold rem;rw[if_pos rfl]
def ig (h:b≠e):rem H e b=H b:=by unfold rem;rw[if_neg h]
def jz (h:H b=none):rem H e b=none:=by
 unfold rem;split
 ·rfl
 exact h
section
variable {X:Cx}{pins:List (Addr × Obj)}{Z:St}
def Inv.rem (I:Inv X pins Z H s) (D:H e=some (.ext φ)):Inv X pins Z (rem H e) s:=by
 have i:∀b o,H b=some o->(∀E,o≠.ext E)->b≠e:=fun b o z n w=>by subst w;rw[D] at z;cases z;exact n φ rfl
 obtain⟨F,K,h,⟨A,B,J,C,v,y,G⟩,j,g,f,d,a,k,l⟩:=I;refine⟨F,K,h,⟨A,B,fun b o z n m=>jz (J b o z n m),C,fun b xs z=>?_,fun b o u z=>?_,fun b ps z=>?_⟩,j,g,jz f,fun x c z=>jz (d x c z),fun p t=>⟨(a p t).1,jz (a p t).2.1,(a p t).2.2⟩,fun b u z=>?_,l⟩
 ·have:=v b xs z;rw[ig (i b _ this (fun _=>nofun))];exact this
 ·have:=y b o u z;rw[ig (i b _ this (fun _=>nofun))];exact this
 ·obtain⟨m,q⟩:=G b ps z;exact⟨m,by rw[ig (i b _ q (fun _=>nofun))];exact q⟩
 by_cases w:b=e
 ·subst w;rw[ut] at z;cases z
 rw[ig w] at z;exact (k b u z).stay (fun _ _ _ r=>r) (fun c r=>by rw[ig (i c _ r (fun _=>nofun))];exact r) fun c xs r=>by rw[ig (i c _ r (fun _=>nofun))];exact r
end
section
variable {X:Cx}{k:Nat}{np cpos pos:Pos}
def RM (C:Addr) (sp:Sp) (E:St->XK) (t:TA):TS:=fun _ Z H=>t Z H fun vs c=>vs.length<=sizeLine/\∀e,c e=none->∀Q:VK,(∀a b,a e=some (exO e C (some b) true)->E Z (.ref C) (some b) (rem a e)->Q .non a)->sp (.ref e::vs) (upd c e (exO e C none true)) Q E0
def Gg (hc:X.calm=true) (W:ExcBaseFacts Bn newId inN bmN) (z:bmB.contains (.type Bn)=true) (J:ExcBaseFacts B nid initId bmB) (M:XMk X.K C f bmB newId) (F:acJ X.prog X.w X.K X.mg X.base CX0 k f fd ps sp) (R:tR (k+1) X.A) (V:Binds X.K fd ps [])
  (N:Gl X x) (hm:X.mg x=some (.ref C)) (hM:Meet X E) (ha:PA X (e::es) t) (l:(x==("__debug__":Str))=false:=by decide) (T:starEach (e::es) X.env=(false,eval e X.env)::starEach es X.env:=by rfl) (p:(backTo cpos (starEach es X.env)).any (·.1)=false:=by rfl) :
  PS X (.Raise (some (.Call (.Name x np) (e::es) [] cpos)) none pos) (RM C sp E t):=by
 intro b s Z H D I h;rw[arm_exec_Raise];refine a_ (abI (pI (C:=C) (io:=some (.ref f)) (newId:=newId) J.hasBase (I.ok.hd hc) ?_));refine a_ ?_;refine ZF (iD I N hm ?_ l);refine callWith_K (h₀:=X.base) I.ok.mod.kin M.kp (Fl (ha cpos b s Z H _ I h) fun us U ⟨vs,H1,y,r,hz,q⟩=>⟨y.kIn,?_⟩) T p;refine Fl (Ao (Q:=fun v d=>∃a c,v=.ref a/\U.heap.objs.size<=a/\d a=some (exO a C (some c) true)/\E Z (.ref C) (some c) (rem d a)) W z J M F R V y r (by show us.length<=_;rw[<- r.length];exact hz) fun a m o=>?_) fun u O ⟨v,d,n,P,a,c,ev,hn,i,S⟩=>?_
 ·exact q a m _ fun d c j Y=>⟨rfl,a,c,rfl,o,j,Y⟩
 subst ev;obtain rfl:u=Value.ref a:=P;obtain⟨g,L,G,j⟩:=exO.of n.hok i;refine a_ (abI (h_ ⟨a,g,L,some c,rfl,lG n.kIn M.makes,G,j rfl,hM b Z (rem d a) O a C (some c) ⟨n.rem i,y.newer hn,ut,.inl ⟨g,L,G,j rfl⟩⟩ S⟩))
variable {pins:List (Addr × Obj)}{Z:St}
def Aq (a:X.stack=X.env::X.outer) (b:X.env.frame=some X.env.locals):fra X.stack=X.env.locals::X.fs:=by
 rw [a];show List.filterMap _ (X.env :: X.outer) = _;rw [abo,b];rfl
def Inv.kpx (I:Inv X pins Z H s) (B:X.stack=X.env::X.outer) (C:X.env.frame=some X.env.locals) (k:Kpx (fra X.stack) ea (SX X pins H) s.heap h') (d:H ea=none)
  (f:X.s₀.heap.objs.size<=ea/\ea≠X.env.locals/\(∀x c,X.env.cells.lookup x=some c->c≠ea)/\∀p∈X.pn++pins,p.1≠ea):Inv X pins Z H { s with heap:=h'}:=by
 have a:=Aq B C;obtain⟨xs,K,y⟩:=k.ex;have t:∀b,b≠X.env.locals->b∉X.fs->b∉fra X.stack:=fun b l v z=>by rw[a] at z;exact (n_.mp z).elim l v
 have j:∀b,b∈X.fs->b∈fra X.stack:=fun b z=>by rw[a];exact o_ _ z
 have w:X.env.locals∈fra X.stack:=by rw[a];exact l_
 refine I.step (ch:=ea::xs) (g':=s.gens) (d':=s.drawn) (t':=s.toks) (fun b h=>?_) (fun b o l v g e _=>y b o e (t b l v) (fun z=>g (z▸l_)) fun z=>g (o_ _ z))
  (fun b o _ i _ e _=>k.slot b o e (j b i)) (fun _ _ _ _ n=>n) (fun b o g e=>?_) (fun _ _ e=>e) (fun _ _ _ e=>e) (fun b ps e=>⟨#[],by rw[e];simp⟩) (fun m E=>?_)
  (k.hok (fun b u e=>.inl (.inr ⟨u,e⟩)) (fun b h=>I.stkFree b h) d I.hok) I.bare
 ·rcases n_.mp h with rfl | h
  ·exact⟨.inr f.1,f.2⟩
  have:=K b h;refine⟨.inr (Nat.le_of_not_lt fun z=>this (.inl (.inl z))),fun z=>this (.inr (.inr (.inr z))),fun x c F z=>this (.inr (.inr (.inl ⟨x,z▸F⟩))),fun p J z=>this (.inr (.inl ⟨p,J,z⟩))⟩
 ·by_cases i:b∈fra X.stack
  ·obtain⟨G,q⟩:=k.slot b o e i;exact⟨_,q⟩
  exact⟨o,y b o e i (fun z=>g (z▸l_)) fun z=>g (o_ _ z)⟩
 obtain⟨o,D,ep,A,r⟩:=E;obtain⟨G,q⟩:=k.slot _ o A w;exact⟨_,D,ep,q,r⟩
end
def Cx.inH (X:Cx) (e:Addr):Cx:={ X with A:=X.A.mark (some (.ref e)),calm:=false,xe:=fun _ _=>False}
section
variable {X:Cx}{pins:List (Addr × Obj)}{Z:St}{s:Shared}
def Inv.inH (I:Inv X pins Z H s):Inv (X.inH ea) pins Z H s:=by
 obtain⟨a,j,d,base,g,c,i,b,e,h,f⟩:=I;exact⟨⟨a.mod,a.kind,a.glob,a.blt,a.above,a.inj,a.has,a.cab,(fun z=>nomatch z),a.frames,a.stk,a.exf,a.bs,a.bsz,a.noex,a.exfs,a.funs,a.frf⟩,j,d,base,g,c,i,b,e,h,f⟩
def Inv.outH (I:Inv (X.inH ea) pins Z H s) (i:X.Ok):Inv X pins Z H s:=by
 obtain⟨_,j,c,base,f,b,h,a,d,g,e⟩:=I;exact⟨i,j,c,base,f,b,h,a,d,g,e⟩
variable {K:Frag}
def askIn (K:Frag) (R:Addr):Bool:=match K.lookup R with
 |some ⟨.type t,_,.cls _,_⟩=>t=="type"
 |_=>false
def RN (h:askIn K R=true):∃c a b,K.lookup R=some ⟨.type "type",c,.cls a,b⟩:=by
 unfold askIn at h;split at h
 ·rename_i t c a b q;rw[aaf.mp h] at q;exact⟨c,a,b,q⟩
 cases h
structure aeT (K:Frag) (R:Addr):Prop where
 at_:askIn K R=true
 base:mroIn K R (.type "BaseException")=some true
def Ar (a:aeT K R) (X:K.In s.heap) (k:s.heap.get? ea=some i) (l:i.cls=.ref C) (q:mroIn K C (.ref R)=some b) (h:Q b s):
  wpAny (model prog w) A (excMatches (.ref ea) (.ref R)) Q E s:=by
 obtain⟨c,m⟩:=a;obtain⟨v,u,r,p⟩:=RN c
 have o:=X _ _ p;have j:PySem.W.Looks (model prog w) s.heap (isSubtype (.ref R) (.type "BaseException")) true:=looks_mroIn X m;have n:PySem.W.Looks (model prog w) s.heap (isSubtype (.ref C) (.ref R)) b:=looks_mroIn X q;have t:isSubtype (.type "type") (.type "tuple")=pure false:=by rw[aa7];kernel_rfl
 obtain⟨e,g,d,tk,f⟩:=s;unfold excMatches;repeat (first | (with_reducible refine aaR o ?_) | (with_reducible refine aaR k ?_;rw[l]) | (with_reducible refine aaj (s:=⟨e,g,d,tk,f⟩) j ?_) | (with_reducible refine aaj (s:=⟨e,g,d,tk,f⟩) n ?_) | wp_step)
 cases b <;> (wp_walk;exact h)
end
def mrg (a H:Hp):Hp:=fun b=>match H b with
 |some (.tup xs)=>some (.tup xs)
 |some (.frz o u)=>some (.frz o u)
 |_=>a b
def jA (h:H b=none):mrg a H b=a b:=by unfold mrg;rw[h]
def qL (h:H b=some (.tup xs)):mrg a H b=some (.tup xs):=by unfold mrg;rw[h]
def qM (h:H b=some (.frz o u)):mrg a H b=some (.frz o u):=by unfold mrg;rw[h]
def qN (a H:Hp) (b:Addr):(∃xs,H b=some (.tup xs)/\mrg a H b=some (.tup xs))\/(∃o u,H b=some (.frz o u)/\mrg a H b=some (.frz o u))\/mrg a H b=a b:=by
 cases q:H b with
 |none=>exact .inr (.inr (jA q))
 |some o =>
 cases o with
 |tup xs=>exact .inl ⟨xs,rfl,qL q⟩
 |frz o u=>exact .inr (.inl ⟨o,u,rfl,qM q⟩)
 |_=>exact .inr (.inr (by unfold mrg;rw[q]))
def Cx.atTry (X:Cx) (xe:Value->Shared->Prop) (pn:List (Addr × Obj)) (a:Hp):Cx:={ X with xe:=xe,pn:=pn,H₀:=a}
section
variable {X:Cx}{pins pins':List (Addr × Obj)}{Z:St}
def Inv.atTry (I:Inv X pins Z H s):Inv (X.atTry xe (X.pn++pins) (mrg X.H₀ H)) [] Z H s:=by
 have x:=I.bs;have l:∀b∈X.fs,H b=none:=fun b d=>by obtain⟨_,o,A,_⟩:=I.ok.funs.mem d;exact I.base.free b o A (I.ok.frf b d) fun z=>I.ok.exfs b z d
 obtain⟨a,K,g,⟨C,D,J,F,w,y,G⟩,k,f,v,c,r,m,t⟩:=I;have j:∀b,mrg X.H₀ H b=none->X.H₀ b=none:=fun b z=>by
  rcases qN X.H₀ H b with ⟨xs,_,q⟩ | ⟨o,u,_,q⟩ | q
  ·rw[q] at z;cases z
  ·rw[q] at z;cases z
  rw[<- q];exact z
 refine⟨⟨a.mod,a.kind,a.glob,a.blt,a.above,a.inj,a.has,a.cab,a.hd,a.frames,a.stk,a.exf,fun b o e=>⟨(a.bs b o e).1,(jA (x b o e).2).trans (a.bs b o e).2⟩,a.bsz,a.noex,a.exfs,a.funs,fun b d=>(jA (l b d)).trans (a.frf b d)⟩,K,g,
  ⟨fun b o e n=>C b o e (j b n),fun b o e n=>D b o e (j b n),fun b o e n=>J b o e (j b n),F,fun b xs z=>?_,fun b o u z=>?_,fun b ps z=>?_⟩,k,f,v,c,fun p L=>r p (by simpa [Cx.atTry] using L),m,t⟩
 ·rcases qN X.H₀ H b with ⟨i,h,q⟩ | ⟨o,u,h,q⟩ | q
  ·rw[show mrg X.H₀ H b=some (.tup xs) from z] at q;cases q;exact h
  ·rw[show mrg X.H₀ H b=some (.tup xs) from z] at q;cases q
  exact w b xs (q▸z)
 ·rcases qN X.H₀ H b with ⟨i,h,q⟩ | ⟨E,B,h,q⟩ | q
  ·rw[show mrg X.H₀ H b=some (.frz o u) from z] at q;cases q
  ·rw[show mrg X.H₀ H b=some (.frz o u) from z] at q;cases q;exact h
  exact y b o u (q▸z)
 rcases qN X.H₀ H b with ⟨i,h,q⟩ | ⟨E,B,h,q⟩ | q
 ·rw[show mrg X.H₀ H b=some (.tbl ps) from z] at q;cases q
 ·rw[show mrg X.H₀ H b=some (.tbl ps) from z] at q;cases q
 exact G b ps (q▸z)
def Inv.offTry (I:Inv X pins Z H s) {l:St}(J:Inv (X.atTry xe (X.pn++pins) (mrg X.H₀ H)) pins' l H1 s1):Inv X pins l H1 s1:=by
 have k:∀b o,X.s₀.heap.get? b=some o->X.H₀ b=none->b∉X.ex->mrg X.H₀ H b=none:=fun b o e n x=>(jA (I.base.free b o e n x)).trans n;obtain⟨_,D,d,⟨w,y,C,A,t,v,B⟩,g,c,r,a,i,h,j⟩:=J;refine⟨I.ok,D,d,⟨fun b o e n f x=>w b o e (k b o e n x) f x,fun b o e n f x=>y b o e (k b o e n x) f x,fun b o e n x=>C b o e (k b o e n x) x,A,fun b xs z=>t b xs (qL (I.base.tups b xs z)),fun b o u z=>v b o u (qM (I.base.frzs b o u z)),fun b ps z=>B b ps ?_⟩,g,c,r,a,fun p E=>i p (Zo _ E),h,j⟩;obtain⟨m,q⟩:=I.base.tbls b ps z;show mrg X.H₀ H b=_;unfold mrg;rw[q];exact z
def RP {K:Frag} (h:SqT K H a xs):SqT K (mrg b H) a xs:=by
 rcases h with (h | ⟨o,h⟩) | h
 ·exact .inl (.inl (qL h))
 ·exact .inl (.inr ⟨o,qM h⟩)
 exact .inr h
def Inv.sqt {K:Frag} (I:Inv X pins Z H s) (h:SqT K X.H₀ a xs):SqT K H a xs:=by
 rcases h with (h | ⟨o,h⟩) | h
 ·exact .inl (.inl (I.base.tups a xs h))
 ·exact .inl (.inr ⟨o,I.base.frzs a o _ h⟩)
 exact .inr h
def SP.offTry (I:Inv X pins Z H s) (h:SP (X.atTry xe (X.pn++pins) (mrg X.H₀ H)) pins' D f s'):SP X pins D f s':=by
 cases f with
 |next=>obtain⟨a,H',J,q⟩:=h;exact⟨a,H',I.offTry J,q⟩
 |brk=>obtain⟨a,H',J,q⟩:=h;exact⟨a,H',I.offTry J,q⟩
 |cont=>obtain⟨a,H',J,q⟩:=h;exact⟨a,H',I.offTry J,q⟩
 |ret u=>obtain⟨v,a,H',J,r,q⟩:=h;exact⟨v,a,H',I.offTry J,r,q⟩
end
def Ends.gone (D:Ends) (i:Nat):Ends:=⟨fun Z H=>D.nx (Z.set i none) H,D.rt,fun Z H=>D.bk (Z.set i none) H,fun Z H=>D.ct (Z.set i none) H⟩
structure af4 (K:Frag) (C:Addr) (bmB:List Value) (newId:String):Prop where
 makes:yK K C none bmB newId=true
 kp:keepIn K (.ref C)=true
def Kv (C:Addr) (E:St->XK):TS:=fun _ Z H=>E Z (.ref C) none H
def Av (v:X.calm=true) (p:ExcBaseFacts Bn newId inN bmN) (c:bmB.contains (.type Bn)=true) (e:ExcBaseFacts B nid initId bmB) (M:af4 X.K C bmB newId)
  (l:Gl X x) (r:X.mg x=some (.ref C)) (y:Meet X E) (b:(x==("__debug__":Str))=false:=by decide) :
  PS X (.Raise (some (.Call (.Name x np) [] [] cpos)) none pos) (Kv C E):=by
 intro a s Z H D I h;rw[arm_exec_Raise];refine a_ (abI (pI (C:=C) (io:=none) (newId:=newId) e.hasBase (I.ok.hd v) ?_));refine a_ ?_;refine ZF (iD I l r ?_ b);refine PySem.W.callWith_K0 I.kIn M.kp ?_;obtain⟨R,N,nm,q,z,U,G,sub,A,m,L,J,S,O,F,P,Q,o,u,n,T⟩:=lG I.kIn M.makes;obtain⟨V,g,d,t,w⟩:=s;refine um p c e T o u (by decide) (.inr ⟨n,fun h' vs k j i=>?_⟩);have f:Inv X a Z H ⟨h',g,d,t,w⟩:=I.kept (t':=t) k;exact a_ (abI (h_ ⟨_,vs,#[],none,rfl,lG f.kIn M.makes,j,i,y a Z H _ _ C none ⟨f,I.newer (aaE _),I.hok.fresh (aaE _),.inl ⟨vs,#[],j,i⟩⟩ h⟩))
def Oc (K:Frag) (c:Hp) (R:Addr) (th:TS) (D:Ends):St->XK:=fun Z b _ H=>∃C,b=.ref C/\mroIn K C (.ref R)=some true/\((∀a xs,SqT K c a xs->SqT K H a xs)->th D Z H)
def WN (K:Frag) (R:Addr) (tb:(St->XK)->TS) (th:TS):TS:=fun D Z H=>tb (Oc K H R th D) D Z H
section
variable {X:Cx}{R:Addr}{np hpos pos:Pos}{tb:(St->XK)->TS}
def Kz (F:X.stack=X.env::X.outer) (N:X.env.frame=some X.env.locals) (a:aeT X.K R) (hg:Gl X x) (hm:X.mg x=some (.ref R))
  (E:∀(xe:Value->Shared->Prop) (pn:List (Addr × Obj)) (H0:Hp) (Es:St->XK),Meet (X.atTry xe pn H0) Es->PSs (X.atTry xe pn H0) body (tb Es)) (j:∀g,PSs (X.inH g) (b₀::suite) th) (P:(x==("__debug__":Str))=false:=by decide) :
  PS X (.Try body [.ExceptHandler (some (.Name x np)) none (b₀::suite) hpos] [] [] pos) (WN X.K R tb th):=by
 intro d s Z H D I h;refine wpAny_Try_except ?_;refine ZX (E _ (X.pn++d) (mrg X.H₀ H) (Oc X.K H R th D) ?_ [] s Z H D I.atTry h) (fun f s1 q=>?_) (fun _ _ z=>z)
 ·intro pins' Z' H' s' g C Y k he;obtain⟨C',e1,G,y⟩:=he;cases e1;have l:Inv X d Z' H' s':=I.offTry k.inv;replace y:=y fun a xs z=>Inv.sqt k.inv (RP z);have i:=k.free;have n:X.s₀.heap.objs.size<=g/\g≠X.env.locals/\(∀x c,X.env.cells.lookup x=some c->c≠g)/\∀p∈X.pn++d,p.1≠g:=⟨k.new.1,k.new.2.1,k.new.2.2.1,fun p W=>k.new.2.2.2 p (Zo _ W)⟩;have Q:Rsd s'.heap g (.ref C) Y\/Ntd s'.heap (SX X d H') g (.ref C) Y .none\/Ntd s'.heap (SX X d H') g (.ref C) Y (rawInt X.env.locals):=by
   rcases k.fly with q | q
   ·exact .inl q
   refine .inr (.inl (q.mono fun b t=>?_));rcases t with t | ⟨p,W,e⟩ | t
   ·exact .inl t
   ·exact .inr (.inl ⟨p,Zo _ W,e⟩)
   exact .inr (.inr t)
  have U:=l.ok.frames;have V:=l.stack;have M:∀{J:Heap},J.FunFrames X.base X.stack->∀b∈fra X.stack,∃o,J.get? b=some o/\∀vs,o.data≠.fields vs:=fun z b mb=>(z.mem mb).2;show wpAny (model X.prog X.w) X.A (noteFrame (.ref g) X.env) _ _ s';refine note (L:=X.env.locals) (base:=X.base) (outer:=X.outer) (by rw[<- F];exact U) (by rw[<- F];exact V) N Q (fun b t=>l.sx t) fun h1 n1 k1=>?_;rw[<- F] at k1;have I1:=l.kpx F N k1 i n;refine Gb (fs:=fra X.stack) n1 (M I1.stack) fun h2 n2 k2=>?_;have O:=I1.kpx F N k2 i n;refine wpAny_handleBy_cons (codeAny_handlers_test (iD (X:=X.inH g) O.inH hg hm ?_ P)) (by intro q;cases q);obtain⟨vs,sl,T,oT,ts,ho,_⟩:=id n2;refine Ar a O.kIn ho rfl G ?_;show codeAny _ _ _ _ _;refine codeAny_handlers_suite ?_;refine Gb (fs:=fra X.stack) n2 (M O.stack) fun h3 n3 k3=>?_;have I3:=O.kpx F N k3 i n;refine ZX (j g d _ _ _ D I3.inH y) (fun f s5 q=>?_) fun _ _ z=>z.elim;cases f with
  |next=>obtain⟨S,B,m,q⟩:=q;exact⟨_,B,m.outH l.ok,q⟩
  |brk=>obtain⟨S,B,m,q⟩:=q;exact⟨_,B,m.outH l.ok,q⟩
  |cont=>obtain⟨S,B,m,q⟩:=q;exact⟨_,B,m.outH l.ok,q⟩
  |ret u=>obtain⟨v,S,B,m,r,q⟩:=q;exact⟨v,_,B,m.outH l.ok,r,q⟩
 cases f with
 |next=>exact abS (SP.offTry I q)
 |brk=>exact (SP.offTry I q)
 |cont=>exact (SP.offTry I q)
 |ret u=>exact (SP.offTry I q)
variable {k:Nat}{f:Addr}{ps:List Str}{p:Pos}
def RQ (sp:Sp) (E:St->XK) (t:TA):TE:=fun Z H Q=>t Z H fun vs a=>sp vs a Q (E Z)
def Gh (F:acJ X.prog X.w X.K X.mg X.base (CX1 X.prog X.w) k f fd ps sp) (u:tR k X.A) (g:Gl X x) (o:X.mg x=some (.ref f)) (n:keepIn X.K (.ref f)=true) (l:Binds X.K fd ps []) (j:Meet X E)
  (m:PA X (e::es) t) (b:(x==("__debug__":Str))=false:=by decide) (i:starEach (e::es) X.env=(false,eval e X.env)::starEach es X.env:=by rfl) (c:(backTo pos (starEach es X.env)).any (·.1)=false:=by rfl) :
  PE X (.Call (.Name x p) (e::es) [] pos) (RQ sp E t):=by
 intro a s Z H Q I h;refine ZF (iD I g o ?_ b);refine callWith_K (h₀:=X.base) I.ok.mod.kin n (Fl (m pos a s Z H _ I h) fun us y ⟨vs,v,d,r,q⟩=>⟨d.kIn,?_⟩) i c;exact Ku F u l j d r q
end
end L2
namespace L3
open L2
abbrev YK3:=Addr->List (Str × T)->gb->Prop
def YX (E:YK3):YK3:=fun C fs H=>∃H',eH H' H/\E C fs H'
def DX (K:Frag) (H:Hp) (H3:gb):Option Addr->List (Str × T)->Prop
 |none,fs=>fs=[]
 |some dx,fs=>fs≠[]/\H3 dx=none/\∃vs,H dx=some (dxO dx vs)/\ada K H fs vs
def DX.sub {K:Frag} (h:DX K H H3 a fs) (c:eH b H3):DX K H b a fs:=by
 cases a with
 |none=>exact h
 |some d=>exact⟨h.1,(by cases z:b d with | none=>rfl | some o=>have:=c d o z;rw[h.2.1] at this;cases this),h.2.2⟩
def WP (K:Frag) (d:St3->YK3):L2.St->XK:=fun Z a c H=>∃C fs b H3,a=.ref C/\acj K H b Z/\g8 K H3 H/\DX K H H3 c fs/\d b C fs H3
def KX3 (K:Frag) (H:Hp) (c:YK3) (E:XK):Prop:=∀C b fs H' a,tE K H H'->g8 K a H'->DX K H' a b fs->c C fs a->E (.ref C) b H'
abbrev qO:=List T->gb->v6->YK3->Prop
def RV (K:Frag) (sp:qO):Sp:=fun vs H Q E=>∃ts H3 a b,gV K H ts vs/\g8 K H3 H/\sp ts H3 a b/\KV3 K H a Q/\KX3 K H b E
def Gi (P:Program) (w:World) (K:Frag) (a:Str->Option Value) (base:Heap) (k:Nat) (f:Addr) (b:FuncData) (ps:List Str) (sp:qO):Prop:=acJ P w K a base (CX1 P w) k f b ps (RV K sp)
def jB (X:Cx) (a:St3->YK3):Prop:=Meet X (WP X.K a)
section
variable {p pos:Pos}
def qP (sp:qO) (E:St3->YK3) (t:TA3):Ho:=fun Z H Q=>t Z H fun vs a=>sp vs a Q (E Z)
def Gj (F:Gi X.prog X.w X.K X.mg X.base k f fd ps sp) (v:tR k X.A) (o:Gl X x) (D:X.mg x=some (.ref f)) (s:keepIn X.K (.ref f)=true) (B:Binds X.K fd ps []) (L:jB X E)
  (I:PA3 X (e::es) t) (a:(x==("__debug__":Str))=false:=by decide) (z:starEach (e::es) X.env=(false,eval e X.env)::starEach es X.env:=by rfl) (l:(backTo pos (starEach es X.env)).any (·.1)=false:=by rfl) :
  xr X (.Call (.Name x p) (e::es) [] pos) (qP sp E t):=by
 refine PE.imp (Gh F v o D s B L I a z l) ?_;rintro Z H Q ⟨j,H3,J,m,u,h,k⟩;refine⟨j,H3,_,m,u,h,fun vs H' ts c n d r q=>?_⟩;exact⟨ts,c,J,E j,r,d,q,k.at n,fun C N fs M i g b G y=>⟨C,fs,j,i,rfl,m.mono (n.trans g),b,G,y⟩⟩
end
def Inv.tupLe {Z:L2.St} (I:Inv X b Z H s):tE X.K X.H₀ H:=by
 intro a xs h;rcases h with (h | ⟨o,h⟩) | h
 ·exact .inl (.inl (I.base.tups a xs h))
 ·exact .inl (.inr ⟨o,I.base.frzs a o _ h⟩)
 exact .inr h
def fnX {K:Frag}{st:Stmt} (F:Fun K x a st f fd) (S:gk N ps (aB st)) (m:∀ts H Q E,sp ts H Q E->ts.length=ps.length) (d:∀(c:Value) (A:Around) (outer:List Env) (s:Shared) (H:Hp) (E:XK) (ts:List T) (H3:gb) (Q:v6) (i:YK3),tR k (A.deeper (envOfC a (aB st) s.heap.objs.size f c))->sp ts H3 Q i ->
   jB (lY (CX1 P w) P w K j base N a (aB st) f c A outer s H E) (fun _=>YX i) ->
   ∃t,ju (lY (CX1 P w) P w K j base N a (aB st) f c A outer s H E) (cj st) t/\t { nx:=fun _ H'=>t6 Q .non H',rt:=t6 Q} (aQ N ts) H3):Gi P w K j base (k+1) f fd ps sp:=by
 obtain⟨oc,od,kV,M,pm,an,c,ct,G,rfl,V,l⟩:=F.ex;refine Mr V l S (fun vs H Q E ⟨ts,H3,D,i,r,p,q,k,u⟩=>by rw[<- r.length];exact m _ _ _ _ q) fun A outer s H vs Q E J ⟨ts,H3,D,i,r,p,q,k,u⟩=>?_;obtain⟨t,L,O⟩:=d c A outer s H E ts H3 D i J q (by
  rintro g Z H' s' U C B y ⟨C',fs,Z3,h,R,ss,b,W,n,e,q⟩
  cases R
  exact Gd g Z H' s' U C B y (u C B fs H' n (Inv.tupLe y.inv) (b.sub e) (W.sub e) q))
 exact⟨_,L,aQ N ts,H3,_,o5 r,p,O,fun Z' H' X h o Y b ⟨n,e,q⟩=>k _ _ _ _ o (b.sub e) .ofNon q,fun v H' t h o b I ⟨n,e,q⟩=>k _ _ _ _ o (b.sub e) I q,fun _ _ _ _ _ _ _ z=>z,fun _ _ _ _ _ _ _ z=>z⟩
def Gk (K:Frag) (R:Addr) (th:TS3) (D:adX):St3->YK3:=fun Z C _ H=>mroIn K C (.ref R)=some true/\th D Z H
def Gm (K:Frag) (R:Addr) (tb:(St3->YK3)->TS3) (th:TS3):TS3:=fun D Z H=>tb (Gk K R th D) D Z H
def KD (U:X.stack=X.env::X.outer) (V:X.env.frame=some X.env.locals) (a:aeT X.K R) (Q:Gl X x) (hm:X.mg x=some (.ref R))
  (k:∀(p:Value->Shared->Prop) (r:List (Addr × Obj)) (q:Hp) (i:St3->YK3),jB (X.atTry p r q) i->ju (X.atTry p r q) body (tb i)) (e:∀A,ju (X.inH A) (b₀::suite) th) (t:(x==("__debug__":Str))=false:=by decide) :
  PS3 X (.Try body [.ExceptHandler (some (.Name x np)) none (b₀::suite) hpos] [] [] pos) (Gm X.K R tb th):=by
 refine PS.imp (Kz (R:=R) (th:=Jp X.K th) (tb:=fun L D Z H=>∃i:St3->YK3,(∀Z g j H,WP X.K i Z g j H->L Z g j H)/\Jp X.K (tb i) D Z H) U V a Q hm (fun p r q L hM=>?_) e t) ?_
 ·rintro d s Z H D I ⟨i,w,h⟩;exact k p r q i (fun d Z H s A C dx W Y=>hM d Z H s A C dx W (w _ _ _ _ Y)) d s Z H D I h
 rintro D Z H ⟨Z3,H3,u,S,T,h,O,M,G,J⟩;refine⟨Gk X.K R th u,?_,Z3,H3,u,S,T,h,O,M,G,J⟩;rintro Z' g j H' ⟨C,fs,E,v,rfl,F,y,_,m,hh⟩;refine⟨C,rfl,m,fun B=>?_⟩;have f:tE X.K H H':=fun a xs z=>B a xs z;exact⟨E,v,u,F,y,hh,fun P N o n l a b c=>O _ _ _ _ (f.trans l) a b c,M.at f,fun P N o n l a b c=>G _ _ _ _ (f.trans l) a b c,fun P N o n l a b c=>J _ _ _ _ (f.trans l) a b c⟩
end L3
namespace L2
def sX1 (K:Frag) (h i:TE) (f:Str):TS:=fun D Z H=>i Z H fun y g=>h Z g fun x b=>∃e C d c,x=.ref e/\b e=some (exO e C none c)/\adg K C d/\findIn K (.ref C) f=some none /\
 ∀a,b a=none->a≠e->D.nx Z (upd (upd b a (dxO a [(f,y)])) e (exO e C (some a) c))
def sX2 (K:Frag) (d g:TE) (f:Str):TS:=fun D Z H=>g Z H fun y c=>d Z c fun x b=>∃e C i h a fs,x=.ref e/\b e=some (exO e C (some a) h)/\b a=some (dxO a fs)/\fs.length<1000/\adg K C i/\findIn K (.ref C) f=some none /\
 D.nx Z (upd b a (dxO a (dW f y fs)))
def WQ (z:PE X o ta) (d:PE X value tv) (g:swapsWith value (some (.Attribute o f pos')) pos.line X.env=pure false):PS X (.Assign [.Attribute o f pos'] value pos) (sX1 X.K ta tv f):=by
 intro a s Z H D I h;refine abn (Fl (d a s Z H _ I h) fun u p ⟨y,m,A,v,q⟩=>Fl (z a p Z m _ A q) fun B G ⟨x,E,j,w,e,C,J,L,c,k,F,n,i⟩=>?_) g;subst c;obtain rfl:B=Value.ref e:=w;exact WK F j k n v fun t M l r b=>⟨Z,_,b,i t l r⟩
def WR (w:PE X o ta) (i:PE X value tv) (j:swapsWith value (some (.Attribute o f pos')) pos.line X.env=pure false):PS X (.Assign [.Attribute o f pos'] value pos) (sX2 X.K ta tv f):=by
 intro a s Z H D I h;refine abn (Fl (i a s Z H _ I h) fun u r ⟨y,p,z,t,q⟩=>Fl (w a r Z p _ z q) fun A E ⟨x,B,l,v,e,C,G,J,L,fs,g,m,d,c,F,n,k⟩=>?_) j;subst g;obtain rfl:A=Value.ref e:=v;exact WL F l m d c n t fun M b=>⟨Z,_,b,k⟩
def wU (K:Frag) (ns:List Str):Sp:=fun vs H Q _=>∃e ys C b,vs=.ref e::ys/\ys.length=ns.length/\H e=some (exO e C none true)/\adg K C b/\(∀n∈ns,findIn K (.ref C) n=some none) /\
 ∀a,H a=none->a≠e->Q .non (upd (upd H a (dxO a (ns.zip ys))) e (exO e C (some a) true))
def Gn (h:a≠b):upd (upd H a o) b u=upd (upd H b u) a o:=by
 funext c;unfold upd;by_cases d:c=a
 ·by_cases e:c=b
  ·exact absurd (d.symm.trans e) h
  simp [d,h]
 simp [d]
end L2
namespace L3
open L2
def uv {K:Frag}:∀{ns:List Str}{ts:List T}{vs:List V},gV K H ts vs->ada K H (ns.zip ts) (ns.zip vs)
 |[],_,_,_=>.nil
 |_::_,[],_,r=>by rw[r.inv0];exact .nil
 |n::ns,t::ts,_,r=>by
  obtain⟨v,c,rfl,a,b⟩:=r.inv
  exact .cons ⟨rfl,a⟩ (uv b)
section
variable {X:Cx}{k:Nat}{np cpos pos:Pos}
def qQ (C:Addr) (ns:List Str) (E:St3->YK3) (t:TA3):TS3:=fun _ Z H=>t Z H fun vs a=>vs.length=ns.length/\E Z C (ns.zip vs) a
def Gp (hc:X.calm=true) (Fn:ExcBaseFacts Bn newId inN bmN) (N:bmB.contains (.type Bn)=true) (U:ExcBaseFacts B nid initId bmB) (M:XMk X.K C f bmB newId) (S:adg X.K C cd) (J:∀n∈ns,findIn X.K (.ref C) n=some none) (hn8:ns.length<=100) (I:ns≠[])
  (F:acJ X.prog X.w X.K X.mg X.base CX0 k f fd ps (wU X.K ns)) (W:tR (k+1) X.A) (hb:Binds X.K fd ps []) (T:Gl X x) (hm:X.mg x=some (.ref C)) (hM:jB X E) (ha:PA3 X (e::es) t)
  (s:(x==("__debug__":Str))=false:=by decide) (he:starEach (e::es) X.env=(false,eval e X.env)::starEach es X.env:=by rfl) (L:(backTo cpos (starEach es X.env)).any (·.1)=false:=by rfl) :
  PS3 X (.Raise (some (.Call (.Name x np) (e::es) [] cpos)) none pos) (qQ C ns E t):=by
 refine PS.imp (Gg hc Fn N U M F W hb T hm hM ha s he L) ?_;rintro D Z H ⟨R,H3,D3,O,V,h,_⟩;refine⟨R,H3,_,O,V,h,fun vs H' ts y le p r ⟨hl,q⟩=>?_⟩;have P:=r.length;refine⟨by have:sizeLine=16777216:=rfl;omega,fun a G Q hQ=>⟨a,vs,C,cd,rfl,by omega,aY,S,J,fun c m g=>hQ _ c aY ?_⟩⟩;have d:H' c=none:=by rw[aM g] at m;exact m
 have j:∀b,b≠a->b≠c->rem (upd (upd (upd H' a (exO a C none true)) c (dxO c (ns.zip vs))) a (exO a C (some c) true)) a b=H' b:=fun b v Y=>by rw[ig v,aM v,aM Y,aM v]
 have l:∀b u,H' b=some u->b≠a/\b≠c:=fun b u z=>⟨fun w=>(by subst w;rw[G] at z;cases z),fun w=>(by subst w;rw[d] at z;cases z)⟩;have i:tE X.K H' (rem (upd (upd (upd H' a (exO a C none true)) c (dxO c (ns.zip vs))) a (exO a C (some c) true)) a):=fun b xs z=>by
  rcases z with (z | ⟨o,z⟩) | z
  ·exact .inl (.inl ((j b (l b _ z).1 (l b _ z).2).trans z))
  ·exact .inl (.inr ⟨o,(j b (l b _ z).1 (l b _ z).2).trans z⟩)
  exact .inr z
 refine⟨C,ns.zip ts,R,y,rfl,O.mono (le.trans i),fun b o z=>(p b o z).stay i fun u w=>(j b (l b _ w).1 (l b _ w).2).trans w,⟨fun z=>I (aau ?_),p.fresh d,ns.zip vs,?_,(uv r).mono i⟩,q⟩
 ·have:=Zk List.length z;rw[List.length_zip,ZQ] at this;omega
 rw[ig g,aM g,aY]
def mU (C:Addr) (E:St3->YK3):TS3:=fun _ Z H=>E Z C [] H
def Aw (e:X.calm=true) (g:ExcBaseFacts Bn newId inN bmN) (b:bmB.contains (.type Bn)=true) (i:ExcBaseFacts B nid initId bmB) (M:af4 X.K C bmB newId) (c:Gl X x) (k:X.mg x=some (.ref C)) (l:jB X E) (a:(x==("__debug__":Str))=false:=by decide) :
  PS3 X (.Raise (some (.Call (.Name x np) [] [] cpos)) none pos) (mU C E):=by
 refine PS.imp (Av e g b i M c k l a) ?_;rintro D Z H ⟨f,H3,m,d,j,h,_⟩;exact⟨C,[],f,H3,rfl,d,j,rfl,h⟩
end
end L3
namespace L2
def Gq:List Value->Bool
 |.ref _::r=>Gq r
 |l=>l==bmV
def pJ (a:Value):∀(l:List Value),Gq l=true->refuseLoop a "__setattr__" l=pure ()
 |[],h=>by cases (aaf.mp (show (([]:List Value)==bmV)=true from h))
 |v::r,h=>by
  by_cases q:∃c,v=.ref c
  ·
   obtain⟨c,rfl⟩:=q
   rw[refuseLoop_ref]
   exact pJ a r h
  ·
   have e:v::r=bmV:=by
    cases v with
    |ref c=>exact absurd ⟨c,rfl⟩ q
    |_=>exact aaf.mp h
   rw[e]
   exact PySem.F.store_ValueError.passes a
def YZ (K:Frag) (C:Addr):Bool:=(clsIn K C).any fun a=>a.hasDict&&Gq a.mro
def KH {K:Frag} (h:YZ K C=true) (e:findIn K (.ref C) "__setattr__"=some (some (.builtin "object.__setattr__"))) (c:mroIn K C (.type "object")=some true):∃b,adg K C b:=by
 obtain⟨b,d,q⟩:=any_some h;rw[Zq] at q;exact⟨b,d,e,fun a=>pJ a _ q.2,c,q.1⟩
end L2
namespace L3
open L2
structure aer (P:Program) (w:World) (K:Frag) (mg:Str->Option Value) (base:Heap) (k:Nat) (x:Str) (st:Stmt) (ps:List Str) (sp:qO):Prop where
 ex:∃(f:Addr) (fd:FuncData),G3 K mg x st ps f fd/\Gi P w K mg base k f fd ps sp
def Gr {st:Stmt}{p a:Pos} (D:aer X.prog X.w X.K X.mg X.base k x st ps sp) (o:jB X E) (i:tR k X.A) (j:Gl X x) (n:PA3 X (e::c) t) (d:(x==("__debug__":Str))=false:=by decide) (l:starEach (e::c) X.env=(false,eval e X.env)::starEach c X.env:=by rfl) (h:(backTo a (starEach c X.env)).any (·.1)=false:=by rfl):
  xr X (.Call (.Name x p) (e::c) [] a) (qP sp E t):=by
 obtain⟨f,q,g,F⟩:=D.ex;exact Gj F i j g.m g.fn.kp g.b o n d l h
structure af1 (P:Program) (w:World) (K:Frag) (mg:Str->Option Value) (base:Heap) (x:Str) (C:Addr) (ns:List Str):Prop where
 m:mg x=some (.ref C)
 ex:∃f fd ps cd,XMk K C f bmV "ValueError.__new__"/\adg K C cd/\acJ P w K mg base CX0 1 f fd ps (wU K ns)/\Binds K fd ps []
 nf:∀n∈ns,findIn K (.ref C) n=some none
 nl:ns.length<=100
 n0:ns≠[]
structure afT (K:Frag) (mg:Str->Option Value) (x:Str) (C:Addr):Prop where
 m:mg x=some (.ref C)
 k:af4 K C bmV "ValueError.__new__"
def Ax (D:afT X.K X.mg x C) (g:jB X E) (f:X.calm=true) (d:Gl X x) (b:(x==("__debug__":Str))=false:=by decide):
  PS3 X (.Raise (some (.Call (.Name x e) [] [] a)) none c) (mU C E):=Aw f aa9 (by decide) aa9 D.k d D.m g b
def Ay {k a g:Pos} (D:af1 X.prog X.w X.K X.mg X.base x C ns) (j:jB X E) (p:tR 2 X.A) (n:X.calm=true) (h:Gl X x) (o:PA3 X (e::b) t) (c:(x==("__debug__":Str))=false:=by decide) (i:starEach (e::b) X.env=(false,eval e X.env)::starEach b X.env:=by rfl) (d:(backTo a (starEach b X.env)).any (·.1)=false:=by rfl):
  PS3 X (.Raise (some (.Call (.Name x k) (e::b) [] a)) none g) (qQ C ns E t):=by
 obtain⟨f,r,ps,q,M,S,F,l⟩:=D.ex;exact Gp n aa9 (by decide) aa9 M S D.nf D.nl D.n0 F p l h D.m j o c i d
structure agN (K:Frag) (mg:Str->Option Value) (x:Str) (R:Addr):Prop where
 m:mg x=some (.ref R)
 a:aeT K R
def Gs (D:agN X.K X.mg x R) (l:X.stack=X.env::X.outer) (n:X.env.frame=some X.env.locals) (j:Gl X x) (f:∀(xe:Value->Shared->Prop) (pn:List (Addr × Obj)) (H0:Hp) (E3:St3->YK3),jB (X.atTry xe pn H0) E3->ju (X.atTry xe pn H0) e (tb E3)) (c:∀ea,ju (X.inH ea) (d::b) th) (h:(x==("__debug__":Str))=false:=by decide):
  PS3 X (.Try e [.ExceptHandler (some (.Name x k)) none (d::b) g] [] [] i) (Gm X.K R tb th):=KD l n D.a j D.m f c h
def Az (b:Bool):Value->Bool
 |.bool x=>x==b
 |_=>false
def ixB (o:Option O3) (z:Bool) (H:gb) (Q:v6):Prop:=match o with
 |some (.lst xs)=>oq (cg xs) fun a=>∃j:Nat,a[j]?=some z/\(∀m,m<j->a[m]?≠some z)/\Q (.int j) H
 |_=>False
def Gu:T->List T->gb->v6->Prop:=fun x ts H Q=>∃a z,x=.ref a/\ts=[.bl z]/\ixB (H a) z H Q
def RW (a:Addr) (z:Bool) (H:gb) (Q:v6):Gu (.ref a) [.bl z] H Q=ixB (H a) z H Q:=propext ⟨fun ⟨_,_,c,b,h⟩=>by cases c;cases b;exact h,fun h=>⟨_,_,rfl,rfl,h⟩⟩
def RX (xs:List T) (z:Bool) (H:gb) (Q:v6):ixB (some (.lst xs)) z H Q=oq (cg xs) fun a=>∃j:Nat,a[j]?=some z/\(∀m,m<j->a[m]?≠some z)/\Q (.int j) H:=rfl
def KJ:zW X "list.index" Gu:=by
 intro D s Z H x xs v us Q I d i P;obtain⟨Y,ts,H3,U,S,J,E,⟨a,z,rfl,rfl,h⟩,k⟩:=P;obtain⟨w,rfl,A⟩:=J.one';obtain⟨u,rfl,G⟩:=vals1 i;rw[A.bl] at G;cases G;rw[S.ref] at d;cases d;have h':(match H3 a with
  |some (.lst xs)=>oq (cg xs) fun b=>∃j:Nat,b[j]?=some z/\(∀m,m<j->b[m]?≠some z)/\U (.int j) H3
  |_=>False):=h
 split at h'
 ·rename_i ws M;cases l:cg ws with
  |none=>rw[l] at h';exact h'.elim
  |some b =>
  rw[l,fM] at h';obtain⟨j,B,r,q⟩:=h';obtain⟨ys,N,R⟩:=E a _ M;obtain⟨W,K,n,o,V,C⟩:=I.lstM N;have L:=fG l R o;subst L;have e:j<b.length:=(ZC.mp B).1;have T:(b.map Value.bool).length=b.length:=d_ _;have hsz:sizeLine=16777216:=rfl;have f:∀(m:Nat) (g:m<b.length),Az z (Value.bool b[m])=decide (b[m]?=some z):=fun m g=>by rw[e_ g];show (b[m]==z)=_;rw[Zn,aaf,q_,ab1]
  refine ab3 F.slot_list_index ⟨_,C,rfl⟩ F.entry_list_index (F.args_list_index_2 _ _) (SeqAt.list_indexAt a (b.map Value.bool).toArray n none #[] (.bool z) (Az z) j (by simpa using e) (by omega) ?_ ?_) ⟨C,fun y O=>?_,?_⟩
  ·have:=f j e;rw[N_ B] at this;simpa using this
  ·intro m g t;have p:m<b.length:=by simpa using g
   have:=f m p;rw[E_ (r m t)] at this;simpa using this
  ·obtain⟨c,_,rfl⟩:=u_.mp (show y∈b.map Value.bool by simpa using O);exact SeqAt.EqAt.bool_bool c z
  exact⟨.int j,H,I.tok _,⟨_,rfl⟩,k _ _ _ _ .refl E .ofInt q⟩
 exact h'.elim
def RZ:R3:=fun x y H Q=>∃(a:Addr) (b:Bool) (c:List Bool),x=.bl b/\y=.ref a/\H a=some (.lst (c.map T.bl))/\Q (.bl (!decide (b∈c))) H
def KN:dG X (compareOp .NotIn) RZ:=by
 intro j s Z H x y v u Q I m i h;obtain⟨D,B,H3,C,t,o,l,⟨a,b,d,rfl,rfl,e,q⟩,k⟩:=h;rw[t.bl] at m;cases m;rw[o.ref] at i;cases i;obtain⟨ys,p,r⟩:=l.sqL (.inl e);obtain⟨n,f,A,_⟩:=I.list p;have z:=fG (gF d) r f;subst z;refine SeqAt.notIn_listAt (Az b) A.isList (fun y w=>?_) ⟨.bl _,H,I,rfl,?_⟩
 ·obtain⟨c,_,rfl⟩:=u_.mp (show y∈d.map Value.bool by simpa using w);exact SeqAt.EqAt.bool_bool c b
 have:(d.map Value.bool).toArray.any (Az b)=decide (b∈d):=by rw[show (d.map Value.bool).toArray.any (Az b)=(d.map Value.bool).any (Az b) by simp,List.any_map,Zn,aao,q_];exact⟨fun ⟨x,g,e⟩=>by rw[<- aaf.mp (show (x==b)=true from e)];exact g,fun g=>⟨b,g,(beq_self_eq_true b:(b==b)=true)⟩⟩
 rw[this];exact k _ _ _ _ .refl l .ofBl q
def wV:typeLookup (.type "zip") "keys"=pure none:=by rw[aax,ZR];kernel_rfl
def jT:typeLookup (.type "zip") "__getattr__"=pure none:=by rw[aax,ZR];kernel_rfl
def qR:entryFor table "zip.__getattribute__"=some Builtin.«object.__getattribute__» :=
 entryFor_alias (id':="object.__getattribute__") (by kernel_rfl) (by decide +kernel) (by decide +kernel) (by kernel_rfl)
def qT (z c j:Addr) (e:Value) (u:Tok) :
  Meets (Builtin.«object.__getattribute__» ⟨[.ref z,.str "keys" u],[]⟩) (fun A R s=>IsZip s.heap z c j e/\raisesAttr (.ref z) "keys" A R s) :=
 Meets.of_wp fun prog w A R s a=>by
  obtain⟨i,g,d,tk,h⟩:=s;obtain⟨f,a⟩:=a;have k:(⟨i,g,d,tk,h⟩:Shared).TypeIs (.ref z) "zip":=⟨_,f,rfl⟩;have b:=wV;unfold Builtin.«object.__getattribute__»;repeat (any_goals (first | assumption | wp_step))
  all_goals exact wpAny_raiseAttrError a.1 a.2 (attrMsg_fits (by decide +kernel) (by decide))
def wW (j:IsZip s.heap z c k f) (l:A.handled=none) (h:∀h' tk e,Heap.NewExcOf s.heap h' e "AttributeError"->Q none { s with heap:=h',toks:=tk}):wpAny (model prog w) A (getAttr? (.ref z) "keys") Q E s:=by
 obtain⟨m,g,d,tk,n⟩:=s;have i:∀a,(⟨m,g,d,a,n⟩:Shared).TypeIs (.ref z) "zip":=fun _=>⟨_,j,rfl⟩;have u:=sub_AttributeError;have r:=F.slot_zip_getattribute.lookup;have p:=F.slot_zip_getattribute.bind (.ref z);have q:=jT;unfold getAttr? getAttrBy? getAttrBy;repeat (any_goals (first | assumption | exact i _ | ((with_reducible show wpAny _ _ (call (Value.builtin "zip.__getattribute__") _ _) _ _ _);refine ab3 F.slot_zip_getattribute (i _) qR (F.args_zip_getattribute_2 _ _) (qT z c k f _) ⟨j,l,fun h' a e b=>?_⟩) | wp_step))
 obtain⟨t',t,o⟩:=b.there;show wpAny _ _ (getattributeRaised _ _ _ _ _ _ _) _ _ _;unfold getattributeRaised;repeat (any_goals (first | assumption | wp_step))
 all_goals exact h _ _ _ b.of
abbrev jn (h:Heap) (z a c t:Addr) (b:Bool):Prop :=
 h.get? z=some { cls:=.type "zip",dict:=none,data:=.fields #[rawInt t,.bool b,.bool false,.ref a,.ref c],slots:=#[]}
def uw (b:s.heap.get? a=some o) (h:Q (some o) s):wpAny M A (loadIfAlive a) Q E s:=fun c p _=>by
 show PySem.Sem.wp M c (.loadIfAlive a .pure) _ _ p s;rw[Sem.wp_loadIfAlive,b];exact h
section
variable {prog:Program}{w:World}{A:Around}{E:Value->Shared->Prop}{s:Shared}{z ti to i1 i2 t:Addr}{f1 f2:List Addr}{n1 n2 k:Nat}{P1 P2:Nat->Value->Prop}{S1 S2:Nat->Heap->Prop}
def ux (a:jn s.heap z ti to t b) (e:s.heap.get? t=some o) (h:∀h',jn h' z ti to t true->Heap.SameBut z s.heap h'->Q false { s with heap:=h'}):wpAny (model prog w) A (Builtin.SmallTypes.ownedTupleIsFree (.ref z)) Q E s:=by
 unfold Builtin.SmallTypes.ownedTupleIsFree;refine a_ (T_ a rfl (x:=rawInt t) rfl ?_);show wpAny _ _ (loadIfAlive (Int.toNat (t:Int)) >>= _) _ _ _;rw[ZV];refine a_ (uw e ?_);show wpAny _ _ (field (.ref z) 1 >>= _) _ _ _;refine a_ (T_ a rfl (x:=.bool b) rfl ?_);cases b with
 |true =>
  show wpAny _ _ (pure false) _ _ _
  exact h_ (h _ a ⟨rfl,fun _ _=>rfl⟩)
 |false =>
  show wpAny _ _ (setField (.ref z) 1 (.bool true) >>= _) _ _ _
  exact a_ (aaI a (by simp) fun h' c d=>h_ (h h' c d))
def KQ {Q:Value->Shared->Prop} (F:Draws prog w A i1 f1 n1 P1 S1) (u:Draws prog w A i2 f2 n2 P2 S2) (D:ZAp z ti to i1 i2 f1 f2) (I:jn s.heap z ti to t P) (L:s.heap.get? t=some o) (W:IsPair s.heap ti (.ref i1) (.ref i2)) (O:S1 k s.heap) (T:S2 k s.heap) (V:k<n1) (N:k<n2) (R:∀x y h' tk,P1 k x->P2 k y->jn h' z ti to t true->S1 (k+1) h'->S2 (k+1) h'->IsPair h' s.heap.objs.size x y ->
   (∀c o,c∉[z,i1,i2]->s.heap.get? c=some o->h'.get? c=some o)->Q (.ref s.heap.objs.size) { s with heap:=h',toks:=tk}):
  wpAny (model prog w) A (Builtin.«zip.__next__» ⟨[.ref z],[]⟩) (fun G s'=>∃v,G=.done (.ret v)/\Q v s') E s:=by
 show wpAny _ _ (field (.ref z) 2 >>= _) _ _ _;refine a_ (T_ I rfl (x:=.bool false) rfl ?_);show wpAny _ _ (field (.ref z) 3 >>= _) _ _ _;refine a_ (T_ I rfl (x:=.ref ti) rfl ?_);refine a_ (aak W rfl ?_);show wpAny _ _ (Builtin.SmallTypes.ownedTupleIsFree (.ref z) >>= _) _ _ _;refine a_ (ux I L fun X H d=>?_);simp only[C_,Zv];rw[<- Array.forIn_toList];simp only[abG,abY];have m:∀{i:Nat} {h h':Heap} {c:Addr},S1 i h->Heap.SameBut c h h'->c∉f1->S1 i h':=fun st J B=>F.frame _ _ _ st fun b g o e=>(J.2 b fun q=>B (q▸g)).trans e;have l:∀{i:Nat} {h h':Heap} {c:Addr},S2 i h->Heap.SameBut c h h'->c∉f2->S2 i h':=fun st J B=>u.frame _ _ _ st fun b g o e=>(J.2 b fun q=>B (q▸g)).trans e;refine a_ (a_ (a_ (ZP ?_)));show wpAny _ _ (Builtin.SmallTypes.nextOf (.ref i1) >>= _) _ _ _;refine a_ (F.item k _ _ _ V (m O d D.n1.1) fun x g tb M r f=>h_ (h_ ?_));refine a_ (a_ (ZP ?_));show wpAny _ _ (Builtin.SmallTypes.nextOf (.ref i2) >>= _) _ _ _;refine a_ (u.item k _ _ _ N (l (l T d D.n2.1) f D.n2.2.2.2) fun y j U S C a=>h_ (h_ (h_ ?_)));refine a_ (wpAny_newTuple (hsz:=(by decide:2<=sizeLine)) (h_ ⟨_,rfl,?_⟩));have hsz:j.objs.size=s.heap.objs.size:=by rw[a.1,f.1,d.1]
 show Q (.ref j.objs.size) _;rw[hsz];have n:∀c o,j.get? c=some o->(j.push { cls:=.type "tuple",data:=.seq #[x,y]}).get? c=some o:=fun c o e=>b_ _ e;have K:jn j z ti to t true:=(a.2 z (Ne.symm D.i2z)).trans ((f.2 z (Ne.symm D.i1z)).trans H);refine R x y (j.push { cls:=.type "tuple",data:=.seq #[x,y]}) U M S (n _ _ K) (F.frame _ _ _ (m r a D.n1.2.2.2) fun b g o e=>n _ _ e) (u.frame _ _ _ C fun b g o e=>n _ _ e) (by rw[<- hsz];exact j_ _ rfl) fun c o p e=>?_;simp only[n_,L_,aaa,not_or] at p;exact n _ _ ((a.2 c p.2.2).trans ((f.2 c p.2.1).trans ((d.2 c p.1).trans e)))
def Sd (i:Draws prog w A i1 f1 n1 P1 S1) (D:ZAp z ti to i1 i2 f1 f2) (h:jn s.heap z ti to t j) (m:s.heap.get? t=some o) (n:IsPair s.heap ti (.ref i1) (.ref i2)) (r:S1 n1 s.heap) (l:∀h' e tk,(∀c o,c∉[z,to,i1,i2]->s.heap.get? c=some o->h'.get? c=some o)->(∃o,h'.get? e=some o/\o.cls=.type "StopIteration")->E (.ref e) { s with heap:=h',toks:=tk}):
  wpAny (model prog w) A (Builtin.«zip.__next__» ⟨[.ref z],[]⟩) Q E s:=by
 show wpAny _ _ (field (.ref z) 2 >>= _) _ _ _;refine a_ (T_ h rfl (x:=.bool false) rfl ?_);show wpAny _ _ (field (.ref z) 3 >>= _) _ _ _;refine a_ (T_ h rfl (x:=.ref ti) rfl ?_);refine a_ (aak n rfl ?_);show wpAny _ _ (Builtin.SmallTypes.ownedTupleIsFree (.ref z) >>= _) _ _ _;refine a_ (ux h m fun u p a=>?_);simp only[C_,Zv];rw[<- Array.forIn_toList];simp only[abG,abY];refine a_ (a_ (a_ (ZP ?_)));show wpAny _ _ (Builtin.SmallTypes.nextOf (.ref i1) >>= _) _ _ _;refine a_ (i.done _ _ _ (i.frame _ _ _ r fun b f o e=>(a.2 b fun q=>D.n1.1 (q▸f)).trans e) fun f e g k=>?_);refine l f e _ (fun c o d x=>?_) k;simp only[n_,L_,aaa,not_or] at d;exact g c _ d.2.2.1 ((a.2 c d.1).trans x)
structure ZSt (z ti to i1 i2 l1 l2:Addr) (xs ys:Array Value) (i:Nat) (h:Heap):Prop where
 zz:(i=0/\IsZip h z ti to .none)\/∃t b o,jn h z ti to t b/\t∉[z,to,i1,i2]/\h.get? t=some o
 ii:IsPair h ti (.ref i1) (.ref i2)
 oo:∃a b,IsPair h to a b
 a1:h.IsListIter i1 l1 i/\h.IsList l1 xs
 a2:h.IsListIter i2 l2 i/\h.IsList l2 ys
def ZSt.frame (S:ZSt z ti to i1 i2 d f xs ys i h) (k:∀c o,h.get? c=some o->c∈[z,ti,to,i1,i2,d,f]->h'.get? c=some o) (u:∀c o,h.get? c=some o->∃j,h'.get? c=some j):ZSt z ti to i1 i2 d f xs ys i h':=by
 obtain⟨q,p,⟨a,b,s⟩,n,m⟩:=S;refine⟨?_,k ti _ p (by simp),⟨a,b,k to _ s (by simp)⟩,⟨n.1.at fun o e=>k i1 o e (by simp),n.2.at fun o e=>k d o e (by simp)⟩,⟨m.1.at fun o e=>k i2 o e (by simp),m.2.at fun o e=>k f o e (by simp)⟩⟩;rcases q with ⟨e,l⟩ | ⟨t,b,o,l,nt,r⟩
 ·exact .inl ⟨e,k z _ l (by simp)⟩
 obtain⟨j,g⟩:=u t o r;exact .inr ⟨t,b,j,k z _ l (by simp),nt,g⟩
def KR (W:A.handled=none) (D:ZAp z ti to i1 i2 [i1,h] [i2,j]) (Y:h≠i1) (n2:j≠i2) (nl1:h∉[z,to,i1,i2]) (Z:j∉[z,to,i1,i2]) (l:ti∉[z,to,i1,i2]) (S:ZSt z ti to i1 i2 h j xs ys i s.heap) (v:xs[i]?=some x) (u:ys[i]?=some y) (V:∀h' tk,ZSt z ti to i1 i2 h j xs ys (i+1) h'->IsPair h' s.heap.objs.size x y->(∀c o,c∉[z,to,i1,i2]->s.heap.get? c=some o->h'.get? c=some o)->Q (some (.ref s.heap.objs.size)) { s with heap:=h',toks:=tk}):
  wpAny (model prog w) A (pyNext (.ref z)) Q E s:=by
 obtain⟨zz,p,⟨a,b,N⟩,M,J⟩:=S;have U:=Draws.list (prog:=prog) (w:=w) (A:=A.in1) W i1 h Y xs;have T:=Draws.list (prog:=prog) (w:=w) (A:=A.in1) W i2 j n2 ys;have r:∀{c o},s.heap.get? c=some o->s.heap.objs.size≠c:=fun e=>Ze (m_ e);have m1:s.heap.objs.size≠i1:=by obtain⟨o,e,_⟩:=M.1;exact r e
 have m2:s.heap.objs.size≠i2:=by obtain⟨o,e,_⟩:=J.1;exact r e
 rcases zz with ⟨e,n⟩ | ⟨t,bb,o,n,nt,R⟩
 ·have m3:=r n;have X:=r N;refine yC U T D n p N M J (Zt.mp v).1 (Zt.mp u).1 fun H O h' tk C K d P L B f hsz k=>?_;have I:H=x:=D_ (C.symm.trans v);have G:O=y:=D_ (K.symm.trans u);subst I G;exact V h' tk ⟨.inr ⟨_,_,_,d,by simp [m1,m2,m3,X],f⟩,k _ _ l p,⟨_,_,P⟩,L,B⟩ f k
 have f:s.TypeIs (.ref z) "zip":=⟨_,n,rfl⟩;unfold pyNext;refine a_ (abl (Zz (name:=Str.ofString "__next__") f aaY
  (ZG aaY f F.entry_zip_next (KQ U T D n R p M J (Zt.mp v).1 (Zt.mp u).1 fun H O h' tk C K d L B f k=>h_ ?_) (abZ _))))
 have I:H=x:=D_ (C.symm.trans v);have G:O=y:=D_ (K.symm.trans u);subst I G;have g:∀c o,c∉[z,to,i1,i2]->s.heap.get? c=some o->h'.get? c=some o:=fun c o nc e=>k c o (fun m=>nc (by simp only[n_,L_,aaa] at m ⊢;rcases m with q | q | q <;> simp [q])) e;exact V h' tk ⟨.inr ⟨_,_,_,d,nt,g _ _ nt R⟩,g _ _ l p,⟨_,_,k to _ (by simp only[n_,L_,aaa,not_or];exact⟨D.ne.2.1,Ne.symm D.i1to,Ne.symm D.i2to⟩) N⟩,L,B⟩ f g
def Sg (u:A.handled=none) (D:ZAp z ti to i1 i2 [i1,d] [i2,i]) (n:d≠i1) (B:0<xs.size) (S:ZSt z ti to i1 i2 d i xs ys xs.size s.heap) (k:∀h' tk,(∀c o,c∉[z,to,i1,i2]->s.heap.get? c=some o->h'.get? c=some o)->Q none { s with heap:=h',toks:=tk}):
  wpAny (model prog w) A (pyNext (.ref z)) Q E s:=by
 obtain⟨m,l,⟨a,b,y⟩,r,x⟩:=S;have j:=Draws.list (prog:=prog) (w:=w) (A:=A.in1) u i1 d n xs;rcases m with ⟨e,f⟩ | ⟨t,v,o,f,nt,g⟩
 ·omega
 have h:s.TypeIs (.ref z) "zip":=⟨_,f,rfl⟩;unfold pyNext;refine a_ (abl (Zz (name:=Str.ofString "__next__") h aaY
  (ZG aaY h F.entry_zip_next (Sd j D f g l r fun h' e tk q ⟨o,g,p⟩=>?_) (abZ _))))
 refine a_ (abv (T:="StopIteration") (b:=true) ⟨o,g,p⟩ isSubtype_stop ?_);exact h_ (k _ _ q)
variable {K:Type}[DecidableEq K]{knd:KeyKind prog w K}
def Ba (W:A.handled=none) (D:ZAp z ti to i1 i2 [i1,g] [i2,n]) (S:g≠i1) (n2:n≠i2) (Q:g∉[z,to,i1,i2]) (C:n∉[z,to,i1,i2]) (H:ti∉[z,to,i1,i2]) (d:Addr) (X:d∉[z,ti,to,i1,i2,g,n]) (hn:0<xs.size) (a:xs.size=ys.size) (ps:List (K × Value)) (M:ps.length=xs.size) (h8:xs.size<=sizeLine) (hT:∀(j:Nat) (x y:Value),xs[j]?=some x->ys[j]?=some y->∃J,ps[j]?=some (J,y)/\knd.is J x=true):
  ∀(k i:Nat) (s:Shared),xs.size - i=k->i<=xs.size->ZSt z ti to i1 i2 g n xs ys i s.heap->s.heap.DictOf knd d (merged [] (ps.take i)) ->
   (∀h' tk,h'.DictOf knd d (merged [] ps)->(∀c o,c∉[d,z,to,i1,i2]->s.heap.get? c=some o->h'.get? c=some o)->R (.ok (.ret .none)) { s with heap:=h',toks:=tk}) ->
   codeAny (model prog w) A (.builtin "dict.update.loop" ⟨[.ref d,.ref z,rawInt i,.none],[]⟩) R s:=by
 have r:d∉[z,to,i1,i2]:=fun m=>X (by simp only[n_,L_,aaa] at m ⊢;rcases m with q | q | q | q <;> simp [q]);intro k;induction k with
 |zero =>
  intro i s Z hi st B b;have ei:i=xs.size:=by omega
  subst ei;refine aaX pC ?_;rw[abM iK _];show wpAny _ A.in1 (pyNext (.ref z) >>= _) _ _ s;refine a_ (Sg W D S hn st fun h' tk t=>?_);show wpAny _ A.in1 (do Builtin.Dict.addKeywords d [];ret Value.none) _ _ _;rw[<- M,List.take_length] at B;refine a_ (h_ (h_ (b h' tk ?_ fun c o p e=>t c o (fun m=>p (o_ _ m)) e)));obtain⟨o,v,ep,l,rest⟩:=B;exact⟨o,v,ep,t d _ r l,rest⟩
 |succ k ih =>
 intro i s Z hi st B b;have f:i<xs.size:=by omega
 have Y:xs[i]?=some xs[i]:=by simp [f]
 have U:ys[i]?=some (ys[i]'(a▸f)):=by simp [a▸f]
 obtain⟨J,hp,P⟩:=hT i _ _ Y U;refine aaX pC ?_;rw[abM iK _];show wpAny _ A.in1 (pyNext (.ref z) >>= _) _ _ s;refine a_ (KR W D S n2 Q C H st Y U fun F tk L u t=>?_);have E:F.DictOf knd d (merged [] (ps.take i)):=by obtain⟨o,v,ep,l,rest⟩:=B;exact⟨o,v,ep,t d _ r l,rest⟩
 refine a_ (ZP ?_);refine a_ (m:=tryCatch (Builtin.Dict.pairItems (.ref s.heap.objs.size)) _) (wpAny_tryCatch ?_);unfold Builtin.Dict.pairItems;refine a_ (aa3 (T:="tuple") ⟨_,u,rfl⟩ ?_);rw[if_pos (by decide)];refine a_ (aak u rfl (h_ ?_));have hm:(merged [] (ps.take i)).length<=sizeLine:=by
  have F:=merged_length_le ([]:List (K × Value)) (ps.take i);have V:(ps.take i).length<=xs.size:=by rw[aam];omega
  simp only[ZQ,Nat.zero_add] at F;omega
 show wpAny _ A.in1 (holding [xs[i],ys[i]'(a▸f)] (dictSet d xs[i] (ys[i]'(a▸f)))) _ _ _;refine ZP (wpAny_dictSet_pairs P E (fun h' h O=>?_) hm);refine h_ ⟨abR iK _,ih (i+1) _ (by omega) f (L.frame (fun c o e hc=>?_) fun c o e=>?_) (by rw[merged_take_succ _ _ _ _ hp];exact h) fun V G I N=>?_⟩
 ·exact (O.2 c (fun q:c=d=>X (q▸hc))).trans e
 ·by_cases q:c=d
  ·subst q;obtain⟨o,v,ep,l,rest⟩:=h;exact⟨o,l⟩
  exact⟨o,(O.2 c q).trans e⟩
 refine b V G I fun c o p e=>N c o p ((O.2 c (fun q:c=d=>p (q▸l_))).trans (t c o (fun m=>p (o_ _ m)) e))
end
section
variable {prog:Program}{w:World}{K:Type}[DecidableEq K]{knd:KeyKind prog w K}
def n6 (hh:A.handled=none) (D:ZAp z l f i g [i,r] [g,u]) (n1:r≠i) (n2:u≠g) (R:r∉[z,f,i,g]) (C:u∉[z,f,i,g]) (L:l∉[z,f,i,g]) (N:IsZip s.heap z l f .none) (S:ZSt z l f i g r u xs ys 0 s.heap) (hn:0<xs.size) (P:xs.size=ys.size) (O:ps.length=xs.size) (h8:xs.size<=sizeLine) (hT:∀(j:Nat) (x y:Value),xs[j]?=some x->ys[j]?=some y->∃kk,ps[j]?=some (kk,y)/\knd.is kk x=true) (h:∀(h':Heap) (tk:Nat),h'.DictOf knd s.heap.objs.size (merged [] ps)->(∀b o,b∉[z,f,i,g]->s.heap.get? b=some o->h'.get? b=some o)->Q (.ref s.heap.objs.size) { s with heap:=h',toks:=tk}):
  wpAny (model prog w) A (call (.type "dict") [.ref z]) Q E s:=by
 refine callType_codes (Q₁:=fun t k=>t=.ref s.heap.objs.size/\k={ s with heap:=s.heap.push { cls:=.type "dict",data:=.dict #[]}}) F.kt_called_dict (F.kt_typeCall_dict_1 _) F.entry_dict_init (kt_code_dict_new _ ⟨rfl,rfl⟩) ?_;rintro t k ⟨rfl,rfl⟩;have d:(s.heap.push { cls:=.type "dict",data:=.dict #[]}).DictOf knd s.heap.objs.size []:=Heap.DictOf.new s.heap;have n:IsZip (s.heap.push { cls:=.type "dict",data:=.dict #[]}) z l f .none:=b_ _ N;refine⟨d.typeIs,F.args_dict_init_2 _ _,?_⟩;unfold Builtin.«dict.__init__»;refine a_ ?_;unfold Builtin.Dict.selfAndRest;refine a_ (wpAny_notOrdered_dict d.typeIs ?_);show wpAny _ _ (pure (s.heap.objs.size,[Value.ref z])) _ _ _;refine h_ ?_;show wpAny _ _ (Builtin.Dict.updateFrom "dict.__init__" s.heap.objs.size (.ref z) [] .none) _ _ _;unfold Builtin.Dict.updateFrom;refine a_ (aa3 (T:="zip") ⟨_,n,rfl⟩ ?_);rw[if_pos (by decide)];have I:A.in1.in1.handled=none:=by simp [hh]
 refine a_ (wW n I fun v tk e J=>?_);show wpAny _ _ (do rule _;let it <- pyIter (.ref z);again (.builtin "dict.update.loop" ⟨[.ref s.heap.objs.size,it,rawInt 0,.none],[]⟩)) _ _ _;refine a_ (ab4 ?_);have H:IsZip v z l f .none:=J.keeps _ _ n;refine a_ (wpAny_pyIter_zip (s:={ s with heap:=v,toks:=tk}) H ?_);refine h_ ?_;have p:∀b o,s.heap.get? b=some o->v.get? b=some o:=fun b o e=>J.keeps _ _ (b_ _ e);have a:∀{c o},s.heap.get? c=some o->s.heap.objs.size≠c:=fun e=>Ze (m_ e);have nB:s.heap.objs.size∉[z,l,f,i,g,r,u]:=by obtain⟨_,U,⟨_,_,Z⟩,⟨⟨_,X,_⟩,⟨_,V,_⟩⟩,⟨⟨_,Y,_⟩,⟨_,W,_⟩⟩⟩:=S;have:=a N;have:=a U;have:=a Z;have:=a X;have:=a V;have:=a Y;have:=a W;simp only[n_,L_,aaa,not_or];exact⟨a N,a U,a Z,a X,a Y,a V,a W⟩
 refine⟨abR iK _,?_⟩;have B:A.in1.handled=none:=by simp [hh]
 refine Ba (knd:=knd) B D n1 n2 R C L s.heap.objs.size nB hn P ps O h8 hT (xs.size - 0) 0 { s with heap:=v,toks:=tk} (by omega) (ZS _) (S.frame (fun c o e _=>p c o e) fun c o e=>⟨o,p c o e⟩) ?_ ?_
 ·obtain⟨o,es,ep,ho,rest⟩:=d;exact⟨o,es,ep,J.keeps _ _ ho,rest⟩
 intro h' M G kp;refine⟨rfl,h h' M G fun b o nb e=>kp b o (fun m=>?_) (p b o e)⟩;rcases n_.mp m with q | q
 ·exact a e q.symm
 exact nb q
end
section
variable {p1 p2 pos pos':Pos}
def tDZ (X:Cx) (e:TA):TE:=fun Z H Q=>e Z H fun vs d=>∃(a b:Addr) (c:List Str) (ys:List V),vs=[.ref a,.ref b]/\SqL X.K d a (c.map V.str)/\SqL X.K d b ys/\c.length=ys.length/\0<c.length/\c.Nodup /\
 ∀l,d l=none->Q (.ref l) (upd d l (.dK ((c.map Sum.inr).zip ys)))
def Gv:∀{b:List Str}{ys:List V}{a:List Value},Vals ys a->KV (κ:=Key) ((b.map Sum.inr).zip ys) ((b.map Sum.inr).zip a)
 |[],_,_,_=>.nil
 |_::_,_,_,.nil=>.nil
 |k::b,_,_,.cons q qs=>.cons ⟨rfl,q⟩ (Gv qs)
def WT (hc:X.calm=true) (J:Gl X "dict") (K:X.mg "dict"=none) (O:bootBuiltins "dict"=some (.type "dict")) (L:Gl X "zip") (hmr:X.mg "zip"=none) (ha:PA X [ea,eb] ta) (hs:starEach [ea,eb] X.env=[(false,eval ea X.env),(false,eval eb X.env)]:=by rfl) (z:starEach [eb] X.env=[(false,eval eb X.env)]:=by rfl) (hpl:(backTo pos (starEach [] X.env)).any (·.1)=false:=by rfl):
  PE X (.Call (.Name "dict" p1) [.Call (.Name "zip" p2) [ea,eb] [] pos'] [] pos) (tDZ X ta):=by
 intro A s Z H Q I h;refine ZF (dB I J K O ?_ (by decide) (by decide));refine Zj ?_ rfl hpl;show wpAny _ _ (spliced ((false,eval (.Call (.Name "zip" p2) [ea,eb] [] pos') X.env)::backTo pos (starEach [] X.env))) _ _ s;refine aac ?_;refine Call_ (dB I L hmr vU (Zj (Fl (ha pos' A s Z H _ I h) fun us s1 ⟨vs,H1,v,r1,q1⟩=>?_) (by rw[hs,z]) (by rw[z];rfl)));obtain⟨a,b,f,ys,e,sa,sb,hl,h0,hnd,q⟩:=q1;subst e;cases r1 with
 |cons r rr =>
 cases rr with
 |cons r' rr =>
 cases rr;cases r;cases r';obtain⟨l,rv,p,hz1⟩:=v.list sa;obtain⟨d,E,n,hz2⟩:=v.list sb;have F:a<s1.heap.objs.size:=by obtain⟨o,e,_⟩:=p.isList;exact m_ e
 have G:b<s1.heap.objs.size:=by obtain⟨o,e,_⟩:=n.isList;exact m_ e
 have Y:=rv.length;have ln2:=E.length;rw[d_] at Y hz1;refine call_zip_2 p.isList n.isList fun h' hz hI hO h1 B hsz R=>?_;refine aas ?_;obtain⟨N,t⟩:∃N,N=s1.heap.objs.size:=⟨_,rfl⟩;rw[<- t] at F G hz hI hO h1 B hsz;rw[<- t];have D:ZAp (N+4) (N+2) (N+3) N (N+1) [N,a] [N+1,b]:=zap ⟨F,G⟩ (ZK _) (ZK _) (ZK _) (ZK _);have M:∀{c:Addr},c<N->c∉[N+4,N+3,N,N+1]:=fun {c} hc m=>by simp only[n_,L_,aaa] at m;simp only[Addr] at *;omega
 have S:N+2∉[N+4,N+3,N,N+1]:=fun m=>by simp only[n_,L_,aaa] at m;simp only[Addr] at *;omega
 refine n6 (s:={ s1 with heap:=h'}) (knd:=bu X.prog X.w) (xs:=l.toArray) (ys:=d.toArray) (ps:=(f.map Sum.inr).zip d) (v.ok.hd hc) D (G_ F) (G_ (ZW G)) (M F) (M G) S hz ⟨.inl ⟨rfl,hz⟩,hI,⟨_,_,hO⟩,⟨h1,p.isList.at fun o e=>R _ o e⟩,⟨B,n.isList.at fun o e=>R _ o e⟩⟩ (by simp;omega) (by simp;omega) (by simp [List.length_zip];omega) (by simp;omega) ?_ ?_
 ·intro j x y ex ey;have C:l[j]?=some x:=by simpa using ex
  have T:d[j]?=some y:=by simpa using ey
  have lj:j<l.length:=(ZC.mp C).1;have ek:f[j]?=some (f[j]'(by omega)):=by rw[e_]
  obtain⟨u,eu,ru⟩:=rv.get (i:=j) (x:=V.str (f[j]'(by omega))) (by rw[x_,ek];rfl);have e3:u=x:=D_ (eu.symm.trans C);subst e3;refine⟨Sum.inr (f[j]'(by omega)),?_,j6 (k:=Sum.inr (f[j]'(by omega))) ru⟩;rw[List.getElem?_zip_eq_some];exact⟨by rw[x_,ek];rfl,T⟩
 intro B tk P kp2;have U:∀c o,s1.heap.get? c=some o->B.get? c=some o:=fun c o e=>kp2 c o (M (by rw[t];exact m_ e)) (R c o e);have g:({ s1 with heap:=h'}:Shared).heap.objs.size=N+5:=hsz;rw[g] at P;rw[g];have W:(((f.map Sum.inr).zip d:List (Key × Value)).map (·.1)).Nodup:=by rw[List.map_fst_zip (by simp;omega)];exact List.pairwise_map.mpr (List.Pairwise.imp (fun h e=>h (Sum.inr.inj e)) hnd)
 rw[merged_nil_of_nodup _ W] at P;have hp:H1 (N+5)=none:=v.hok.fresh (by rw[t];exact Nat.le_add_right _ _);refine⟨.ref (N+5),_,v.laid (a:=N+5) (o:=.dK ((f.map Sum.inr).zip ys)) (h':=B) (t':=tk) U (by rw[t];exact Nat.le_add_right _ _) ⟨by simp [List.length_zip];omega,ZM.mpr ?_,_,Gv E,P⟩,rfl,q _ hp⟩;have:=v.big;rw[<- t] at this;exact Ze (J_ this (Nat.le_add_right _ _))
def WW (e:TA3):Ho:=fun Z H Q=>e Z H fun vs d=>∃(a b:Addr) (c:List Str) (ts:List T),vs=[.ref a,.ref b]/\d a=some (.lst (c.map T.str))/\d b=some (.lst ts)/\c.length=ts.length/\0<c.length/\c.Nodup /\
 ∀p,d p=none->Q (.ref p) (fY d p (.dct (c.zip ts)))
def Y0 (e:TA3):WW e Z H Q=e Z H fun vs d=>∃(a b:Addr) (c:List Str) (ts:List T),vs=[.ref a,.ref b]/\d a=some (.lst (c.map T.str))/\d b=some (.lst ts)/\c.length=ts.length/\0<c.length/\c.Nodup /\
 ∀p,d p=none->Q (.ref p) (fY d p (.dct (c.zip ts))):=rfl
def uA {K:Frag}:∀{a:List Str}{xs:List V},gV K H (a.map T.str) xs->xs=a.map V.str
 |[],_,r=>r.inv0
 |k::a,_,r=>by
  obtain⟨v,d,rfl,b,c⟩:=r.inv
  rw[b.str,uA c]
  rfl
def uB {K:Frag}:∀{a:List Str}{ts:List T}{ys:List V},gV K H ts ys->acR K H (a.zip ts) ((a.map Sum.inr).zip ys)
 |[],_,_,_=>.nil
 |_::_,[],_,r=>by rw[r.inv0];exact .nil
 |k::a,t::ts,_,r=>by
  obtain⟨v,d,rfl,b,c⟩:=r.inv
  exact .cons ⟨rfl,b⟩ (uB c)
def yL:bootBuiltins "dict"=some (.type "dict"):=by decide +kernel
def WX (J:X.calm=true) (g:Gl X "dict") (j:X.mg "dict"=none) (m:Gl X "zip") (n:X.mg "zip"=none) (K:PA3 X [e,d] p) (B:starEach [e,d] X.env=[(false,eval e X.env),(false,eval d X.env)]:=by rfl) (i:starEach [d] X.env=[(false,eval d X.env)]:=by rfl) (o:(backTo pos (starEach [] X.env)).any (·.1)=false:=by rfl):
  xr X (.Call (.Name "dict" p1) [.Call (.Name "zip" p2) [e,d] [] pos'] [] pos) (WW p):=by
 refine PE.imp (WT J g j yL m n K B i o) ?_;rintro Z H Q ⟨L,H3,M,x,y,h,k⟩;refine⟨L,H3,_,x,y,h,fun vs H' ts A G c r q=>?_⟩;obtain⟨a,b,D,us,rfl,e,d,f,C,F,q⟩:=q;obtain⟨v,w,rfl,z,E⟩:=r.two';obtain⟨xs,t,u⟩:=c.sqL (.inl e);obtain⟨ys,I,s⟩:=c.sqL (.inl d);rw[uA u] at t;refine⟨a,b,D,ys,by rw[z.ref,E.ref],t,I,by have:=s.length;omega,C,F,fun l f=>?_⟩;exact k _ _ _ _ (G.trans (aK f)) (c.newDk f (uB s)) .ofRef (q l (c.fresh f))
end
end L3
namespace M
open L2 L3
def nm0 : String := "ne_eq not_false_eq_true aF xV xY tC3 eX MT Cq Mw MF Qm sE MJ Mt Vf Mu Qq Vl Cu Cr MN qi Mx Mz YB Vj sZ yc YG Dg gQ Qv Qw Vm fM q_I YH Qx Qy Qz Dh jO Vo Vp Vq Vr M9 tD Nb Vs Nf Ng Di yr Vt Vu QB Vv YJ QC Vw Nh QD Vx Vy q_D Vz QF VB VD QG VF QH QJ Jz QK VG QL QM QQ QR VH VJ VL VM VN Dj JB VP VR V0 V1 QS V2 JC Nj yt QT JD QV aq Qp CJ o4 Q4 vV vW vX Ad vY vZ wg wj Ae wu tM tO tQ ww tU DN qu qw qz tV qC tW tX tY wy tZ lC decide_true decide_false Bool.not_true Bool.not_false at0 at1 at2 List.eraseIdx_cons_zero Int.toNat_natCast qe List.length_map List.length_cons List.length_nil Nat.zero_add Bool.false_eq_true if_false if_true List.getElem?_cons_zero List.getElem?_cons_succ List.set_cons_zero List.set_cons_succ V6 V7 List.map_cons List.map_nil Eu Ew Ex DQ Q8 V8 V9 Rg Rh Nu Nv Ek Nz Ny Sh Ss Su Sv YS J3 J4 J5 J6 Rr Wh Ep Er Rq Em V4 V5 Dq Tf N5 Fp RB N6 N7 Wr Fq N8 Oa Ft yF qG Wl YT NK Fd J8 Ff Rv Wn Fi wH Ry NP NQ Fj NT NZ Ws RG Wu RD Eu Ew Ex Ep Er Dw Y0 RW RX qQ mU qP JF JG Dm JH Do V3 JL Tp Hn Tq Tr FP Ww Xi Xj Kp Wz Kr WD Ro Wb JW Wc"
structure isNm (x:Str):Prop where
 lo:1<=x.length
 hi:x.length<=8
 az:∀c∈x.cps.toList,97<=c/\c<=122
structure Nms (ws:List Str):Prop where
 nm:∀x∈ws,isNm x
 nd:ws.Nodup
def Nms.nil:Nms []:=⟨fun _ h=>(nomatch h),aa_⟩
def Nms.snoc (n:Nms ws) (h:isNm x) (a:x∉ws):Nms (ws++[x]) :=
 ⟨fun y b=>(F_.mp b).elim (n.nm y) fun z=>by rw[t_.mp z];exact h,gB n.nd a⟩
structure Wk where
 tasks:List (Str × Int × List Str)
 orders:List (Str × Str)
 pairs:List (Str × Str × Str)
 row:List Str
def sT (xs:List Str):T:=.tup (xs.map T.str)
def tkT (t:Str × Int × List Str):T:=.tup [.str t.1,.int t.2.1,sT t.2.2]
def orT (o:Str × Str):T:=.tup [.str o.1,.str o.2]
def prT (p:Str × Str × Str):T:=.tup [.str p.1,.str p.2.1,.str p.2.2]
def Wk.enc (W:Wk):T:=.tup [.tup (W.tasks.map tkT),.tup (W.orders.map orT),.tup (W.pairs.map prT),sT W.row]
structure afS (t:Str × Int × List Str):Prop where
 nm:isNm t.1
 lo:1<=t.2.1
 hi:t.2.1<10^60
 ks:Nms t.2.2
 kl:t.2.2.length<=4
structure n7 (W:Wk):Prop where
 t1:1<=W.tasks.length
 t8:W.tasks.length<=8
 tk:∀t∈W.tasks,afS t
 nd:(W.tasks.map (·.1)).Nodup
 os:W.orders.length<=28
 od:W.orders.Nodup
 oo:∀o∈W.orders,o.1≠o.2/\o.1∈W.tasks.map (·.1)/\o.2∈W.tasks.map (·.1)
 ps:W.pairs.length<=12
 pd:W.pairs.Nodup
 pp:∀p∈W.pairs,(p.1="with"\/p.1="apart")/\p.2.1≠p.2.2/\p.2.1∈W.tasks.map (·.1)/\p.2.2∈W.tasks.map (·.1)
 r1:1<=W.row.length
 r8:W.row.length<=8
 rn:∀x∈W.row,isNm x
def fH {c:Type}{f:c->T}(g:∀{a b},f a=f b->a=b) {x:c}{xs:List c}:f x∈xs.map f↔x∈xs:=by
 rw[u_];exact⟨fun ⟨y,d,e⟩=>g e▸d,fun h=>⟨x,h,rfl⟩⟩
def jC (h:T.str a=T.str b):a=b:=by injection h
def WY {c:Type}{f:c->T}(d:∀{a b},f a=f b->a=b) {x:c}{xs:List c}:dH true (f x) (xs.map f)=true↔x∉xs:=by
 unfold dH;simp [fH d]
def Y4 {c:Type}{f:c->T}(d:∀{a b},f a=f b->a=b) {x:c}{xs:List c}:dH false (f x) (xs.map f)=true↔x∈xs:=by
 unfold dH;simp [fH d]
def dU (xs:List Str):(xs.map T.str).all (pl 20)=true:=by rw[aay];intro t a;obtain⟨x,_,rfl⟩:=u_.mp a;rfl
def Sh (W:Wk) (H:gb) (Q:v6):sY W.enc (.int 0) H Q=Q (.tup (W.tasks.map tkT)) H:=rfl
def Ss (W:Wk) (H:gb) (Q:v6):sY W.enc (.int 1) H Q=Q (.tup (W.orders.map orT)) H:=rfl
def Su (W:Wk) (H:gb) (Q:v6):sY W.enc (.int 2) H Q=Q (.tup (W.pairs.map prT)) H:=rfl
def Sv (W:Wk) (H:gb) (Q:v6):sY W.enc (.int 3) H Q=Q (.tup (W.row.map T.str)) H:=rfl
def pick:List Str->Int->List Str
 |[],_=>[]
 |x::r,b=>if b%2=1 then x::pick r (b / 2) else pick r (b / 2)
def tot:List Str->Int->Int
 |[],_=>0
 |_::r,b=>(if b%2=1 then 1 else 0)+2*tot r (b / 2)
def numOf:List Str->List Str->Int
 |[],_=>0
 |x::r,ss=>(if x∈ss then 1 else 0)+2*numOf r ss
def jD:∀(ws:List Str) (b:Int),∀x∈pick ws b,x∈ws
 |[],_,x,h=>by cases h
 |y::r,b,x,h=>by
  unfold pick at h
  split at h
  ·
   rcases n_.mp h with rfl | h
   ·
    exact l_
   ·
    exact o_ _ (jD r _ x h)
  ·
   exact o_ _ (jD r _ x h)
def km:∀(ws b a:List Str),(∀x∈ws,x∈b↔x∈a)->numOf ws b=numOf ws a
 |[],_,_,_=>rfl
 |y::r,b,a,h=>by
  have e:=h y l_
  have c:=km r b a fun x d=>h x (o_ _ d)
  simp only[numOf,c,e]
def mV:∀(ws:List Str) (b:Int),ws.Nodup->numOf ws (pick ws b)=tot ws b
 |[],_,_=>rfl
 |y::r,b,nd=>by
  rw[ZJ] at nd
  have c:=mV r (b / 2) nd.2
  have d:y∉pick r (b / 2):=fun h=>nd.1 (jD r _ y h)
  by_cases a:b%2=1
  ·
   have e:numOf r (y::pick r (b / 2))=numOf r (pick r (b / 2)):=km r _ _ fun x f=>by
    have:x≠y:=fun e=>nd.1 (e▸f)
    simp [this]
   simp only[numOf,tot,pick,a,if_true,e,c,n_,true_or]
  ·
   simp only[numOf,tot,pick,a,Zv,d,c]
def Gw:∀(ws:List Str) (b:Int),0<=b->b<2^ws.length->tot ws b=b
 |[],b,h0,h1=>by simp at h1;simp only[tot];omega
 |y::r,b,h0,h1=>by
  have c:b / 2<2^r.length:=by
   rw[p_,ab2] at h1
   omega
  have a:=Gw r (b / 2) (by omega) c
  simp only[tot,a]
  split <;> omega
def mW:∀(A:List Str) (y:Str) (a:List Str),numOf (A++[y]) a=numOf A a+2^A.length*(if y∈a then 1 else 0)
 |[],y,a=>by simp [numOf]
 |x::A,y,a=>by
  have b:=mW A y a
  simp only[abt,numOf,p_,b,ab2]
  generalize (2:Int)^A.length=w
  generalize (if y∈a then (1:Int) else 0)=z
  rw[Int.mul_add,<- Int.mul_assoc,Int.mul_comm 2 w]
  omega
def uC:∀(A B:List Str) (b:Int),pick (A++B) b=pick A b++pick B (b / 2^A.length)
 |[],B,b=>by simp [pick]
 |y::A,B,b=>by
  have a:=uC A B (b / 2)
  have e:b / 2 / 2^A.length=b / 2^(A.length+1):=by
   rw[ab2,Int.mul_comm,Int.ediv_ediv_of_nonneg (by decide)]
  simp only[abt,pick,p_,a,e]
  split <;> simp
def qU (m n:Nat):Builtin.bitAnd (m:Int) (n:Int)=((m &&& n:Nat):Int):=by
 unfold Builtin.bitAnd;rfl
def Sw (m n:Nat):Builtin.bitOr (m:Int) (n:Int)=((m ||| n:Nat):Int):=by
 have h:∀z:Nat,decide ((0:Int)<=Builtin.bitNot (z:Int))=false:=fun z=>E_ (by unfold Builtin.bitNot;omega);have g:∀z:Int,Builtin.bitNot (Builtin.bitNot z)=z:=fun z=>by unfold Builtin.bitNot;omega
 unfold Builtin.bitOr Builtin.bitAnd;rw[h,h];simp only[g,ZV]
def bT:List Str->List Str->Nat
 |[],_=>0
 |x::r,ss=>(if x∈ss then 1 else 0)+2*bT r ss
def cH:∀(ns a:List Str),numOf ns a=((bT ns a:Nat):Int)
 |[],_=>rfl
 |x::r,a=>by
  have:=cH r a
  simp only[numOf,bT,this]
  by_cases h:x∈a <;> simp [h]
def KY (b c a d:Nat) (k:b<2) (j:c<2):(b+2*a) &&& (c+2*d)=(if b=1/\c=1 then 1 else 0)+2*(a &&& d):=by
 have i:((b+2*a) &&& (c+2*d)) / 2=(b+2*a) / 2 &&& (c+2*d) / 2:=Nat.and_div_two;have g:(b+2*a) / 2=a:=by omega
 have f:(c+2*d) / 2=d:=by omega
 rw[g,f] at i;have e:((b+2*a) &&& (c+2*d))%2=1↔(b+2*a)%2=1/\(c+2*d)%2=1:=Nat.and_mod_two_eq_one;by_cases h:b=1/\c=1
 ·rw[if_pos h];have:=e.mpr ⟨by omega,by omega⟩;omega
 rw[if_neg h];have:¬((b+2*a) &&& (c+2*d))%2=1:=fun z=>h (by have:=e.mp z;omega);omega
def Sx (b c a d:Nat) (k:b<2) (j:c<2):(b+2*a) ||| (c+2*d)=(if b=1\/c=1 then 1 else 0)+2*(a ||| d):=by
 have i:((b+2*a) ||| (c+2*d)) / 2=(b+2*a) / 2 ||| (c+2*d) / 2:=Nat.or_div_two;have g:(b+2*a) / 2=a:=by omega
 have f:(c+2*d) / 2=d:=by omega
 rw[g,f] at i;have e:((b+2*a) ||| (c+2*d))%2=1↔(b+2*a)%2=1\/(c+2*d)%2=1:=Nat.or_mod_two_eq_one;by_cases h:b=1\/c=1
 ·rw[if_pos h];have:=e.mpr (by omega);omega
 rw[if_neg h];have:¬((b+2*a) ||| (c+2*d))%2=1:=fun z=>h (by have:=e.mp z;omega);omega
def lH (p:Prop) [Decidable p]:(if p then 1 else 0)<2:=by split <;> decide
def mX:∀(ns A B:List Str),bT ns A &&& bT ns B=bT ns (A.filter fun x=>decide (x∈B))
 |[],_,_=>by simp [bT]
 |x::r,A,B=>by
  simp only[bT]
  rw[KY _ _ _ _ (lH _) (lH _),mX r A B]
  by_cases a:x∈A <;> by_cases b:x∈B <;> simp [a,b]
def yM:∀(ns A B:List Str),bT ns A ||| bT ns B=bT ns (A++B)
 |[],_,_=>by simp [bT]
 |x::r,A,B=>by
  simp only[bT]
  rw[Sx _ _ _ _ (lH _) (lH _),yM r A B]
  by_cases a:x∈A <;> by_cases b:x∈B <;> simp [a,b]
def jE:∀(ns A B:List Str),bT ns A=bT ns B↔∀x∈ns,x∈A↔x∈B
 |[],_,_=>by simp [bT]
 |y::r,A,B=>by
  have b:=jE r A B
  simp only[bT,n_,forall_eq_or_imp]
  rw[<- b]
  by_cases a:y∈A <;> by_cases c:y∈B <;> simp only[a,c,if_true,Zv,iff_true,iff_false,true_iff,false_iff,true_and,not_true,not_false_eq_true,false_and] <;> omega
def ik:∀ns:List Str,bT ns []=0
 |[]=>rfl
 |x::r=>by simp only[bT,L_,Zv,ik r]
def Bb (ns A:List Str):bT ns A=0↔∀x∈ns,x∉A:=by
 have:=jE ns A [];rw[ik] at this;rw[this];simp
def fJ (ns A B:List Str):(Builtin.bitAnd (numOf ns A) (numOf ns B)=numOf ns B)↔∀x∈ns,x∈B->x∈A:=by
 rw[cH,cH,qU,mX];constructor
 ·intro h x a b;have:=(jE ns _ _).mp (Int.ofNat.inj h) x a;exact (A_.mp (this.mpr b)).1
 intro h;refine Zk Int.ofNat ((jE ns _ _).mpr fun x a=>?_);rw[A_,q_];exact⟨fun z=>z.2,fun z=>⟨h x a z,z⟩⟩
def qW (ns A B:List Str):(Builtin.bitAnd (numOf ns A) (numOf ns B)=0)↔∀x∈ns,¬(x∈A/\x∈B):=by
 rw[cH,cH,qU,mX];have e:((bT ns (A.filter fun x=>decide (x∈B)):Nat):Int)=0↔bT ns (A.filter fun x=>decide (x∈B))=0:=by omega
 rw[e,Bb];constructor
 ·intro h x a z;exact h x a (A_.mpr ⟨z.1,N_ z.2⟩)
 intro h x a z;have:=A_.mp z;exact h x a ⟨this.1,aat this.2⟩
def Sy (ns A B:List Str):Builtin.bitOr (numOf ns A) (numOf ns B)=numOf ns (A++B):=by
 rw[cH,cH,cH,Sw,yM]
def Gx (ns A:List Str):0<=numOf ns A:=by rw[cH];exact abD _
def uD:∀(ns A:List Str),numOf ns A<2^ns.length
 |[],_=>by simp [numOf]
 |x::r,A=>by
  have:=uD r A
  simp only[numOf,p_,ab2]
  split <;> omega
def uE:∀(ns:List Str) (A:List Str),ns.Nodup->pick ns (numOf ns A)=ns.filter fun x=>decide (x∈A)
 |[],_,_=>rfl
 |x::r,A,nd=>by
  rw[ZJ] at nd
  have c:=uE r A nd.2
  have n0:=Gx r A
  by_cases h:x∈A
  ·
   have b:(1+2*numOf r A)%2=1:=by omega
   have a:(1+2*numOf r A) / 2=numOf r A:=by omega
   simp only[numOf,h,if_true,pick,b,a,c,aa5,aaF]
  ·
   have b:¬(0+2*numOf r A)%2=1:=by omega
   have a:(0+2*numOf r A) / 2=numOf r A:=by omega
   simp only[numOf,h,Zv,pick,b,a,c,aa5,aap,C_]
def Gy (a:ns.Nodup) (b:0<=n) (c:n<2^ns.length):numOf ns (pick ns n)=n:=by rw[mV ns n a,Gw ns n b c]
universe u
variable {α:Type u}
inductive RT (R:α->α->Prop):α->α->Prop
 |refl {a:α}:RT R a a
 |step {a b c:α}:RT R a b->R b c->RT R a c
def RT.trans {a b c:α} (h:RT R a b) (g:RT R b c):RT R a c:=by
 induction g with
 |refl=>exact h
 |step _ r d=>exact .step d r
def RT.flip {a b:α} (h:RT R a b):RT (fun x y=>R y x) b a:=by
 induction h with
 |refl=>exact .refl
 |step _ r c=>exact (RT.step (R:=fun x y=>R y x) .refl r).trans c
def KZ {a b:α}:RT (fun x y=>R y x) a b↔RT R b a:=⟨fun h=>h.flip,fun h=>h.flip⟩
def W0 {L:List (α × α)}{F:List α} (e:s∈F) (c:∀a b,(a,b)∈L->a∈F->b∈F) (h:RT (fun a b=>(a,b)∈L) s x):x∈F:=by
 induction h with
 |refl=>exact e
 |step _ r d=>exact c _ _ r d
def wX [DecidableEq α]:∀{l m:List α},l.Nodup->(∀x∈l,x∈m)->l.length<=m.length:=by
 intro l;induction l with
 |nil=>intro m _ _;exact ZS _
 |cons a l j =>
 intro m c g;rw[ZJ] at c;have f:=g a l_;have h:=j (m:=m.erase a) c.2 fun x i=>by have b:=g x (o_ _ i);have d:x≠a:=fun e=>c.1 (e▸i);exact (List.mem_erase_of_ne d).mpr b
 have e:=List.length_erase_of_mem f;have p:0<m.length:=List.length_pos_of_mem f;simp only[p_];omega
def mkS (l:List Nat):Str:=⟨l.toArray⟩
def iQ (l:List Nat):(mkS l).cps.toList=l:=rfl
def di (l:List Nat):(mkS l).length=l.length:=by show (l.toArray).size=_;simp
def SJ (x:Str):∃l,x=mkS l:=⟨x.cps.toList,by cases x;rfl⟩
def K1 (h:mkS a=mkS b):a=b:=by have:=Zk (fun x=>x.cps.toList) h;exact this
def yN (a b:List Nat):mkS a++mkS b=mkS (a++b):=by
 show (⟨a.toArray++b.toArray⟩:Str)=⟨(a++b).toArray⟩;simp
def W3 (l:List Nat) (k:Nat) (h:k<=l.length):Txt.slice (mkS l) none (some (k:Int))=mkS (l.take k):=by
 have e:=StrLaws.sliceText_to (x:=mkS l) (j:=(k:Int)) ⟨abD k,by rw[iQ];omega⟩;rw[iQ,List.drop_zero,Int.sub_zero,ZV] at e;exact e
def mY:List Nat:=[97,98,99,100,101,102,103,104,105,106,107,108,109,110,111,112,113,114,115,116,117,118,119,120,121,122]
def Gz:("abcdefghijklmnopqrstuvwxyz":Str)=mkS mY:=by decide +kernel
def K3:∀i:_root_.Fin 26,mY[i.val]?=some (97+i.val):=by decide
def GC (i:Int) (b:0<=i) (c:i<26):atI mY i=some (97+i.toNat):=by
 obtain⟨j,rfl⟩:=Int.eq_ofNat_of_zero_le b;have a:j<26:=by omega
 have:=K3 ⟨j,a⟩;exact cG (by simpa using this)
def K4:∀i:_root_.Fin 26,Builtin.Str.occurrences (mkS mY) (mkS [97+i.val]) 0 26 1=[i.val]:=by decide +kernel
def SM (c:Nat) (a:97<=c) (b:c<=122):Builtin.Str.occurrences (mkS mY) (mkS [c]) 0 (mkS mY).length 1=[c - 97]:=by
 have:=K4 ⟨c - 97,by omega⟩;rw[show 97+(c - 97)=c by omega] at this;exact this
def Od (b:1<=l.length) (a:l.length<=8) (h:∀c∈l,97<=c/\c<=122):isNm (mkS l):=⟨by rw[di];exact b,by rw[di];exact a,by rw[iQ];exact h⟩
def tkW (t:Str × Int × List Str):List Str:=([("task":Str),t.1,(toString t.2.1:String)]:List Str)++t.2.2
end M
namespace L3
open L2
structure aem (p:Prop):Prop where
 out:p
def au (h:∀R,aem (R=u)->(xV t R) D Z H):(xV t u) D Z H:=h u ⟨rfl⟩
def Bc (W:Nat->St3->gb->Prop) (a:∃m,W m Z H) (d:∀m Z H,W m Z H->∀(WI:Nat->St3->gb->Prop) (TB:TS3) (NX:St3->gb->Prop),aem (WI=W)->aem (TB=tb)->aem (NX=D.nx) ->
  c Z H fun b H1=>if b=true then TB { D with nx:=fun Z' H'=>∃m',m'<m/\WI m' Z' H',ct:=fun Z' H'=>∃m',m'<m/\WI m' Z' H',bk:=D.nx} Z H1 else NX Z H1):xZ c tb D Z H :=
 ⟨W,a,fun m Z H w=>d m Z H w W tb D.nx ⟨rfl⟩ ⟨rfl⟩ ⟨rfl⟩⟩
def jo {m:Type} (c f:m->T) (p:m->Bool) (h:List m) (rest:St3) (i:still H) (u:h.length<=sizeLine) (s:∀a∈h,∀Q:Bool->gb->Prop,Q (p a) H->tt (some (c a)::rest) H Q) (q:∀a∈h,p a=true->∀Q:v6,Q (f a) H->te (some (c a)::rest) H Q) (k:l ((h.filter p).map f) H):Z7 (eX 0) tt te still l (h.map c) [] (v::rest) H:=by
 refine jx (fun r ys Z H'=>∃(d g:List m) (v:Option T),Z=v::rest/\r=d.map c/\ys=(g.filter p).map f/\g++d=h/\H'=H) ⟨h,[],v,rfl,rfl,rfl,rfl,rfl⟩ ?_ ?_
 ·rintro ys Z H' ⟨d,g,v,rfl,e,rfl,b,rfl⟩;have j:d=[]:=abp.mp e.symm;subst j;rw[W_] at b;subst b;exact⟨i,by rw[d_];exact P_ (Zr _ _) u,k⟩
 rintro x r ys Z H' N ⟨d,g,v,rfl,e,rfl,b,rfl⟩ o;cases d with
 |nil=>cases e
 |cons t d =>
 injection e with e1 e2;subst e1 e2;refine⟨i,?_⟩;show tt (some (c t)::rest) H' _;refine s t (by rw[<- b];simp) _ ?_;cases n:p t with
 |true=>rw[if_pos rfl];refine q t (by rw[<- b];simp) n _ ⟨?_,o _ _ _ ⟨d,g++[t],_,rfl,rfl,by simp [n],by rw[<- b];simp,rfl⟩⟩;have:=Zk List.length b;simp only[g_,p_] at this;rw[d_];have:=Zr p g;omega
 |false =>
 rw[if_neg B_];exact o _ _ _ ⟨d,g++[t],_,rfl,rfl,by simp [n],by rw[<- b];simp,rfl⟩
end L3
namespace M
open L2 L3
inductive Rw where
 |tk (t:Str × Int × List Str) | od (o:Str × Str) | pr (p:Str × Str × Str)
def Rw.words:Rw->List Str
 |.tk t=>tkW t
 |.od o=>["order",o.1,o.2]
 |.pr p=>[p.1,p.2.1,p.2.2]
def prs:List Rw->List (Str × Str × Str)
 |[]=>[]
 |.pr p::r=>p::prs r
 |_::r=>prs r
inductive RowW:List Str->Prop
 |tk {t:Str × Int × List Str} (h:afS t):RowW (tkW t)
 |od {a b:Str} (h1:isNm a) (h2:isNm b):RowW ["order",a,b]
 |pr {z a b:Str} (h0:z="with"\/z="apart") (h1:isNm a) (h2:isNm b):RowW [z,a,b]
 |row {xs:List Str} (h1:1<=xs.length) (h8:xs.length<=8) (h:∀x∈xs,isNm x):RowW (([("row":Str)]:List Str)++xs)
def lkP (ws:List Str) (p:Str × Str × Str):List (Str × Str):=if p.1∈ws then [(p.2.1,p.2.2),(p.2.2,p.2.1)] else []
def lkW (ws:List Str) (W:Wk):List (Str × Str):=W.orders++W.pairs.flatMap (lkP ws)
def lkR (ws:List Str) (W:Wk) (a b:Str):Prop:=(a,b)∈lkW ws W
def K5 (ws:List Str) (p:Str × Str × Str):(lkP ws p).length<=2:=by unfold lkP;split <;> simp
def qX (ws:List Str):∀ps:List (Str × Str × Str),(ps.flatMap (lkP ws)).length<=2*ps.length
 |[]=>k_ _
 |p::r=>by
  have a:=K5 ws p
  have b:=qX ws r
  simp only[List.flatMap_cons,g_,p_]
  omega
def yO (h:n7 W):(lkW ws W).length<=52:=by
 have b:=qX ws W.pairs;have c:=h.os;have a:=h.ps;unfold lkW;rw[g_];omega
def dF (F:List Str):List (Str × T):=F.map fun z=>(z,T.bl true)
def lJ (z:Str):∀F:List Str,(aN z (dF F)).isSome=decide (z∈F)
 |[]=>rfl
 |y::r=>by
  have a:=lJ z r
  unfold dF at a ⊢
  simp only[H_,aN]
  by_cases h:y=z
  ·
   simp [h]
  ·
   rw[if_neg h,a]
   have h':¬z=y:=fun e=>h e.symm
   simp [h']
def SN (z:Str) (F:List Str):((dF F).any fun b=>decide (b.1=z))=decide (z∈F):=by
 unfold dF;rw[List.any_map];induction F with
 |nil=>rfl
 |cons y r a =>
 simp only[abQ,Function.comp_apply,a];by_cases h:y=z
 ·simp [h]
 have h':¬z=y:=fun e=>h e.symm;simp [h,h']
def SQ (h:z∉F):put3 z (T.bl true) (dF F)=dF (F++[z]):=by
 unfold put3;rw[SN,E_ h,if_neg B_];unfold dF;rw[y_];rfl
def S5 (F:List Str):(dF F).length=F.length:=d_ _
def S6 (z:Str):[(z,T.bl true)]=dF [z]:=rfl
def GD (b:(∃a,x=.ref a/\H a=some (.lst ts))\/x=.tup ts) (h:∀still:gb->Prop,(still=cI\/∃a,still=bh a ts/\H a=some (.lst ts))->R ts still H):zZ x H R:=by
 rcases b with ⟨a,rfl,e⟩ | rfl
 ·rw[QX,e,yt];exact h _ (.inr ⟨a,rfl,e⟩)
 rw[QW];exact h _ (.inl rfl)
def bY (W:Wk) (t:Str):List Str:=(W.tasks.map (·.1)).filter fun x=>@decide (RT (lkR ["with"] W) t x/\RT (lkR ["with"] W) x t) (Classical.propDecidable _)
def wY (W:Wk):List (List Str):=((W.tasks.map (·.1)).filter fun t=>decide ((bY W t).head?=some t)).map (bY W)
def jq (W:Wk) (t:Str):List Str:=(W.tasks.map (·.1)).filter fun x=>@decide (RT (lkR ["with"] W) x t/\¬RT (lkR ["with"] W) t x) (Classical.propDecidable _)
def pK (h:t∈W.tasks.map (·.1)):t∈bY W t:=by
 unfold bY;rw[A_];exact⟨h,@N_ _ (Classical.propDecidable _) ⟨.refl,.refl⟩⟩
def swp (o:Str × Str):Str × Str:=(o.2,o.1)
def S7 {L:List (Str × Str)}:RT (fun x y=>(x,y)∈L.map swp) a b↔RT (fun x y=>(x,y)∈L) b a:=by
 have e:(fun x y=>(x,y)∈L.map swp)=fun x y:Str=>(y,x)∈L:=by funext x y;refine propext ⟨fun h=>?_,fun h=>u_.mpr ⟨(y,x),h,rfl⟩⟩;obtain⟨o,c,d⟩:=u_.mp h;obtain⟨f,g⟩:=o;cases d;exact c
 rw[e];exact KZ
structure Hs (H:gb) (fs:List (Addr × O3)):Prop where
 at':∀q∈fs,H q.1=some q.2
 nd:(fs.map (·.1)).Nodup
def W4 (H:gb) (x:T) (b:List Str):Prop:=x=sT b\/∃a,x=.ref a/\H a=some (.lst (b.map T.str))
def K6 (h:W4 H x c) (q:Q (.bl (if b then !decide (y∈c) else decide (y∈c))) H):sW b (.str y) x H Q:=by
 have e:dH b (T.str y) (c.map T.str)=(if b then !decide (y∈c) else decide (y∈c)):=by unfold dH;have:(T.str y∈c.map T.str)↔y∈c:=fH jC;simp only[this]
 rcases h with rfl | ⟨a,rfl,d⟩
 ·show sW b (.str y) (.tup (c.map T.str)) H Q;rw[Nb,e];exact⟨rfl,dU c,q⟩
 rw[Nf,d,Ng,e];exact⟨rfl,dU c,q⟩
def kZ (a:List Str) (k:Str):Bool:=decide (a=[])||decide (k∈a)
def jF (W:Wk) (t:Str):List Str:=(W.pairs.filter fun p=>decide (p.1=("apart":Str))&&decide (p.2.1=t)).map (·.2.2)
def okT (W:Wk) (a:Str) (D S:List Str) (t:Str × Int × List Str):Bool :=
 !decide (t.1∈D)&&kZ t.2.2 a&&@decide (∀x∈bY W t.1,x∈S) (Classical.propDecidable _)&&@decide (∀x∈jq W t.1,x∈S++D) (Classical.propDecidable _)&&@decide (∀x∈jF W t.1,x∉S) (Classical.propDecidable _)
def cR (ts:List (Str × Int × List Str)) (S:List Str):Int:=((ts.filter fun t=>decide (t.1∈S)).map (·.2.1)).sum
def wZ (W:Wk) (eG:Int) (a:Str) (D S:List Str):Bool:=(W.tasks.all fun t=>!decide (t.1∈S)||okT W a D S t)&&decide (cR W.tasks S<=eG)
def ruT (W:Wk) (ns:List Str) (t:Str × Int × List Str):T:=.tup [.int (numOf ns [t.1]),.int t.2.1,sT t.2.2,.int (numOf ns (bY W t.1)),.int (numOf ns (jq W t.1)),.int (numOf ns (jF W t.1))]
def w5 (A:List (Str × Int × List Str)) (t:Str × Int × List Str) (S:List Str):cR (A++[t]) S=cR A S+if t.1∈S then t.2.1 else 0:=by
 unfold cR;rw[aal,y_,List.sum_append];by_cases h:t.1∈S <;> simp [h]
def yP (a:x∈ns):(Builtin.bitAnd (numOf ns A) (numOf ns [x])=numOf ns [x])↔x∈A:=by
 rw[fJ];constructor
 ·intro h;exact h x a (by simp)
 intro h y _ b;rw[t_.mp b];exact h
end M
namespace L3
open L2
end L3
namespace M
open L2 L3
local macro_rules | `(tactic| walk_at "c") => `(tactic| try dsimp only [qg,List.replicate,H_,aaB,abt,abT,aaS,aaQ,Option.getD_some])
local macro_rules | `(tactic| walk_at "n") => `(tactic| (obtain ⟨e⟩:=‹aem (_ = _)›; subst e; try dsimp only))
local macro_rules | `(tactic| walk_at "") => do
 let ls <- ((nm0.splitOn " ").toArray.map String.toName).filterM fun n => do return !(<- Lean.Macro.resolveGlobalName n).isEmpty
 let ls <- ls.mapM fun n => let i:=Lean.mkIdent n; `(Lean.Parser.Tactic.simpLemma| $i:ident)
 `(tactic| ((try dsimp only [$[$ls:simpLemma],*]); try simp only [*,$[$ls:simpLemma],*]))
local macro_rules | `(tactic| walk_at "h") => `(tactic| have hsz:sizeLine=16777216:=rfl)
local macro_rules | `(tactic| walk_at "t") => `(tactic| refine ⟨trivial,?_⟩)
local macro_rules | `(tactic| walk_at "s") => `(tactic| (refine au fun R h=>?_; walk_at ""))
def q0 (n:Str) (N:List Str) (t:T) (s:List T):aQ (n::N) (t::s)=some t::aQ N s:=by simp [aQ]
def q10 (n:Str) (N:List Str):aQ (n::N) []=none::aQ N []:=by simp [aQ,List.replicate_succ]
def q11:aQ [] []=[]:=rfl
def q12 (a b c d):Wk.enc ⟨a,b,c,d⟩=T.tup [T.tup (a.map tkT),T.tup (b.map orT),T.tup (c.map prT),T.tup (d.map T.str)]:=rfl
local macro_rules | `(tactic| walk_at "q") => `(tactic| simp only [q0,q10,q11,q12])
local macro_rules | `(tactic| walk_at "l") => `(tactic| (intro _ _ _ h; first | (obtain ⟨_,e,_⟩:=h; subst e; rfl) | (obtain ⟨_,_,e,_⟩:=h; subst e; rfl) | (obtain ⟨_,_,_,e,_⟩:=h; subst e; rfl) | (obtain ⟨_,_,_,_,e,_⟩:=h; subst e; rfl) | (obtain ⟨_,_,_,_,_,e,_⟩:=h; subst e; rfl) | (obtain ⟨_,_,_,_,_,_,e,_⟩:=h; subst e; rfl) | (obtain ⟨_,_,_,_,_,_,_,e,_⟩:=h; subst e; rfl) | (obtain ⟨_,_,_,_,_,_,_,_,e,_⟩:=h; subst e; rfl) | (obtain ⟨_,_,_,_,_,_,_,_,_,e,_⟩:=h; subst e; rfl) | (obtain ⟨_,_,_,_,_,_,_,_,_,_,e,_⟩:=h; subst e; rfl) | (obtain ⟨_,_,_,_,_,_,_,_,_,_,_,e,_⟩:=h; subst e; rfl) | (obtain ⟨_,_,_,_,_,_,_,_,_,_,_,_,e,_⟩:=h; subst e; rfl) | (obtain ⟨_,_,_,_,_,_,_,_,_,_,_,_,_,e,_⟩:=h; subst e; rfl) | (obtain ⟨_,_,_,_,_,_,_,_,_,_,_,_,_,_,e,_⟩:=h; subst e; rfl)))
def n5 (l:List Str) (h:l.Nodup:=by decide +kernel):l.Nodup:=h
def b6 (i:Nat) (N N':List Str) (nt:Nat) (cap:List Nat) {X}{scope} (c:X.env.scope.names=(aB (top i)).names:=by rfl) (o:X.N=N:=by rfl) (h:compLook (aB (top i)).names N (scope.kind==.function) scope.names N' nt cap=true:=by decide +kernel):acL X N' nt cap scope:=bG c o h
def c6 {P:Program}{w:World}{K:Frag}{mg:Str->Option Value}{base:Heap}{k:Nat}{sp:Sp3}{N ps:List Str}{f:Addr}{fd:FuncData}{x:Str}{st:Stmt} (F:G3 K mg x st ps f fd) (S:gk N ps (aB st)) (cb:∀(b:Value) (A:Around) (outer:List Env) (s:Shared) (H:Hp) (E:XK) (ts:List T) (H3:gb) (Q:v6),tR k (A.deeper (envOfC x (aB st) s.heap.objs.size f b))->sp ts H3 Q ->
   ∃t,ju (lY CX0 P w K mg base N x (aB st) f b A outer s H E).nox (cj st) t/\t { nx:=fun _ H'=>t6 Q .non H',rt:=t6 Q} (aQ N ts) H3) (gl:∀ts H Q,sp ts H Q->ts.length=ps.length:=by walk_at "l"):Ow P w K mg base (k+1) x st ps sp:=⟨f,fd,F,fn3 F.fn S gl cb⟩
structure tL (p:Prop):Prop where
 out:p
structure Cl (H:gb) (a:Addr):Prop where
 ex:∃ns:List Int,H a=some (.lst (ns.map T.int))/\ns.length<=504
def Kep (a:Addr) (H H':gb):Prop:=∀b o,H b=some o->b≠a->H' b=some o
structure Wt (c:Addr) (H0 H:gb) (fs:List (Addr × O3)):Prop where
 cl:Cl H c
 kp:Kep c H0 H
 at':∀p∈fs,H p.1=some p.2/\p.1≠c
def kE (n:Nat):dX 0 n=(List.range n).map fun (i:Nat)=>T.int (i:Int):=by
 unfold dX;exact aar fun i _=>by rw[Int.zero_add]
def cL (s:eH H H') (a:H' p=none):H p=none:=by
 cases e:H p with
 |none=>rfl
 |some o=>rw[s _ _ e] at a;cases a
def pig:∀(ws:List Str) (f:Nat->Str),(∀i j,i<=ws.length->j<=ws.length->f i=f j->i=j)->(∀i,i<=ws.length->f i∈ws)->False
 |[],f,_,h=>by have:=h 0 (k_ _);simp at this
 |w::ws,f,inj,h=>by
  rw[p_] at inj h
  by_cases q:∃j,j<=ws.length+1/\f j=w
  ·
   obtain⟨j,g,e⟩:=q
   refine pig ws (fun i=>if i<j then f i else f (i+1)) (fun a b m l c=>?_) (fun i k=>?_)
   ·
    try dsimp only at c
    split at c <;> split at c
    ·
     exact inj a b (by omega) (by omega) c
    ·
     have:=inj a (b+1) (by omega) (by omega) c;omega
    ·
     have:=inj (a+1) b (by omega) (by omega) c;omega
    ·
     have:=inj (a+1) (b+1) (by omega) (by omega) c;omega
   ·
    show (if i<j then f i else f (i+1))∈ws
    split
    ·
     exact (n_.mp (h i (by omega))).resolve_left fun d=>by have:=inj i j (by omega) g (d.trans e.symm);omega
    ·
     exact (n_.mp (h (i+1) (by omega))).resolve_left fun d=>by have:=inj (i+1) j (by omega) g (d.trans e.symm);omega
  ·
   exact pig ws f (fun a b m l=>inj a b (by omega) (by omega)) fun i k=>(n_.mp (h i (by omega))).resolve_left fun e=>q ⟨i,by omega,e⟩
def dg:Nat->Int->List Nat
 |0,_=>[]
 |n+1,l=>(97+(l%26).toNat)::dg n (l / 26)
def bw (b:Bool):Str:=if b then "with" else "apart"
def pT3 (x:Bool × Nat × Nat):T:=.tup [.str (bw x.1),.int (x.2.1:Int),.int (x.2.2:Int)]
structure PI (d:Addr) (H0 H:gb) (pp pe a:Addr) (ws:List Str) (ps:List (Bool × Nat × Nat)) (es:List T):Prop where
 w:Wt d H0 H [(pp,.lst (ps.map pT3)),(pe,.lst es),(a,.lst (ws.map T.str))]
 ne:pe≠pp
 na:a≠pp
 l12:ps.length<=12
 ea:es.all (pl 20)=true
 el:es.length<=28+2*ps.length
 ok:∀x∈ps,x.2.1≠x.2.2/\x.2.1<ws.length/\x.2.2<ws.length
def oD (ws:List Str) (a:List Nat) (x:Nat × Nat):Str × Str:=(ws.getD (a.getD x.1 0) "",ws.getD (a.getD x.2 0) "")
def getD_mem {a:Type}{l:List a}{d:a} (h:i<l.length):l.getD i d∈l:=by
 rw[i_,e_ h];exact Z_ h
def oT (a:List Nat) (x:Nat × Nat):T:=.tup [.int ((a.getD x.1 0:Nat):Int),.int ((a.getD x.2 0:Nat):Int)]
def dN (ns:List Str) (f:Str->Nat):List (Str × T):=ns.map fun n=>(n,T.int (f n:Int))
def fu (f:Str->Nat) (n:Str) (v:Nat):Str->Nat:=fun x=>if x=n then v else f x
def iR:∀{ns:List Str},n∈ns->aN n (dN ns f)=some (T.int (f n:Int))
 |x::r,h=>by
  unfold dN
  rw[H_]
  unfold aN
  by_cases e:x=n
  ·
   rw[if_pos e,e]
  ·
   rw[if_neg e]
   exact iR (ns:=r) ((n_.mp h).resolve_left (Ne.symm e))
def S8 {v:Nat} (h:n∈ns):put3 n (T.int (v:Int)) (dN ns f)=dN ns (fu f n v):=by
 unfold put3 dN;rw[if_pos (by rw[aao];exact⟨(n,T.int (f n:Int)),u_.mpr ⟨n,h,rfl⟩,by simp⟩),U_];refine aar fun x a=>?_;show (if x=n then (x,T.int (v:Int)) else (x,T.int (f x:Int)))=(x,T.int ((fu f n v x:Nat):Int));unfold fu;by_cases e:x=n
 ·rw[if_pos e,if_pos e]
 rw[if_neg e,if_neg e]
def S9 {v:Nat} (h:n∉ns):put3 n (T.int (v:Int)) (dN ns f)=dN (ns++[n]) (fu f n v):=by
 unfold put3 dN;rw[if_neg (by
  intro e
  rw[aao] at e
  obtain⟨x,a,e⟩:=e
  obtain⟨y,b,rfl⟩:=u_.mp a
  exact h (aat e▸b)),y_]
 congr 1
 ·refine aar fun x a=>?_;unfold fu;rw[if_neg (fun (e:x=n)=>h (e▸a))]
 unfold fu;rw[List.map_singleton,if_pos rfl]
def GF (ns:List Str) (f:Str->Nat):(dN ns f).length=ns.length:=d_ _
def mu (m:Nat) (ns:List Str) (f:Str->Nat):Nat:=(ns.map fun n=>m - f n).sum
def Tc (h:H a=some o):fY H a o=H:=by
 funext b;by_cases e:b=a
 ·subst e;rw[aq,h]
 rw[aF e]
def ld (tk:List (Str × Int × List Str)) (ns:List Str):Int:=((tk.filter (fun t=>dH false (.str t.1) (ns.map T.str))).map (·.2.1)).sum
def W5:Sp3:=fun ts H Q=>∃(W:Wk) (ns:List Str),ts=[W.enc,.tup (ns.map T.str)]/\W.tasks.length<=8/\Q (.int (ld W.tasks ns)) H
def GJ {a b:List Int}(h:a.Perm b):a.sum=b.sum:=by
 induction h with
 |nil=>rfl
 |cons x _ c=>rw[ZZ,ZZ,c]
 |swap x y l=>rw[ZZ,ZZ,ZZ,ZZ];omega
 |trans _ _ e d=>exact e.trans d
def pL (ns:List Str) (f:Str->Nat) (m:Nat):(acI ns f m).length=m:=by unfold acI;rw[d_,z_]
def yL:bootBuiltins "dict"=some (.type "dict"):=by decide +kernel
def lq (a:List Str) (n:Str):List Str:=if n∈a then a else a++[n]
def kst (a xs:List Str):List Str:=xs.foldl lq a
def jU (k:Nat) (f:Str->Nat) (xs:List Str):Str->Nat:=xs.foldl (fun f n=>fu f n k) f
def kD (D:List (List Str)):List Str:=kst [] D.flatten
def fD (D:List (List Str)):Str->Nat:=D.zipIdx.foldl (fun f p=>jU p.2 f p.1) (fun _=>0)
def GK (a xs:List Str) (n:Str):kst a (xs++[n])=lq (kst a xs) n:=by unfold kst;rw[aaT];rfl
def GP (k:Nat) (f:Str->Nat) (xs:List Str) (n:Str):jU k f (xs++[n])=fu (jU k f xs) n k:=by unfold jU;rw[aaT];rfl
def K7 (A:List (List Str)) (s:List Str):kD (A++[s])=kst (kD A) s:=by unfold kD kst;rw[aaD,aaT,List.flatten_singleton]
def yQ (A:List (List Str)) (s:List Str):fD (A++[s])=jU A.length (fD A) s:=by
 unfold fD;rw[List.zipIdx_append,aaT];simp
def K8 (a:List Str) (f:Str->Nat) (n:Str) (k:Nat):put3 n (T.int (k:Int)) (dN a f)=dN (lq a n) (fu f n k):=by
 unfold lq;split
 ·rename_i h;exact S8 h
 rename_i h;exact S9 h
def qY (x:Str):∀(xs b:List Str),x∈kst b xs↔x∈b\/x∈xs
 |[],b=>by simp [kst]
 |n::r,b=>by
  show x∈kst (lq b n) r↔_
  rw[qY x r]
  unfold lq
  by_cases h:n∈b
  ·
   rw[if_pos h,n_]
   constructor
   ·
    rintro (a | a)
    ·
     exact .inl a
    ·
     exact .inr (.inr a)
   ·
    rintro (a | rfl | a)
    ·
     exact .inl a
    ·
     exact .inl h
    ·
     exact .inr a
  ·
   rw[if_neg h,F_,t_,n_,or_assoc]
def kst_len:∀(xs a:List Str),(kst a xs).length<=a.length+xs.length
 |[],a=>k_ _
 |n::r,a=>by
  have h:=kst_len r (lq a n)
  have b:(lq a n).length<=a.length+1:=by unfold lq;split <;> simp
  show (kst (lq a n) r).length<=_
  rw[p_]
  omega
def Td:x∈kD D↔x∈D.flatten:=by
 unfold kD;rw[qY];simp
def Te (D:List (List Str)):(kD D).length<=D.flatten.length:=by
 have:=kst_len D.flatten [];simpa [kD] using this
def Oe:∀{ns:List Str},n∉ns->aN n (dN ns f)=none
 |[],_=>rfl
 |x::r,h=>by
  unfold dN
  rw[H_]
  unfold aN
  rw[if_neg (fun e=>h (by rw[<- e];exact l_))]
  exact Oe fun z=>h (o_ _ z)
def kdOf (ts:List (Str × Int × List Str)) (n:Str):List Str:=match ts.find? (fun t=>decide (t.1=n)) with
 |some t=>t.2.2
 |none=>[]
def Y5 (a:List Str) (D:List (List Str)):Option T:=if D.length>a.length then some (.tup [.str "stands",.int (D.length:Int)]) else none
def Y6 (ns xs:List Str):Option T:=(xs.find? fun x=>!decide (x∈ns)).map fun x=>.tup [.str "strange",.str x]
def twG:List Str->List Str->Option Str
 |_,[]=>none
 |sn,x::r=>if x∈sn then some x else twG (sn++[x]) r
def twF (xs:List Str):Option T:=(twG [] xs).map fun x=>.tup [.str "twice",.str x]
def Y7 (ns xs:List Str):Option T:=(ns.find? fun n=>!decide (n∈xs)).map fun n=>.tup [.str "lost",.str n]
def Y8 (f:Str->Nat) (a:List (Str × Str)):Option T:=(a.find? fun o=>decide (f o.2<f o.1)).map fun o=>.tup [.str "order",.str o.1,.str o.2]
def Y9 (f:Str->Nat) (ps:List (Str × Str × Str)):Option T:=(ps.find? fun p=>decide (f p.2.1=f p.2.2) != decide (p.1=("with":Str))).map fun p=>.tup [.str p.1,.str p.2.1,.str p.2.2]
def okK (a:List Str) (k:Str):Bool:=decide (a=[])||decide (k∈a)
def W6 (b:Str->List Str) (a:List Str):Nat->List (List Str)->Option T
 |_,[]=>none
 |k,s::r=>match s.find? fun n=>!okK (b n) (a.getD k "") with
  |some n=>some (.tup [.str "kind",.str n,.int (k:Int)])
  |none=>W6 b a (k+1) r
def W7 (g:List Str->Int) (eG:Int):Nat->List (List Str)->Option T
 |_,[]=>none
 |k,s::r=>if g s>eG then some (.tup [.str "beat",.int (k:Int)]) else W7 g eG (k+1) r
def Za (W:Wk) (D:List (List Str)):Option T:=(Y5 W.row D).or ((Y6 (W.tasks.map (·.1)) D.flatten).or ((twF D.flatten).or (Y7 (W.tasks.map (·.1)) D.flatten)))
def Zb (W:Wk) (eG:Int) (D:List (List Str)):Option T:=(Y8 (fD D) W.orders).or ((Y9 (fD D) W.pairs).or ((W6 (kdOf W.tasks) W.row 0 D).or (W7 (ld W.tasks) eG 0 D)))
def flt (W:Wk) (eG:Int) (D:List (List Str)):Option T:=(Za W D).or (Zb W eG D)
structure Dok (W:Wk) (D:List (List Str)):Prop where
 rw:D.length<=W.row.length
 st:∀x∈D.flatten,x∈W.tasks.map (·.1)
 nd:D.flatten.Nodup
 al:∀n∈W.tasks.map (·.1),n∈D.flatten
def Dok.in (h:Dok W D) (a:s∈D):s.Nodup/\∀n∈s,n∈W.tasks.map (·.1) :=
 ⟨(List.sublist_flatten_of_mem a).nodup h.nd,fun n b=>h.st n (aae.mpr ⟨s,a,b⟩)⟩
def uF {B:List (List Str)}:(A++s::B).flatten=A.flatten++(s++B.flatten):=by rw[aaD,aag]
def W8 {xs:List Str}:dH true (T.str x) (xs.map T.str)=!decide (x∈xs):=by
 rw[Zn,WY jC];simp
def Og {xs:List Str}:dH false (T.str x) (xs.map T.str)=decide (x∈xs):=by
 rw[Zn,Y4 jC];simp
def Bd {c:Type} (a:c->T) (xs:List c) (I:List c->St3->gb->Prop) (f:I [] Z H) (j:∀Z H,I xs Z H->still H/\D.nx Z H) (d:∀A x B Z H (N:St3->gb->Prop),xs=A++x::B->I A Z H->(∀b H',I (A++[x]) b H'->N b H')->still H/\g (.tup [.int (A.length:Int),a x]) Z H fun Z2 H2=>tb { D with nx:=N,ct:=N,bk:=D.nx} Z2 H2):acs g tb D still (gO 0 (xs.map a)) Z H:=by
 have:∀(B A:List c) (Z:St3) (H:gb),xs=A++B->I A Z H->acs g tb D still (gO (A.length:Int) (B.map a)) Z H:=by
  intro B;induction B with
  |nil=>intro A Z H e h;rw[W_] at e;subst e;exact j Z H h
  |cons x B i =>
  intro A Z H e h;refine d A x B Z H _ e h fun b H' h'=>?_;have q:=i (A++[x]) b H' (by rw[e,aah];rfl) h';rw[g_,K_,Int.natCast_add] at q;exact q
 exact this xs [] Z H rfl f
def Tf (ts:List T) (i:Int) (H:gb) (Q:v6):ixH (some (.rol ts)) i H Q=oq (atI ts i) fun t=>Q t H:=rfl
def W9:Sp3:=fun ts H Q=>∃tk:List (Str × Int × List Str),ts=[.tup (tk.map tkT)]/\tk.length<=8/\∀p,H p=none->Q (.ref p) (fY H p (.lst ((tk.map (·.1)).map T.str)))
structure Fil (W:Wk) (eG:Int) (kind:Str) (D S:List Str):Prop where
 one:∀t∈W.tasks,t.1∈S->t.1∉D/\kZ t.2.2 kind=true/\(∀x∈bY W t.1,x∈S)/\(∀x∈jq W t.1,x∈S\/x∈D)/\∀x∈jF W t.1,x∉S
 ld:cR W.tasks S<=eG
def ad5:wZ W eG c D S=true↔Fil W eG c D S:=by
 unfold wZ;rw[Zq,q_,aay];have key:∀t:Str × Int × List Str,(!decide (t.1∈S)||okT W c D S t)=true↔(t.1∈S->t.1∉D/\kZ t.2.2 c=true/\(∀x∈bY W t.1,x∈S)/\(∀x∈jq W t.1,x∈S\/x∈D)/\∀x∈jF W t.1,x∉S):=fun t=>by
  unfold okT;rw[Bool.or_eq_true,abL,aai,Zq,Zq,Zq,Zq,abL,aai,@q_ _ (Classical.propDecidable _),@q_ _ (Classical.propDecidable _),@q_ _ (Classical.propDecidable _)];constructor
  ·intro h d;obtain⟨⟨⟨⟨l,i⟩,j⟩,e⟩,f⟩:=h.resolve_left (fun z=>z d);exact⟨l,i,j,fun x k=>F_.mp (e x k),f⟩
  intro h;by_cases d:t.1∈S
  ·obtain⟨l,i,j,e,f⟩:=h d;exact .inr ⟨⟨⟨⟨l,i⟩,j⟩,fun x k=>F_.mpr (e x k)⟩,f⟩
  exact .inl d
 exact⟨fun ⟨a,b⟩=>⟨fun t g=>(key t).mp (a t g),b⟩,fun h=>⟨fun t g=>(key t).mpr (h.one t g),h.ld⟩⟩
def kI (h:∀x,x∈S↔x∈a):cR ts S=cR ts a:=by
 have e:(ts.filter fun t=>decide (t.1∈S))=ts.filter fun t=>decide (t.1∈a):=aav fun t _=>by rw[aaK];exact h t.1
 unfold cR;rw[e]
def Fil.congr (f:Fil W eG a D S) (e:∀x,x∈D↔x∈d) (b:∀x,x∈S↔x∈g):Fil W eG a d g :=
 ⟨fun t j k=>by
  obtain⟨n,l,m,h,i⟩:=f.one t j ((b _).mpr k)
  exact⟨fun z=>n ((e _).mpr z),l,fun x c=>(b x).mp (m x c),fun x c=>(h x c).imp (b x).mp (e x).mp,fun x c z=>i x c ((b x).mpr z)⟩,by rw[<- kI b];exact f.ld⟩
def acU (W:Wk) (eG:Int) (D:List (List Str)):Prop:=∀k s,D[k]?=some s->Fil W eG (W.row.getD k "") (D.take k).flatten s
def acU.snoc (h:acU W eG D) (f:Fil W eG (W.row.getD D.length "") D.flatten s):acU W eG (D++[s]):=fun k s' e=>by
 by_cases d:k<D.length
 ·rw[Zx d] at e;rw[abz (by omega)];exact h k s' e
 rw[V_ (by omega)] at e;have c:k - D.length=0:=by
  cases b:k - D.length with
  |zero=>rfl
  |succ n=>rw[b] at e;simp at e
 have a:k=D.length:=by omega
 subst a;rw[c] at e;simp only[aaS,ab1] at e;subst e;rw[List.take_left']
 ·exact f
 rfl
def acU.nil:acU W eG []:=fun k s e=>by simp at e
def w6:∀{xs:List Str}{f:Str->Nat},n∉xs->jU k f xs n=f n
 |[],_,_=>rfl
 |x::r,f,h=>by
  rw[n_,not_or] at h
  show jU k (fu f x k) r n=f n
  rw[w6 h.2]
  unfold fu
  rw[if_neg h.1]
def GQ:∀{xs:List Str}{f:Str->Nat},n∈xs->jU k f xs n=k
 |x::r,f,h=>by
  show jU k (fu f x k) r n=k
  by_cases a:n∈r
  ·
   exact GQ a
  ·
   rw[w6 a]
   unfold fu
   rw[if_pos ((n_.mp h).resolve_right a)]
def d7 (b:D.flatten.Nodup):∀{k:Nat}{s:List Str}{n:Str},D[k]?=some s->n∈s->fD D n=k:=by
 induction hl:D.length generalizing D with
 |zero=>intro k s n e;rw[abx.mp hl] at e;simp at e
 |succ m h =>
 intro k s n e a;obtain⟨A,l,rfl⟩:∃A l,D=A++[l]:=by refine⟨D.dropLast,D.getLast (by intro z;rw[z] at hl;cases hl),(aa0 _).symm⟩
 have d:A.length=m:=by simp at hl;exact hl
 rw[yQ];rw[aaD,List.flatten_singleton,aaU] at b;by_cases c:k<A.length
 ·rw[Zx c] at e;have g:n∈A.flatten:=aae.mpr ⟨s,Zh e,a⟩;rw[w6 fun z=>b.2.2 n g n z rfl];exact h b.1 d e a
 rw[V_ (by omega)] at e;have f:k - A.length=0:=by
  cases i:k - A.length with
  |zero=>rfl
  |succ n=>rw[i] at e;simp at e
 rw[f] at e;simp only[aaS,ab1] at e;subst e;rw[GQ a];omega
def gJ {D:List (List Str)} (h:n∈D.flatten):∃(k:Nat) (s:List Str),D[k]?=some s/\n∈s:=by
 obtain⟨s,b,c⟩:=aae.mp h;obtain⟨k,a⟩:=abN b;exact⟨k,s,a,c⟩
def adw {D:List (List Str)}:n∈(D.take k).flatten↔∃(j:Nat) (s:List Str),j<k/\D[j]?=some s/\n∈s:=by
 constructor
 ·intro h;obtain⟨j,s,e,a⟩:=gJ h;rw[List.getElem?_take] at e;split at e
  ·exact⟨j,s,by assumption,e,a⟩
  cases e
 rintro⟨j,s,b,e,a⟩;refine aae.mpr ⟨s,?_,a⟩;refine Zh (i:=j) ?_;rw[List.getElem?_take,if_pos b];exact e
def K9 (tk:List (Str × Int × List Str)) (s:List Str):ld tk s=cR tk s:=by
 have e:(tk.filter fun t=>dH false (.str t.1) (s.map T.str))=tk.filter fun t=>decide (t.1∈s):=aav fun t _=>Og;unfold ld cR;rw[e]
def GR (h:lkR ["with"] W a b):(a,b)∈W.orders\/∃p∈W.pairs,p.1="with"/\(p.2=(a,b)\/p.2=(b,a)):=by
 unfold lkR lkW at h;rcases F_.mp h with h | h
 ·exact .inl h
 obtain⟨p,d,c⟩:=List.mem_flatMap.mp h;unfold lkP at c;split at c
 ·rename_i e;refine .inr ⟨p,d,by simpa using e,?_⟩;simp only[n_,abm,L_,aaa] at c;rcases c with ⟨rfl,rfl⟩ | ⟨rfl,rfl⟩
  ·exact .inl rfl
  exact .inr rfl
 cases c
def Tg (h:(a,b)∈W.orders):lkR ["with"] W a b:=Zo _ h
def La (h:(("with":Str),a,b)∈W.pairs):lkR ["with"] W a b/\lkR ["with"] W b a:=by
 have:∀q,q∈lkP ["with"] ("with",a,b)->q∈lkW ["with"] W:=fun q c=>Zi _ (List.mem_flatMap.mpr ⟨_,h,c⟩);constructor
 ·exact this _ (by unfold lkP;simp)
 exact this _ (by unfold lkP;simp)
structure Rgt (W:Wk) (eG:Int) (D:List (List Str)) (f:Str->Nat):Prop where
 ord:∀o∈W.orders,f o.1<=f o.2
 pai:∀p∈W.pairs,f p.2.1=f p.2.2↔p.1="with"
 kin:∀k s,D[k]?=some s->∀t∈W.tasks,t.1∈s->kZ t.2.2 (W.row.getD k "")=true
 bea:∀s∈D,cR W.tasks s<=eG
def mZ (N:n7 W) (h:Dok W D):Rgt W eG D (fD D)↔acU W eG D:=by
 have u:∀{n:Str},n∈W.tasks.map (·.1)->∃s,D[fD D n]?=some s/\n∈s:=fun g=>by obtain⟨k,s,e,c⟩:=gJ (h.al _ g);rw[d7 h.nd e c];exact⟨s,e,c⟩
 constructor
 ·intro r k s e;have w:∀{a b:Str},RT (lkR ["with"] W) a b->fD D a<=fD D b:=fun z=>by
   induction z with
   |refl=>exact k_ _
   |step _ l ih =>
   refine P_ ih ?_;rcases GR l with o | ⟨p,m,v,e | e⟩
   ·exact r.ord _ o
   ·have:=(r.pai p m).mpr v;rw[e] at this;exact aaM this
   have:=(r.pai p m).mpr v;rw[e] at this;exact aaM this.symm
  refine⟨fun t i c=>?_,r.bea s (Zh e)⟩;have V:=d7 h.nd e c;refine⟨fun z=>?_,r.kin k s e t i c,fun x H=>?_,fun x H=>?_,fun x H L=>?_⟩
  ·obtain⟨j,s',Q,d,g⟩:=adw.mp z;have:=d7 h.nd d g;omega
  ·obtain⟨A,B⟩:=A_.mp H;rw[@q_ _ (Classical.propDecidable _)] at B;have C:=w B.1;have e2:=w B.2;obtain⟨s',d,g⟩:=u A;rw[show fD D x=k by omega,e] at d;cases d;exact g
  ·obtain⟨A,B⟩:=A_.mp H;rw[@q_ _ (Classical.propDecidable _)] at B;have C:=w B.1;obtain⟨s',d,g⟩:=u A;by_cases z:fD D x=k
   ·rw[z,e] at d;cases d;exact .inl g
   exact .inr (adw.mpr ⟨_,s',by omega,d,g⟩)
  obtain⟨p,m,rfl⟩:=u_.mp H;obtain⟨m,v⟩:=A_.mp m;rw[Zq,q_,q_] at v;have C:=(r.pai p m).mp (by rw[v.2,V,d7 h.nd e L]);rw[v.1] at C;exact absurd C (by decide)
 intro F;have fil:∀{t:Str × Int × List Str},t∈W.tasks->∃s,D[fD D t.1]?=some s/\t.1∈s/\Fil W eG (W.row.getD (fD D t.1) "") (D.take (fD D t.1)).flatten s:=fun i=>by obtain⟨s,e,c⟩:=u (u_.mpr ⟨_,i,rfl⟩);exact⟨s,e,c,F _ _ e⟩
 have w:∀{a b:Str},a∈W.tasks.map (·.1)->b∈W.tasks.map (·.1)->RT (lkR ["with"] W) a b->fD D a<=fD D b:=fun {a b} I Z z=>by
  obtain⟨t,i,rfl⟩:=u_.mp Z;obtain⟨s,e,c,f⟩:=fil i;obtain⟨_,_,Y,T,_⟩:=f.one t i c;by_cases y:RT (lkR ["with"] W) t.1 a
  ·have:=Y a (A_.mpr ⟨I,@N_ _ (Classical.propDecidable _) ⟨y,z⟩⟩);exact aaM (d7 h.nd e this)
  rcases T a (A_.mpr ⟨I,@N_ _ (Classical.propDecidable _) ⟨z,y⟩⟩) with q | q
  ·exact aaM (d7 h.nd e q)
  obtain⟨j,s',Q,d,g⟩:=adw.mp q;rw[d7 h.nd d g];omega
 refine⟨fun o M=>?_,fun p m=>?_,fun k s e t i c=>((F k s e).one t i c).2.1,fun s c=>?_⟩
 ·obtain⟨_,E,G⟩:=N.oo o M;exact w E G (.step .refl (Tg M))
 ·obtain⟨v,_,E,G⟩:=N.pp p m;constructor
  ·intro e;refine v.resolve_right fun I=>?_;obtain⟨t,i,O⟩:=u_.mp E;obtain⟨s,C,c,f⟩:=fil i;obtain⟨_,_,_,_,X⟩:=f.one t i c;refine X p.2.2 (u_.mpr ⟨p,A_.mpr ⟨m,by rw[Zq,q_,q_];exact⟨I,O.symm⟩⟩,rfl⟩) ?_;obtain⟨s',d,g⟩:=u G;have U:fD D p.2.2=fD D t.1:=by rw[O];exact e.symm
   rw[U,C] at d;cases d;exact g
  intro K;have J:(("with":Str),p.2.1,p.2.2)∈W.pairs:=by rw[<- K];exact m
  obtain⟨P,S⟩:=La J;exact Nat.le_antisymm (w E G (.step .refl P)) (w G E (.step .refl S))
 obtain⟨k,R⟩:=abN c;exact (F k s R).ld
def Lb:∀{D:List (List Str)},acU W eG D->(∀s∈D,s.Nodup/\∀n∈s,n∈W.tasks.map (·.1))->D.flatten.Nodup:=by
 intro D;induction hl:D.length generalizing D with
 |zero=>intro _ _;rw[abx.mp hl];exact aa_
 |succ m r =>
 intro F g;obtain⟨A,l,rfl⟩:∃A l,D=A++[l]:=by refine⟨D.dropLast,D.getLast (by intro z;rw[z] at hl;cases hl),(aa0 _).symm⟩
 have q:A.length=m:=by simp at hl;exact hl
 have o:acU W eG A:=fun k s e=>by
  have p:k<A.length:=by
   rcases abO k A.length with z | z
   ·exact z
   rw[O_ z] at e;cases e
  have:=F k s (by rw[Zx p];exact e)
  rwa [abz (by omega)] at this
 rw[aaD,List.flatten_singleton,aaU];have c:=g l (by simp);refine⟨r q o fun s h=>g s (Zo _ h),c.1,fun a j b d e=>?_⟩;subst e;obtain⟨t,i,rfl⟩:=u_.mp (c.2 a d);have f:=F A.length l (by rw[V_ (k_ _)];simp);rw[List.take_left' rfl] at f;exact (f.one t i d).1 j
def GX:∀{l:List Int},(∀x∈l,0<=x)->0<=l.sum
 |[],_=>Int.le_refl _
 |x::r,h=>by
  have b:=h x l_
  have c:=GX fun y a=>h y (o_ _ a)
  rw[ZZ]
  omega
def GZ {a:List Str} (h:k<a.length):atI (a.map T.str) (k:Int)=some (.str (a.getD k "")):=cG (by rw[x_,e_ h,i_,e_ h];rfl)
def pM:∀ns:List Str,pick ns 0=[]
 |[]=>rfl
 |n::r=>by
  have:=pM r
  unfold pick
  simpa using this
def yR:∀(ns:List Str) (b:Int),(pick ns b).Sublist ns
 |[],_=>List.Sublist.refl _
 |n::r,b=>by
  have:=yR r (b / 2)
  unfold pick
  split
  ·
   exact this.cons₂ n
  ·
   exact this.cons n
def jV (u:n7 W) (i:ns.Perm (W.tasks.map (·.1))) (v:m<=W.row.length) (w:∀n,f n<m):Dok W (acI ns f m):=by
 have d:∀x,x∈(acI ns f m).flatten↔x∈ns:=fun x=>by
  rw[aae];constructor
  ·rintro⟨s,h,c⟩;obtain⟨k,_,rfl⟩:=u_.mp h;exact (A_.mp c).1
  intro c;exact⟨_,u_.mpr ⟨f x,X_.mpr (w x),rfl⟩,A_.mpr ⟨c,N_ rfl⟩⟩
 refine⟨by rw[pL];exact v,fun x c=>i.mem_iff.mp ((d x).mp c),?_,fun x c=>(d x).mpr (i.mem_iff.mpr c)⟩;have A:=i.nodup_iff.mpr u.nd;unfold acI;have:∀l:List Nat,l.Nodup->((l.map fun k=>ns.filter fun n=>decide (f n=k)).flatten).Nodup:=by
  intro l;induction l with
  |nil=>intro _;exact aa_
  |cons k r z =>
  intro o;rw[ZJ] at o;rw[H_,aag,aaU];refine⟨List.filter_sublist.nodup A,z o.2,fun a t b g e=>?_⟩;subst e;obtain⟨s,h,g⟩:=aae.mp g;obtain⟨j,q,rfl⟩:=u_.mp h;have y:=aat (A_.mp t).2;have p:=aat (A_.mp g).2;exact o.1 (by rw[<- y,p];exact q)
 exact this _ List.nodup_range
def gre {b:Type}(a:b->b->Bool):List b->List b
 |[]=>[]
 |n::B=>if (gre a B).any (fun g=>a g n) then gre a B else gre a B++[n]
def qZ:∀(xs:List a),∀g∈gre b xs,g∈xs
 |[],g,h=>h
 |n::B,g,h=>by
  unfold gre at h
  split at h
  ·
   exact o_ _ (qZ B g h)
  ·
   rcases F_.mp h with h | h
   ·
    exact o_ _ (qZ B g h)
   ·
    rw[t_.mp h];exact l_
def yS {c:f->f->Bool} (i:∀a,c a a=true):∀(xs:List f),∀b∈xs,∃g∈gre c xs,c g b=true
 |n::B,b,h=>by
  unfold gre
  rcases n_.mp h with rfl | h
  ·
   split
   ·
    rename_i j
    obtain⟨g,d,e⟩:=aao.mp j
    exact⟨g,d,e⟩
   ·
    exact⟨b,by simp,i b⟩
  ·
   obtain⟨g,d,e⟩:=yS i B b h
   split
   ·
    exact⟨g,d,e⟩
   ·
    exact⟨g,Zo _ d,e⟩
def Be (m:Nat):List.range (m+m)=List.range m++(List.range m).map (·+m):=by
 rw[List.range_add];congr 1;exact aar fun a _=>Nat.add_comm _ _
def yU:∀(ws:List Str) (b:Int),(pick ws b).length<=ws.length
 |[],_=>k_ _
 |x::r,b=>by
  unfold pick
  have:=yU r (b / 2)
  split
  ·
   rw[p_,p_];omega
  ·
   rw[p_];omega
def bK (b a:Nat):Bool:=decide (Builtin.bitAnd (b:Int) (a:Int)=(a:Int))
def f9 (b a:Nat):bK b a=true↔b &&& a=a:=by
 unfold bK;rw[q_,qU];exact Int.ofNat_inj
def Bf (a:Nat):bK a a=true:=(f9 a a).mpr (Nat.and_self a)
def nm (W:Wk):List Str:=W.tasks.map (·.1)
def pk (W:Wk) (i:Nat):List Str:=pick (nm W) (i:Int)
def top2 (W:Wk):Nat:=2^W.tasks.length
def fP (W:Wk):(nm W).length=W.tasks.length:=d_ _
def dY (a:n7 W) (h:i<top2 W):bT (nm W) (pk W i)=i:=by
 have b:((i:Int))<2^(nm W).length:=by
  have e:((2^W.tasks.length:Nat):Int)=(2:Int)^W.tasks.length:=by push_cast;rfl
  rw[fP,<- e];exact Int.ofNat_lt.mpr h
 have:=Gy (ns:=nm W) a.nd (abD i) b;rw[cH] at this;exact Int.ofNat.inj this
def lK (A:List Str):bT (nm W) A<top2 W:=by
 have:=uD (nm W) A;rw[cH,fP] at this;have e:((2^W.tasks.length:Nat):Int)=(2:Int)^W.tasks.length:=by push_cast;rfl
 rw[<- e] at this;exact Int.ofNat_lt.mp this
def Oh (a:n7 W) (A:List Str):pk W (bT (nm W) A)=(nm W).filter fun x=>decide (x∈A):=by
 unfold pk;rw[<- cH];exact uE _ _ a.nd
def jW (a:n7 W):x∈pk W (bT (nm W) A)↔x∈nm W/\x∈A:=by
 rw[Oh a,A_,q_]
def il (h:x∈pk W i):x∈nm W:=jD _ _ x h
def Xa (a:n7 W) (i:Nat):(pk W i).Nodup:=(yR _ _).nodup a.nd
def gK:∀(ns A B:List Str),(∀x∈ns,x∈B↔x∉A)->bT ns A+bT ns B+1=2^ns.length
 |[],_,_,_=>rfl
 |x::r,A,B,h=>by
  have d:=gK r A B fun y c=>h y (o_ _ c)
  have b:=h x l_
  simp only[bT,p_,Nat.pow_succ]
  by_cases a:x∈A
  ·
   rw[if_pos a,if_neg (fun z=>b.mp z a)];omega
  ·
   rw[if_neg a,if_pos (b.mpr a)];omega
def ir:∀(ns A B:List Str),(∀x∈ns,¬(x∈A/\x∈B))->bT ns A+bT ns B=bT ns (A++B)
 |[],_,_,_=>rfl
 |x::r,A,B,h=>by
  have e:=ir r A B fun y c=>h y (o_ _ c)
  have d:=h x l_
  simp only[bT,F_]
  by_cases a:x∈A
  ·
   have b:x∉B:=fun z=>d ⟨a,z⟩
   simp only[a,b,if_true,Zv,aaa];omega
  ·
   by_cases b:x∈B
   ·
    simp only[a,b,if_true,Zv,or_true];omega
   ·
    simp only[a,b,Zv,or_self];omega
def uG:bK (bT (nm W) A) (bT (nm W) B)=true↔∀x∈nm W,x∈B->x∈A:=by
 unfold bK;rw[q_,<- cH,<- cH];exact fJ _ _ _
def uH (N:Nat):List Nat:=(List.range (N+1)).filter (bK N)
def Ld (h:bK N i=true):i<=N:=by
 have:=(f9 N i).mp h;have:=Nat.and_le_left (n:=N) (m:=i);omega
def yV (h:N<M):(List.range M).filter (bK N)=uH N:=by
 obtain⟨k,rfl⟩:∃k,M=(N+1)+k:=⟨M - (N+1),by omega⟩;unfold uH;rw[List.range_add,aal];have:((List.range k).map fun x=>N+1+x).filter (bK N)=[]:=by rw[List.filter_eq_nil_iff];intro a b;obtain⟨x,_,rfl⟩:=u_.mp b;intro z;have:=Ld z;omega
 rw[this,W_]
def uI (d:i<2^k):bK N (i+2^k)=(bK N (2^k)&&bK N i):=by
 have a:i+2^k=2^k ||| i:=by have:=Nat.two_pow_add_eq_or_of_lt d 1;rw[Nat.mul_one] at this;omega
 rw[Zn,Zq,f9,f9,f9,a];constructor
 ·intro h;have c:∀j,(N &&& (2^k ||| i)).testBit j=(2^k ||| i).testBit j:=fun j=>by rw[h]
  refine⟨Nat.eq_of_testBit_eq fun j=>?_,Nat.eq_of_testBit_eq fun j=>?_⟩
  ·have:=c j;rw[Nat.testBit_and,Nat.testBit_or] at this;rw[Nat.testBit_and];cases b:(2^k).testBit j <;> simp_all
  have:=c j;rw[Nat.testBit_and,Nat.testBit_or] at this;rw[Nat.testBit_and];cases b:i.testBit j <;> simp_all
 rintro⟨b,e⟩;rw[Nat.and_or_distrib_left,b,e]
def G4:(List.range (2^(k+1))).filter (bK N)=(List.range (2^k)).filter (bK N)++if bK N (2^k)=true then ((List.range (2^k)).filter (bK N)).map (·+2^k) else []:=by
 rw[show 2^(k+1)=2^k+2^k by rw[Nat.pow_succ];omega,Be,aal];congr 1;rw[List.filter_map];by_cases h:bK N (2^k)=true
 ·rw[if_pos h];congr 1;refine aav fun i a=>?_;show bK N (i+2^k)=bK N i;rw[uI (X_.mp a),h,ab6]
 rw[if_neg h,List.filter_eq_nil_iff.mpr,aaB];intro i a;show ¬bK N (i+2^k)=true;rw[uI (X_.mp a),Zq];exact fun z=>h z.1
def fil (W:Wk) (eG:Int) (k d i:Nat):Bool:=wZ W eG (W.row.getD k "") (pk W d) (pk W i)
def fls (W:Wk) (eG:Int) (k d:Nat):List Nat:=(List.range (top2 W)).filter (fil W eG k d)
def acA:i∈fls W eG k d↔i<top2 W/\Fil W eG (W.row.getD k "") (pk W d) (pk W i):=by
 unfold fls;rw[A_,X_];unfold fil;rw[ad5]
def Fil.apart (f:Fil W eG a D S) (c:x∈nm W) (b:x∈S):x∉D:=by
 obtain⟨t,d,rfl⟩:=u_.mp c;exact (f.one t d b).1
def Bg (c:n7 W) (m:d<top2 W):(uH (top2 W - 1 - d)).filter (fil W eG k d)=fls W eG k d:=by
 have l:top2 W - 1 - d<top2 W:=by omega
 rw[<- yV l];unfold fls;rw[List.filter_filter];refine aav fun i e=>?_;have b:=X_.mp e;cases h:fil W eG k d i with
 |false=>rfl
 |true =>
 rw[ab6];have f:Fil W eG (W.row.getD k "") (pk W d) (pk W i):=ad5.mp h;have j:top2 W - 1 - d=bT (nm W) ((nm W).filter fun x=>decide (x∉pk W d)):=by
  have:=gK (nm W) (pk W d) ((nm W).filter fun x=>decide (x∉pk W d)) fun x a=>by rw[A_,q_];exact⟨fun z=>z.2,fun z=>⟨a,z⟩⟩
  rw[dY c m,fP] at this;unfold top2;omega
 rw[j,show i=bT (nm W) (pk W i) from (dY c b).symm];rw[uG];intro x a g;rw[A_,q_];exact⟨a,f.apart a g⟩
inductive Frw (W:Wk) (eG:Int):List Nat->Nat->Prop
 |nil:Frw W eG [] 0
 |snoc {fs:List Nat} {d f:Nat}:Frw W eG fs d->fs.length<W.row.length->f∈fls W eG fs.length d->Frw W eG (fs++[f]) (d+f)
def Le (W:Wk):pk W 0=[]:=pM _
def Frw.ok (c:n7 W) (r:Frw W eG fs d):d<top2 W/\fs.length<=W.row.length/\(∀x,x∈pk W d↔x∈(fs.map (pk W)).flatten)/\acU W eG (fs.map (pk W))/\∀f∈fs,f<top2 W:=by
 induction r with
 |nil=>exact⟨Nat.pow_pos (by decide),ZS _,fun x=>by rw[Le];rfl,acU.nil,fun _ h=>(nomatch h)⟩
 |@snoc fs d f r k n o =>
 obtain⟨p,_,i,l,j⟩:=o;obtain⟨b,F⟩:=acA.mp n;have e:d+f=bT (nm W) (pk W d++pk W f):=by rw[<- ir _ _ _ fun x m z=>F.apart m z.2 z.1,dY c p,dY c b]
 refine⟨by rw[e];exact lK _,by rw[g_];exact k,fun x=>?_,?_,fun g a=>?_⟩
 ·rw[e,jW c,y_,aaD,F_,F_,<- i x];simp only[H_,aaB,aag,List.flatten_nil,W_];exact⟨fun z=>z.2,fun z=>⟨z.elim il il,z⟩⟩
 ·rw[y_];refine l.snoc ?_;rw[d_];exact F.congr i fun x=>Iff.rfl
 rcases F_.mp a with a | a
 ·exact j g a
 rw[t_.mp a];exact b
def Frw.of (g:n7 W):∀{D:List (List Str)},D.length<=W.row.length->(∀s∈D,∀n∈s,n∈nm W)->acU W eG D->Frw W eG (D.map (bT (nm W))) (bT (nm W) D.flatten):=by
 intro D;induction hl:D.length generalizing D with
 |zero=>intro _ _ _;rw[abx.mp hl,aaB,List.flatten_nil,ik];exact .nil
 |succ m q =>
 intro t a F;obtain⟨A,l,rfl⟩:∃A l,D=A++[l]:=⟨D.dropLast,D.getLast (by intro z;rw[z] at hl;cases hl),(aa0 _).symm⟩;have o:A.length=m:=by simp at hl;exact hl
 have i:acU W eG A:=fun k s e=>by
  have j:k<A.length:=by
   rcases abO k A.length with z | z
   ·exact z
   rw[O_ z] at e;cases e
  have:=F k s (by rw[Zx j];exact e)
  rwa [abz (by omega)] at this
 have r:=q o (by omega) (fun s h=>a s (Zo _ h)) i;have f:=F A.length l (by rw[V_ (k_ _)];simp);rw[List.take_left' rfl] at f;have b:=a l (by simp);have c:∀n∈A.flatten,n∈nm W:=fun n d=>by obtain⟨s,h,d⟩:=aae.mp d;exact a s (Zo _ h) n d
 have:=Frw.snoc r (by rw[d_];omega) (f:=bT (nm W) l) (acA.mpr ⟨lK _,by
  rw[d_]
  exact f.congr (fun x=>by rw[jW g];exact⟨fun z=>⟨c x z,z⟩,fun z=>z.2⟩) fun x=>by rw[jW g];exact⟨fun z=>⟨b x z,z⟩,fun z=>z.2⟩⟩)
 rw[ir _ _ _ fun x p z=>f.apart p z.2 z.1] at this;rw[y_,aaD];simpa using this
def pN (b:n7 W):∀x∈nm W,x∈pk W (top2 W - 1):=fun x a=>by
 have d:bT (nm W) (nm W)=top2 W - 1:=by
  have:=gK (nm W) (nm W) [] fun y c=>by simp [c]
  rw[ik,fP] at this;unfold top2;omega
 rw[<- d,jW b];exact⟨a,a⟩
def jX (h:∀x∈nm W,x∈A):bT (nm W) A=top2 W - 1:=by
 have:=gK (nm W) A [] fun y a=>by simp [h y a]
 rw[ik,fP] at this;unfold top2;omega
def Frw.dok (b:n7 W) (r:Frw W eG fs (top2 W - 1)):Dok W (fs.map (pk W))/\acU W eG (fs.map (pk W)):=by
 obtain⟨_,e,g,d,_⟩:=r.ok b;have c:∀s∈fs.map (pk W),s.Nodup/\∀n∈s,n∈W.tasks.map (·.1):=fun s h=>by obtain⟨i,_,rfl⟩:=u_.mp h;exact⟨Xa b i,fun n a=>il a⟩
 refine⟨⟨by rw[d_];exact e,fun x f=>?_,Lb d c,fun n a=>(g n).mp (pN b n a)⟩,d⟩;obtain⟨s,h,a⟩:=aae.mp f;exact (c s h).2 x a
def Frw.ofD (a:n7 W) (h:Dok W D) (F:acU W eG D):Frw W eG (D.map (bT (nm W))) (top2 W - 1):=by
 have:=Frw.of a h.rw (fun s b=>(h.in b).2) F
 rwa [jX h.al] at this
def bD (i:Nat):T:=.int (i:Int)
def wkF (W:Wk) (eG:Int) (p:Addr):List (Str × T):=[("works",W.enc),("beat",.int eG),("rules",.ref p),("whole",.int ((top2 W:Int) - 1))]
structure Wlk (C:Addr) (W:Wk) (eG:Int) (H:gb) (a:Addr):Prop where
 ex:∃p,H a=some (.ins C (wkF W eG p))/\H p=some (.lst (W.tasks.map (ruT W (W.tasks.map (·.1)))))
def Wlk.sub (h:Wlk C W eG H a) (s:eH H H'):Wlk C W eG H' a:=by
 obtain⟨p,b,c⟩:=h.ex;exact⟨p,s _ _ b,s _ _ c⟩
def uJ:aN "works" (wkF W eG p)=some W.enc:=rfl
def Lf:aN "beat" (wkF W eG p)=some (.int eG):=by unfold wkF aN;rw[if_neg (by decide +kernel)];unfold aN;rw[if_pos rfl]
def G5:aN "rules" (wkF W eG p)=some (.ref p):=by unfold wkF aN;rw[if_neg (by decide +kernel)];unfold aN;rw[if_neg (by decide +kernel)];unfold aN;rw[if_pos rfl]
def uK:aN "whole" (wkF W eG p)=some (.int ((top2 W:Int) - 1)):=by unfold wkF aN;rw[if_neg (by decide +kernel)];unfold aN;rw[if_neg (by decide +kernel)];unfold aN;rw[if_neg (by decide +kernel)];unfold aN;rw[if_pos rfl]
def G6 (h:m∉(["works","beat","rules","whole"]:List Str)):aN m (wkF W eG p)=none:=by
 simp only[n_,L_,aaa,not_or] at h;unfold wkF;simp only[aN];rw[if_neg (Ne.symm h.1),if_neg (Ne.symm h.2.1),if_neg (Ne.symm h.2.2.1),if_neg (Ne.symm h.2.2.2)]
def Xb (a:n7 W) (h:i<top2 W):numOf (W.tasks.map (·.1)) (pk W i)=(i:Int):=by
 rw[cH];exact Zk Int.ofNat (dY a h)
def q8 (a:n7 W):top2 W<=256:=Nat.pow_le_pow_right (n:=2) (by decide) a.t8
def m5 (W:Wk):0<top2 W:=Nat.pow_pos (by decide)
def Oi:Sp3:=fun ts H Q=>∃N:Nat,ts=[.int (N:Int)]/\N<256/\∀p,H p=none->Q (.ref p) (fY H p (.lst ((uH N).map bD)))
def Xc (C:Addr):Sp3:=fun ts H Q=>∃(a:Addr) (W:Wk) (eG:Int),ts=[.ref a,W.enc,.int eG]/\n7 W/\H a=some (.ins C [])/\∀H',(∀b o,b≠a->H b=some o->H' b=some o)->Wlk C W eG H' a->Q .non H'
def Xd (C:Addr):Sp3:=fun ts H Q=>∃(a:Addr) (W:Wk) (eG:Int) (k d:Nat),ts=[.ref a,.int (k:Int),.int (d:Int)]/\n7 W/\Wlk C W eG H a/\k<W.row.length/\d<top2 W/\∀p,H p=none->Q (.ref p) (fY H p (.lst ((fls W eG k d).map bD)))
def Xe (C:Addr):Sp3:=fun ts H Q=>∃(a:Addr) (W:Wk) (eG:Int) (fs:List Nat),ts=[.ref a,.tup (fs.map bD)]/\n7 W/\Wlk C W eG H a/\fs.length<=8/\(∀f∈fs,f<top2 W)/\Q (.tup ((fs.map (pk W)).map sT)) H
section
variable {α:Type}
def cT (k:Nat):List (Nat × α)->Option α
 |[]=>none
 | (k',v)::r=>if k'=k then some v else cT k r
def putN (k:Nat) (v:α) (E:List (Nat × α)):List (Nat × α) :=
 if (E.any fun e=>decide (e.1=k))=true then E.map (fun e=>if e.1=k then (e.1,v) else e) else E++[(k,v)]
def dI (a:α->T) (E:List (Nat × α)):List (Int × T):=E.map fun e=>((e.1:Int),a e.2)
def Th (a:α->T) (E:List (Nat × α)):(dI a E).length=E.length:=d_ _
def q9 (a:α->T) (k:Nat):∀E:List (Nat × α),cY (k:Int) (dI a E)=(cT k E).map a
 |[]=>rfl
 | (k',v)::r=>by
  have b:=q9 a k r
  unfold dI at b ⊢
  rw[H_]
  unfold cY cT
  by_cases h:k'=k
  ·
   rw[if_pos h,if_pos (show ((k':Nat):Int)=(k:Int) by rw[h])];rfl
  ·
   rw[if_neg h,if_neg (show ¬((k':Nat):Int)=(k:Int) by omega),b]
def Ti (a:α->T) (k:Nat) (v:α) (E:List (Nat × α)):wF (k:Int) (a v) (dI a E)=dI a (putN k v E):=by
 have c:((dI a E).any fun b=>decide (b.1=(k:Int)))=E.any fun e=>decide (e.1=k):=by unfold dI;rw[List.any_map];congr 1;funext e;show decide ((e.1:Int)=(k:Int))=decide (e.1=k);rw[aaK];omega
 unfold wF putN;rw[c];split
 ·unfold dI;rw[U_,U_];refine aar fun e _=>?_;show (if (e.1:Int)=(k:Int) then ((e.1:Int),a v) else ((e.1:Int),a e.2))=_;show _=((((if e.1=k then (e.1,v) else e).1:Nat):Int),a (if e.1=k then (e.1,v) else e).2);by_cases h:e.1=k
  ·rw[if_pos h,if_pos (by rw[h])]
  rw[if_neg h,if_neg (by omega)]
 unfold dI;rw[y_];rfl
def gh:∀{E:List (Nat × α)},cT k E=some v->(k,v)∈E
 | (k',v')::r,h=>by
  unfold cT at h
  by_cases e:k'=k
  ·
   rw[if_pos e] at h;cases h;subst e;exact l_
  ·
   rw[if_neg e] at h;exact o_ _ (gh h)
def m6:∀{E:List (Nat × α)},cT k E=none->∀e∈E,e.1≠k
 | (k',v')::r,h,e,a=>by
  unfold cT at h
  by_cases z:k'=k
  ·
   rw[if_pos z] at h;cases h
  ·
   rw[if_neg z] at h
   rcases n_.mp a with rfl | a
   ·
    exact z
   ·
    exact m6 h e a
def Bh (k:Nat) (v:α) (E:List (Nat × α)):(putN k v E).map (·.1)=if k∈E.map (·.1) then E.map (·.1) else E.map (·.1)++[k]:=by
 have a:(E.any fun e=>decide (e.1=k))=decide (k∈E.map (·.1)):=by rw[Zn,aao,q_,u_];exact⟨fun ⟨e,h,z⟩=>⟨e,h,aat z⟩,fun ⟨e,h,z⟩=>⟨e,h,N_ z⟩⟩
 unfold putN;rw[a];by_cases h:k∈E.map (·.1)
 ·rw[if_pos h,if_pos (N_ h),U_];refine aar fun e _=>?_;show (if e.1=k then (e.1,v) else e).1=e.1;split <;> rfl
 rw[if_neg h,if_neg (qF h),y_];rfl
def uL {e:Nat × α} (h:e∈putN k v E):e=(k,v)\/(e∈E/\e.1≠k)\/(e∈E/\k∉E.map (·.1)):=by
 unfold putN at h;split at h
 ·obtain⟨x,a,rfl⟩:=u_.mp h;by_cases z:x.1=k
  ·rw[if_pos z,z];exact .inl rfl
  rw[if_neg z];exact .inr (.inl ⟨a,z⟩)
 rename_i b;rcases F_.mp h with h | h
 ·refine .inr (.inr ⟨h,fun z=>b ?_⟩);obtain⟨x,a,e⟩:=u_.mp z;exact aao.mpr ⟨x,a,N_ e⟩
 exact .inl (t_.mp h)
def G7 (k:Nat) (v:α) (E:List (Nat × α)):(k,v)∈putN k v E:=by
 unfold putN;split
 ·rename_i h;obtain⟨x,a,e⟩:=aao.mp h;refine u_.mpr ⟨x,a,?_⟩;have:=aat e;rw[if_pos this,this]
 exact Zi _ (t_.mpr rfl)
def G8 {e:Nat × α} (h:e∈E) (a:e.1≠k):e∈putN k v E:=by
 unfold putN;split
 ·exact u_.mpr ⟨e,h,if_neg a⟩
 exact Zo _ h
def yW {E:List (Nat × α)} (h:(E.map (·.1)).Nodup):((putN k v E).map (·.1)).Nodup:=by
 rw[Bh];split
 ·exact h
 rename_i z;exact gB h z
def yX:∀{E:List (Nat × α)},(E.map (·.1)).Nodup->(k,v)∈E->cT k E=some v
 | (k',v')::r,nd,h=>by
  rw[H_,ZJ] at nd
  unfold cT
  rcases n_.mp h with e | h
  ·
   cases e;rw[if_pos rfl]
  ·
   rw[if_neg (fun z=>nd.1 (by rw[z];exact u_.mpr ⟨_,h,rfl⟩))]
   exact yX nd.2 h
end
abbrev Ev:=List (Nat × Int × List Nat)
def ldN (W:Wk) (i:Nat):Int:=cR W.tasks (pk W i)
def stp (W:Wk) (d:Nat) (v:Int × List Nat) (B:Ev) (f:Nat):Ev:=match cT (d+f) B with
 |none=>putN (d+f) (v.1+ldN W f^2,v.2++[f]) B
 |some u=>if v.1+ldN W f^2<u.1 then putN (d+f) (v.1+ldN W f^2,v.2++[f]) B else B
def Frw.inv (r:Frw W eG b d) (a:b.length=k+1):∃fs d' f,b=fs++[f]/\d=d'+f/\Frw W eG fs d'/\fs.length=k/\f∈fls W eG k d':=by
 cases r with
 |nil=>cases a
 |@snoc fs d' f r e c =>
  have:fs.length=k:=by rw[g_] at a;simp at a;exact a
  exact⟨fs,d',f,rfl,rfl,r,this,by rw[<- this];exact c⟩
def Frw.nil0 (r:Frw W eG a d) (h:a=[]):d=0:=by
 cases r with
 |nil=>rfl
 |@snoc fs d' f r c b=>exact absurd h (by simp)
def Lg (b:n7 W) (h:d<top2 W) (g:f∈fls W eG k d):d+f<top2 W:=by
 obtain⟨a,F⟩:=acA.mp g;have e:d+f=bT (nm W) (pk W d++pk W f):=by rw[<- ir _ _ _ fun x c z=>F.apart c z.2 z.1,dY b h,dY b a]
 rw[e];exact lK _
def Wlk.frz {W:Wk}{eG:Int}{H:gb}{a q:Addr}{o:O3}{E:List (Int × T)} (h:Wlk C W eG H a) (c:H q=some (.dci E)):Wlk C W eG (fY H q o) a:=by
 obtain⟨p,d,b⟩:=h.ex;exact⟨p,by rw[aF (ne3 d c (by simp))];exact d,by rw[aF (ne3 b c (by simp))];exact b⟩
def Kb1 (a:Addr) (H H':gb):Prop:=∀b u,b≠a->H b=some u->H' b=some u
def Kb1.new (k:Kb1 c H H') (d:H' p=none):Kb1 c H (fY H' p o):=fun b u a h=>by rw[aF (bz (k b u a h) d)];exact k b u a h
def Kb1.put (k:Kb1 a H H'):Kb1 a H (fY H' a o):=fun b u c h=>by rw[aF c];exact k b u c h
def Kb1.wlk (k:Kb1 c H H') (b:H c=none) (h:Wlk C W eG H a):Wlk C W eG H' a:=by
 obtain⟨p,e,d⟩:=h.ex;exact⟨p,k _ _ (bz e b) e,k _ _ (bz d b) d⟩
structure Hol (W:Wk) (f:Str->Nat):Prop where
 ord:∀o∈W.orders,f o.1<=f o.2
 pai:∀p∈W.pairs,f p.2.1=f p.2.2↔p.1="with"
 kin:∀t∈W.tasks,kZ t.2.2 (W.row.getD (f t.1) "")=true
def Hol.congr (b:n7 W) (h:Hol W f) (e:∀n∈nm W,f n=g n):Hol W g :=
 ⟨fun o c=>by
  have q:=b.oo o c
  rw[<- e _ q.2.1,<- e _ q.2.2];exact h.ord o c,fun p a=>by
  have q:=b.pp p a
  rw[<- e _ q.2.2.1,<- e _ q.2.2.2];exact h.pai p a,fun t d=>by
  rw[<- e _ (u_.mpr ⟨t,d,rfl⟩)];exact h.kin t d⟩
def ldF (ts:List (Str × Int × List Str)) (f:Str->Nat) (k:Nat):Int:=((ts.filter fun t=>decide (f t.1=k)).map (·.2.1)).sum
def lds (W:Wk) (f:Str->Nat) (m:Nat):List Int:=(List.range m).map (ldF W.tasks f)
def Bj (e:∀t∈ts,f t.1=g t.1) (k:Nat):ldF ts f k=ldF ts g k:=by
 have:(ts.filter fun t=>decide (f t.1=k))=ts.filter fun t=>decide (g t.1=k):=aav fun t a=>by rw[e t a]
 unfold ldF;rw[this]
def pQ (e:∀n∈nm W,f n=g n) (m:Nat):lds W f m=lds W g m :=
 aar fun k _=>Bj (fun t a=>e _ (u_.mpr ⟨t,a,rfl⟩)) k
def uM (A:List (Str × Int × List Str)) (t:Str × Int × List Str) (f:Str->Nat) (k:Nat):ldF (A++[t]) f k=ldF A f k+if f t.1=k then t.2.1 else 0:=by
 unfold ldF;rw[aal,y_,List.sum_append];by_cases h:f t.1=k <;> simp [h]
def Lh (h:f t.1<m):((List.range m).map (ldF A f)).set (f t.1) (ldF A f (f t.1)+t.2.1)=(List.range m).map (ldF (A++[t]) f):=by
 apply abh;intro i;by_cases a:i<m
 ·rw[x_,Zy a];by_cases e:i=f t.1
  ·subst e;rw[aa2 (by rw[d_,z_];exact a),abd,uM,if_pos rfl]
  rw[abe (Ne.symm e),x_,Zy a,abd,abd,uM,if_neg (Ne.symm e),Int.add_zero]
 rw[O_ (by rw[List.length_set,d_,z_];omega),O_ (by rw[d_,z_];omega)]
def G9 (a:k<m):(acI ns f m)[k]?=some (ns.filter fun n=>decide (f n=k)):=by
 unfold acI;rw[x_,Zy a];rfl
def Ha (c:n7 W) (b:m<=W.row.length) (a:∀n,f n<m):∀n∈nm W,fD (acI (nm W) f m) n=f n:=fun n d =>
 d7 (jV c (List.Perm.refl _) b a).nd (G9 (a n)) (A_.mpr ⟨d,N_ rfl⟩)
def m7:cR W.tasks ((nm W).filter fun n=>decide (f n=k))=ldF W.tasks f k:=by
 have e:(W.tasks.filter fun t=>decide (t.1∈(nm W).filter fun n=>decide (f n=k)))=W.tasks.filter fun t=>decide (f t.1=k):=aav fun t a=>by rw[aaK,A_,q_];exact⟨fun z=>z.2,fun z=>⟨u_.mpr ⟨t,a,rfl⟩,z⟩⟩
 unfold cR ldF;rw[e]
def Hf (a:n7 W) (j:m<=W.row.length) (o:∀n,f n<m) (h:Hol W f) (q:∀l∈lds W f m,l<=eG):acU W eG (acI (nm W) f m):=by
 have d:Dok W (acI (nm W) f m):=jV (W:=W) a (List.Perm.refl _) j o;have e:=Ha a j o;have c:=h.congr a (g:=fD (acI (nm W) f m)) fun n u=>(e n u).symm;refine (mZ a d).mp ⟨c.ord,c.pai,fun k s i t p b=>?_,fun s b=>?_⟩
 ·have:=d7 d.nd i b;have:=c.kin t p
  rwa [d7 d.nd i b] at this
 obtain⟨k,r,rfl⟩:=u_.mp b;show cR W.tasks ((nm W).filter fun n=>decide (f n=k))<=eG
 rw[m7];exact q _ (u_.mpr ⟨k,r,rfl⟩)
def gfl (W:Wk) (eG:Int) (k d:Nat):List Nat:=(gre bK (fls W eG k d)).reverse
def rm (h:f∈gfl W eG k d):f∈fls W eG k d:=qZ _ _ (aaz.mp h)
def Li (h:f∈fls W eG k d):∃g∈gfl W eG k d,bK g f=true:=by
 obtain⟨g,a,e⟩:=yS Bf _ f h;exact⟨g,aaz.mpr a,e⟩
def Hg (h:x∈bY W t) (a:t∈nm W):t∈bY W x:=by
 unfold bY at h ⊢;rw[A_,@q_ _ (Classical.propDecidable _)] at h ⊢;exact⟨a,h.2.2,h.2.1⟩
def Frw.grp (i:n7 W) (r:Frw W eG fs d) (b:t∈pk W d) (l:x∈bY W t):x∈pk W d:=by
 obtain⟨_,_,e,k,_⟩:=r.ok i;obtain⟨s,c,a⟩:=aae.mp ((e t).mp b);obtain⟨j,h⟩:=abN c;obtain⟨u,m,g⟩:=u_.mp (il b);have f:=(k j s h).one u m (by rw[g];exact a);exact (e x).mpr (aae.mpr ⟨s,c,f.2.2.1 x (by rw[g];exact l)⟩)
def m9 (d:∀t∈ts,0<=t.2.1) (h:∀x∈a,x∈S):cR ts a<=cR ts S:=by
 unfold cR;induction ts with
 |nil=>exact Int.le_refl _
 |cons t r e =>
  have i:=e fun u f=>d u (o_ _ f)
  have g:=d t l_
  rw[aa5,aa5]
  by_cases b:t.1∈a
  ·
   rw[if_pos (N_ b),if_pos (N_ (h _ b)),H_,H_,ZZ,ZZ]
   omega
  ·
   rw[if_neg (qF b)]
   by_cases c:t.1∈S
   ·
    rw[if_pos (N_ c),H_,ZZ];omega
   ·
    rw[if_neg (qF c)];exact i
def Fil.more (j:n7 W) (f:Fil W eG a D S) (k:∀x∈D,x∈c) (h:∀t x,t∈c->x∈bY W t->x∈c):Fil W eG a c (S.filter fun x=>decide (x∉c)) :=
 ⟨fun t d e=>by
  rw[A_,q_] at e
  obtain⟨n,l,m,g,i⟩:=f.one t d e.1
  refine⟨e.2,l,fun x b=>?_,fun x b=>?_,fun x b z=>i x b (A_.mp z).1⟩
  ·
   rw[A_,q_]
   exact⟨m x b,fun z=>e.2 (h x t.1 z (Hg b (u_.mpr ⟨t,d,rfl⟩)))⟩
  ·
   by_cases z:x∈c
   ·
    exact .inr z
   ·
    exact .inl (A_.mpr ⟨(g x b).resolve_right fun q=>z (k x q),N_ z⟩),
  Int.le_trans (m9 (fun t d=>by have:=(j.tk t d).lo;omega) fun x b=>(A_.mp b).1) f.ld⟩
abbrev Wy:=List (Nat × List Nat)
def iV (d:Nat) (v:List Nat) (B:Wy) (f:Nat):Wy:=match cT (d+f) B with
 |none=>putN (d+f) (v++[f]) B
 |some _=>B
def wbh (W:Wk) (eG:Int) (k:Nat) (E:Wy):Wy:=E.foldl (fun B e=>(gfl W eG k e.1).foldl (iV e.1 e.2) B) []
def wys (W:Wk) (eG:Int):Nat->Wy
 |0=>[(0,[])]
 |k+1=>wbh W eG k (wys W eG k)
structure Wtb (W:Wk) (eG:Int) (k:Nat) (E:Wy):Prop where
 nd:(E.map (·.1)).Nodup
 ok:∀e∈E,Frw W eG e.2 e.1/\e.2.length=k
 al:∀fs d,Frw W eG fs d->fs.length=k->∃e∈E,∀x∈pk W d,x∈pk W e.1
structure WtI (W:Wk) (eG:Int) (k:Nat) (sub:Nat->Nat->Prop) (B:Wy):Prop where
 nd:(B.map (·.1)).Nodup
 ok:∀e∈B,Frw W eG e.2 e.1/\e.2.length=k+1
 al:∀d f,sub d f->∃e∈B,e.1=d+f
def WtI.step (h:WtI W eG k sub B) (m:Frw W eG v d) (i:v.length=k) (n:k<W.row.length) (j:f∈fls W eG k d):
  WtI W eG k (fun d' c=>sub d' c\/(d'=d/\c=f)) (iV d v B f):=by
 have g:Frw W eG (v++[f]) (d+f)/\(v++[f]).length=k+1 :=
  ⟨.snoc m (by omega) (by rw[i];exact j),by rw[g_,i];rfl⟩
 unfold iV;cases e:cT (d+f) B with
 |none =>
  refine⟨yW h.nd,fun x a=>?_,fun d' c b=>?_⟩
  ·rcases uL a with rfl | ⟨a,_⟩ | ⟨a,_⟩
   ·exact g
   ·exact h.ok x a
   exact h.ok x a
  rcases b with b | ⟨rfl,rfl⟩
  ·obtain⟨x,a,l⟩:=h.al d' c b;exact⟨x,G8 a (m6 e x a),l⟩
  exact⟨_,G7 _ _ _,rfl⟩
 |some u =>
 refine⟨h.nd,h.ok,fun d' c b=>?_⟩;rcases b with b | ⟨rfl,rfl⟩
 ·exact h.al d' c b
 exact⟨_,gh e,rfl⟩
def WtI.inner (p:Frw W eG v d) (n:v.length=k) (m:k<W.row.length):
  ∀{xs:List Nat},(∀f∈xs,f∈fls W eG k d)->WtI W eG k sub B->WtI W eG k (fun d' a=>sub d' a\/(d'=d/\a∈xs)) (xs.foldl (iV d v) B):=by
 intro xs;induction xs generalizing sub B with
 |nil=>intro _ h;exact⟨h.nd,h.ok,fun d' a c=>h.al d' a (c.resolve_right fun z=>nomatch z.2)⟩
 |cons f r o =>
 intro i h;have e:=o (fun g l=>i g (o_ _ l)) (h.step p n m (i f l_));refine⟨e.nd,e.ok,fun d' a c=>e.al d' a ?_⟩;rcases c with c | ⟨j,b⟩
 ·exact .inl (.inl c)
 rcases n_.mp b with b | b
 ·exact .inl (.inr ⟨j,b⟩)
 exact .inr ⟨j,b⟩
def WtI.outer (g:k<W.row.length):∀{xs:Wy}{sub:Nat->Nat->Prop}{B:Wy},(∀e∈xs,Frw W eG e.2 e.1/\e.2.length=k)->WtI W eG k sub B ->
  WtI W eG k (fun d f=>sub d f\/((∃v,(d,v)∈xs)/\f∈gfl W eG k d)) (xs.foldl (fun B e=>(gfl W eG k e.1).foldl (iV e.1 e.2) B) B)
 |[],_,_,_,h=>⟨h.nd,h.ok,fun d f a=>h.al d f (a.resolve_right fun z=>z.1.elim fun _ q=>nomatch q)⟩
 |e::r,sub,B,hx,h=>by
  obtain⟨m,i⟩:=hx e l_
  have q:=WtI.outer g (xs:=r) (fun x b=>hx x (o_ _ b)) (WtI.inner (xs:=gfl W eG k e.1) m i g (fun f j=>rm j) h)
  refine⟨q.nd,q.ok,fun d f a=>q.al d f ?_⟩
  rcases a with a | ⟨⟨v,l⟩,c⟩
  ·
   exact .inl (.inl a)
  ·
   rcases n_.mp l with z | z
   ·
    rw[<- z] at *
    exact .inl (.inr ⟨rfl,c⟩)
   ·
    exact .inr ⟨⟨v,z⟩,c⟩
def Hh (a:n7 W) (h:d<top2 W) (g:f∈fls W eG k d):x∈pk W (d+f)↔x∈pk W d\/x∈pk W f:=by
 obtain⟨b,F⟩:=acA.mp g;have e:d+f=bT (nm W) (pk W d++pk W f):=by rw[<- ir _ _ _ fun x c z=>F.apart c z.2 z.1,dY a h,dY a b]
 rw[e,jW a,F_];exact⟨fun z=>z.2,fun z=>⟨z.elim il il,z⟩⟩
def Hi (a:n7 W) (h:Wtb W eG k E) (C:k<W.row.length):Wtb W eG (k+1) (wbh W eG k E):=by
 have q:=WtI.outer (W:=W) (eG:=eG) C (xs:=E) (sub:=fun _ _=>False) (B:=[]) h.ok ⟨aa_,fun _ z=>(nomatch z),fun _ _ z=>z.elim⟩;refine⟨q.nd,q.ok,fun fs d r D=>?_⟩;obtain⟨L,d',f,rfl,rfl,A,j,u⟩:=r.inv D;obtain⟨e,w,v⟩:=h.al L d' A j;have s:=(h.ok e w).1;have l:=(s.ok a).1;obtain⟨K,F⟩:=acA.mp u;have G:=F.more a v fun t x H n=>s.grp a H n;have m:bT (nm W) ((pk W f).filter fun x=>decide (x∉pk W e.1))∈fls W eG k e.1:=acA.mpr ⟨lK _,G.congr (fun x=>Iff.rfl) fun x=>by rw[jW a];exact⟨fun z=>⟨il (A_.mp z).1,z⟩,fun z=>z.2⟩⟩;obtain⟨g,o,p⟩:=Li m;have b:=rm o;obtain⟨x,n,J⟩:=q.al e.1 g (.inr ⟨⟨e.2,w⟩,o⟩);have i:=(acA.mp b).1;refine⟨x,n,fun y I=>?_⟩;rw[J,Hh a l b];rcases (Hh a (A.ok a).1 u).mp I with z | z
 ·exact .inl (v y z)
 by_cases c:y∈pk W e.1
 ·exact .inl c
 refine .inr ?_;rw[<- dY a i,uG] at p;exact p y (il z) (A_.mpr ⟨z,N_ c⟩)
def wtb (a:n7 W):∀{k:Nat},k<=W.row.length->Wtb W eG k (wys W eG k)
 |0,_=>⟨by simp [wys],fun e f=>by rw[t_.mp f];exact⟨.nil,rfl⟩,fun fs d r c=>by
   refine⟨(0,[]),t_.mpr rfl,fun x b=>?_⟩
   rw[r.nil0 (abx.mp c)] at b
   exact b⟩
 |k+1,h=>Hi a (wtb a (by omega)) (by omega)
structure WOk (W:Wk) (n:Nat) (E:Wy):Prop where
 nd:(E.map (·.1)).Nodup
 lt:∀e∈E,e.1<top2 W/\e.2.length<=n/\∀f∈e.2,f<top2 W
def WOk.len (h:WOk W n E):E.length<=top2 W:=by
 have:=wX (l:=E.map (·.1)) (m:=List.range (top2 W)) h.nd fun x a=>by obtain⟨e,b,rfl⟩:=u_.mp a;exact X_.mpr (h.lt e b).1
 rwa [d_,z_] at this
def WOk.stp (j:n7 W) (h:WOk W (n+1) B) (l:d<top2 W) (i:v.length<=n) (c:∀f∈v,f<top2 W) (e:f∈fls W eG k d):WOk W (n+1) (iV d v B f):=by
 unfold iV;split
 ·refine⟨yW h.nd,fun x b=>?_⟩;rcases uL b with rfl | ⟨b,_⟩ | ⟨b,_⟩
  ·refine⟨Lg j l e,by rw[g_];simp;exact i,fun g a=>?_⟩;rcases F_.mp a with a | a
   ·exact c g a
   rw[t_.mp a];exact (acA.mp e).1
  ·exact h.lt x b
  exact h.lt x b
 exact h
def Wtb.wok (c:n7 W) (h:Wtb W eG k E):WOk W k E:=⟨h.nd,fun e b=>by
 obtain⟨r,f⟩:=h.ok e b;obtain⟨d,_,_,_,a⟩:=r.ok c;exact⟨d,by omega,a⟩⟩
def Lj (a:n7 W) (f:m<=W.row.length):(cT (top2 W - 1) (wys W eG m)).isSome=true↔∃fs,Frw W eG fs (top2 W - 1)/\fs.length=m:=by
 have T:=wtb (eG:=eG) a f;constructor
 ·intro h;obtain⟨v,e⟩:=abk.mp h;have:=T.ok _ (gh e);exact⟨v,this.1,this.2⟩
 rintro⟨fs,r,c⟩;obtain⟨e,b,h⟩:=T.al fs _ r c;have g:e.1=top2 W - 1:=by rw[<- dY a ((T.ok e b).1.ok a).1];exact jX fun x d=>h x (pN a x d)
 have:=yX T.nd (show (e.1,e.2)∈wys W eG m from b);rw[g] at this;rw[this];rfl
abbrev Wk.nms (W:Wk):List Str:=W.tasks.map (·.1)
variable {f:Str->Str}{W W2:Wk}
def iu {d f:Type}{g:d->f}:∀{l:List d},(∀a∈l,∀b∈l,g a=g b->a=b)->l.Nodup->(l.map g).Nodup
 |[],_,_=>aa_
 |a::l,hf,h=>by
  rw[ZJ] at h
  rw[H_,ZJ]
  refine⟨fun k=>?_,iu (fun x j y i=>hf x (o_ _ j) y (o_ _ i)) h.2⟩
  obtain⟨b,c,e⟩:=u_.mp k
  exact h.1 (hf _ (o_ _ c) _ l_ e▸c)
def Lk (h:p↔q):@decide p i=@decide q j:=by
 by_cases a:p
 ·rw[N_ a,N_ (h.mp a)]
 rw[E_ a,E_ fun z=>a (h.mpr z)]
def Hj {x y:Str}(h:x.cps.toList=y.cps.toList):x=y:=by cases x;cases y;simp at h;simp [h]
def Hk (h:leS x y) (g:leS y x):x=y:=Hj (PyProof.Rows.KeyOrd.kle_antisymm h g)
def Ln {g u v:List Str}(i:u.Perm g) (f:u.Pairwise leS) (h:v.Perm g) (d:v.Pairwise leS):u=v :=
 (i.trans h.symm).eq_of_pairwise (fun a b _ _ e c=>Hk e c) f d
def ad3:x∈bY W t↔x∈W.nms/\RT (lkR ["with"] W) t x/\RT (lkR ["with"] W) x t:=by
 unfold bY;rw[A_,@q_ _ (Classical.propDecidable _)]
def Tj (h:u∈bY W t):bY W u=bY W t:=by
 obtain⟨_,d,c⟩:=ad3.mp h;unfold bY;exact aav fun x _=>Lk ⟨fun ⟨a,b⟩=>⟨d.trans a,b.trans c⟩,fun ⟨a,b⟩=>⟨c.trans a,b.trans d⟩⟩
def aeW:g∈wY W↔∃t∈W.nms,bY W t=g:=by
 unfold wY;rw[u_];constructor
 ·rintro⟨t,a,rfl⟩;exact⟨t,(A_.mp a).1,rfl⟩
 rintro⟨t,a,rfl⟩;have b:=pK (W:=W) a;cases e:bY W t with
 |nil=>rw[e] at b;cases b
 |cons u r =>
  have c:u∈bY W t:=by rw[e];exact l_
  have d:=Tj c
  exact⟨u,A_.mpr ⟨(ad3.mp c).1,by rw[d,e];simp⟩,d.trans e⟩
def Wk.turn (W:Wk):Wk:=⟨W.tasks,W.orders.map fun o=>(o.2,o.1),W.pairs,W.row.reverse⟩
def Hl:∀(xs a:List Str),(a++xs).Nodup->kst a xs=a++xs
 |[],a,_=>(W_ a).symm
 |n::r,a,h=>by
  show kst (lq a n) r=_
  have b:n∉a:=fun z=>by rw[aaU] at h;exact h.2.2 n z n l_ rfl
  unfold lq
  rw[if_neg b,Hl r (a++[n]) (by rw[aah];exact h),aah]
  rfl
def Xf (h:D.flatten.Nodup):kD D=D.flatten:=by
 unfold kD;rw[Hl _ _ (by simpa using h)];rfl
def Dok.pm (b:n7 W) (h:Dok W D):D.flatten.Perm (nm W):=(List.perm_ext_iff_of_nodup h.nd b.nd).mpr fun a=>⟨h.st a,h.al a⟩
def Dok.fl (a:n7 W) (h:Dok W D):D.flatten.length<=8:=by
 rw[(h.pm a).length_eq,fP];exact a.t8
def Dok.lt (h:Dok W D) (a:n∈nm W):fD D n<D.length:=by
 obtain⟨k,s,e,b⟩:=gJ (h.al n a);rw[d7 h.nd e b];rcases abO k D.length with z | z
 ·exact z
 rw[O_ z] at e;cases e
def Dok.ldF (h:Dok W D) (e:D[k]?=some s):cR W.tasks s=ldF W.tasks (fD D) k:=by
 rw[<- m7];refine kI fun x=>?_;rw[A_,q_];constructor
 ·intro a;exact⟨h.st x (aae.mpr ⟨s,Zh e,a⟩),d7 h.nd e a⟩
 rintro⟨a,d⟩;obtain⟨g,f,b,c⟩:=gJ (h.al x a);have:=d7 h.nd b c;rw[d] at this;subst this;rw[e] at b;cases b;exact c
def Rgt.lds (h:Dok W D) (r:Rgt W eG D (fD D)):∀l∈lds W (fD D) D.length,l<=eG:=fun l a=>by
 obtain⟨k,b,rfl⟩:=u_.mp a;have e:=e_ (X_.mp b);rw[<- h.ldF e];exact r.bea _ (Z_ _)
def Rgt.kd (h:Dok W D) (r:Rgt W eG D (fD D)) (b:t∈W.tasks):kZ t.2.2 (W.row.getD (fD D t.1) "")=true:=by
 obtain⟨k,s,e,a⟩:=gJ (h.al t.1 (u_.mpr ⟨t,b,rfl⟩));rw[d7 h.nd e a];exact r.kin k s e t b a
def Lp (ns:List Str) (f:Str->Nat):(dN ns f).map (·.1)=ns:=by
 unfold dN;rw[U_];exact List.map_id'' (fun _=>rfl) ns
def Lq (f:Str->Nat) (n:Nat):(List.replicate n [T.int 0]).flatten=((List.range n).map (ldF ([]:List (Str × Int × List Str)) f)).map T.int:=by
 induction n with
 |zero=>rfl
 |succ n a =>
 rw[List.replicate_succ',aaD,a,List.range_succ,y_,y_];rfl
def Xg:Sp3:=fun ts H Q=>∃(W:Wk) (eG:Int) (D:List (List Str)),ts=[W.enc,.int eG,.tup (D.map sT)]/\n7 W/\Dok W D/\Rgt W eG D (fD D)/\Q (.bl true) H
def Xh:Sp3:=fun ts H Q=>∃(W:Wk) (eG:Int) (m:Nat) (D:List (List Str)),ts=[W.enc,.int eG,.int (m:Int),.tup (D.map sT)]/\n7 W/\D.length=m/\(∀s∈D,(nm W).filter (fun n=>decide (n∈s))=s)/\Dok W D/\Rgt W eG D (fD D)/\Q (.bl true) H
def Lr:OpR X (binaryOp .Add) (fun x y H Q=>∃l b xs d,x=.ref l/\y=.ref b/\SqL X.K H l xs/\H b=some (.lst d)/\xs.length+d.length<=sizeLine/\∀p,H p=none->Q (.ref p) (upd H p (.lst (xs++d)))):=by
 intro f s Z H x y v u Q I G E h;obtain⟨l,b,xs,d,rfl,rfl,w,D,O,q⟩:=h;cases G;cases E;obtain⟨c,r,⟨⟨o,N,j,J⟩,n,e,m,k,i⟩,L⟩:=I.list w;obtain⟨M,a,z,C,t,g⟩:=I.lstM D;simp only at m k i;subst m k i;have A:=r.length;refine concat_meets ⟨_,e,rfl⟩ ⟨_,g,rfl⟩ noFill_list_add seq_list_add PySem.F.slot_list_add PySem.F.entry_list_add (PySem.F.args_list_add_2 _ _) (list_addW l b c.toArray a.toArray n z none none J #[] (by rw[v_,v_];omega)) ⟨e,g,?_⟩;have B:c.toArray++a.toArray=(c++a).toArray:=by simp
 rw[B];exact⟨.ref _,_,I.lnew (t':=s.toks) (r.append C) (by rw[g_];omega),rfl,q _ I.fresh⟩
def Tn (o u:Option O3) (H:gb) (Q:v6):Prop:=match o,u with
 |some (.rol xs),some (.lst ys)=>xs.length+ys.length<=sizeLine/\∀p,H p=none->Q (.ref p) (fY H p (.lst (xs++ys)))
 |_,_=>False
def Hm:R3:=fun x y H Q=>match x,y with
 |.ref a,.ref b=>Tn (H a) (H b) H Q
 |_,_=>False
def Tp (a b:Addr):Hm (.ref a) (.ref b) H Q=Tn (H a) (H b) H Q:=rfl
def Hn (xs ys:List T):Tn (some (.rol xs)) (some (.lst ys)) H Q=(xs.length+ys.length<=sizeLine/\∀p,H p=none->Q (.ref p) (fY H p (.lst (xs++ys)))):=rfl
def yZ:dG X (binaryOp .Add) Hm:=by
 refine OpR.imp Lr ?_;rintro x y H Q ⟨r,n,H3,o,j,i,c,h,k⟩;cases r with
 |ref a =>
  cases n with
  |ref b =>
   have h':(match H3 a,H3 b with
    |some (.rol xs),some (.lst ys)=>xs.length+ys.length<=sizeLine/\∀p,H3 p=none->o (.ref p) (fY H3 p (.lst (xs++ys)))
    |_,_=>False):=h
   split at h'
   ·
    rename_i xs ys q g
    obtain⟨vs,m,f⟩:=c.sqL (.inr q)
    obtain⟨ws,l,e⟩:=c b _ g
    refine⟨a,b,vs,ws,j.ref,i.ref,m,l,by rw[<- f.length,<- e.length];exact h'.1,fun p d=>?_⟩
    exact k _ _ _ _ (aK d) (c.newLst d (f.append e)) .ofRef (h'.2 p (c.fresh d))
   ·
    exact h'.elim
  |_=>exact h.elim
 |_=>exact h.elim
def rvO (o:Option O3) (a:Addr) (H:gb) (Q:v6):Prop:=match o with
 |some (.lst xs)=>Q .non (fY H a (.lst xs.reverse))
 |_=>False
def Oj:T->List T->gb->v6->Prop:=fun x ts H Q=>match x,ts with
 |.ref a,[]=>rvO (H a) a H Q
 |_,_=>False
def Xi (a:Addr):Oj (.ref a) [] H Q=rvO (H a) a H Q:=rfl
def Xj (xs:List T) (a:Addr):rvO (some (.lst xs)) a H Q=Q .non (fY H a (.lst xs.reverse)):=rfl
def Hq:zW X "list.reverse" Oj:=by
 refine MtR.imp vK ?_;rintro x xs H Q ⟨i,ts,H3,g,c,d,f,h,k⟩
 match i,ts,h,c,d with
 |.ref a,[],h,c,d =>
  have h':rvO (H3 a) a H3 g:=h
  cases e:H3 a with
  |none=>rw[e] at h';exact h'.elim
  |some o =>
   rw[e] at h'
   cases o with
   |lst j =>
    obtain⟨ys,b,r⟩:=f a _ e
    exact⟨a,ys,c.ref,d.inv0,b,k _ _ _ _ (cu (by rw[b];exact trivial)) (f.wrL b r.reverse) .ofNon h'⟩
   |_=>exact h'.elim
def Tq (ts:List T) (i:Int):ixH (some (.rol ts)) i H Q=oq (atI ts i) fun t=>Q t H:=rfl
def Tr (xs:List T):lnH (some (.rol xs)) H Q=Q (.int xs.length) H:=rfl
def Ls:Sp3:=fun ts H Q=>∃(a:Addr) (ns:List Int) (k:Nat),ts=[.ref a,.int (k:Int)]/\H a=some (.rol (ns.map T.int))/\ns.length<=63/\k<64/\∀c:Int,Q (.int c) H
def Tt:Sp3:=fun ts H Q=>∃c:Int,ts=[.int c]/\∀x,isNm x->Q (.str x) H
def rA {ns:List Int} (h:i<ns.length):∃c:Int,atI (ns.map T.int) (i:Int)=some (T.int c):=⟨ns[i],by rw[cG (by rw[x_,e_ h];rfl)]⟩
def uN {xs:List Str}:dH false (T.str x) (xs.map T.str)=decide (x∈xs):=by
 unfold dH;rw[if_neg B_,aaK,u_];exact⟨fun ⟨y,h,e⟩=>by cases e;exact h,fun h=>⟨x,h,rfl⟩⟩
def Tu:Sp3:=fun ts H Q=>∃(a:Addr) (ws:List Str),ts=[.ref a]/\H a=some (.lst (ws.map T.str))/\ws.length<=8/\(∀x∈ws,isNm x)/\∀us:List Str,us.length=ws.length->Nms us->∀p,H p=none->Q (.ref p) (fY H p (.lst (us.map T.str)))
def nmL (b:List Nat) (s i:Nat):Str:=mkS (b++[97+(s+i)%26])
def Tv (h:b.length<=7) (d:∀c∈b,97<=c/\c<=122):isNm (nmL b s i):=by
 refine Od (by rw[g_];simp) (by rw[g_];simp;exact h) fun c a=>?_;rcases F_.mp a with a | a
 ·exact d c a
 rw[t_.mp a];have:=Nat.mod_lt (s+i) (show 0<26 by decide);omega
def Lw (a:i<26) (c:j<26) (h:nmL b s i=nmL b s j):i=j:=by
 have e:=K1 h;rw[List.append_cancel_left_eq,List.cons.injEq] at e;omega
def Lx (h:isNm x):∃(b:List Nat) (s:Nat),x=nmL b s 0/\b.length<=7/\s<26/\∀c∈b,97<=c/\c<=122:=by
 obtain⟨l,rfl⟩:=SJ x;have e:=h.lo;have f:=h.hi;have d:=h.az;rw[di] at e f;rw[iQ] at d;have a:l≠[]:=by intro z;rw[z] at e;exact absurd e (by decide)
 have i:=d _ (List.getLast_mem a);have j:l.dropLast.length+1=l.length:=by rw[List.length_dropLast];omega
 refine⟨l.dropLast,l.getLast a - 97,?_,by omega,by omega,fun c g=>d c ((List.dropLast_subset l) g)⟩;unfold nmL;rw[Nat.add_zero,Nat.mod_eq_of_lt (by omega),show 97+(l.getLast a - 97)=l.getLast a by omega,aa0]
def Tw (b:List Nat) (c:Nat):Txt.slice (mkS (b++[c])) none (some (-1))=mkS b:=by
 have e:=StrLaws.sliceText_neg_hi (mkS (b++[c])) none (j:=-1) (by decide) (by rw[di,g_];simp;omega);have l : -1+((mkS (b++[c])).length:Int)=(b.length:Int):=by rw[di,g_];simp;omega
 rw[l] at e;have t:=W3 (b++[c]) b.length (by rw[g_];omega);rw[List.take_left' rfl] at t;exact e.trans t
def Ly (b:List Nat) (s i:Nat):(nmL b s i).length=b.length+1:=by unfold nmL;rw[di,g_];rfl
def Lz (b:List Nat) (s i:Nat):(nmL b s i).cps.toList=b++[97+(s+i)%26]:=rfl
def Tz:Sp3:=fun ts H Q=>∃c:Int,ts=[.int c]/\∀us:List Str,us.length=8->Nms us->∀p,H p=none->Q (.ref p) (fY H p (.lst (us.map T.str)))
def Xk:Sp3:=fun ts H Q=>∃(c:Int) (i j:Addr) (a d:List Str) (b:Int),ts=[.int c,.ref i,.ref j,.int b]/\H i=some (.lst (a.map T.str))/\1<=a.length/\a.length<=8/\(∀x∈a,isNm x)/\H j=some (.lst (d.map T.str))/\d.length=8/\(∀x∈d,isNm x)/\1<=b/\b<=10^57 /\
 ∀(s:Nat) (h e:Int) (g:List Str) (f:Str),s<a.length->0<=h->h<8->1<=e->e<10^60->Nms g->g.length<=4->(g=[]\/a.getD s ""∈g)->isNm f->Q (.tup [.int (s:Int),.int h,.int e,sT g,.str f]) H
def lL {ns:List Str} (h:i<ns.length):atI (ns.map T.str) (i:Int)=some (T.str (ns.getD i "")):=by
 rw[cG (by rw[x_,e_ h];rfl),i_,e_ h];rfl
def getD_memS {ns:List Str} (h:i<ns.length):ns.getD i ""∈ns:=by
 rw[i_,e_ h];exact Z_ h
abbrev Tk5:=Nat × Int × Int × List Str × Str
def tk5 (t:Tk5):T:=.tup [.int (t.1:Int),.int t.2.1,.int t.2.2.1,sT t.2.2.2.1,.str t.2.2.2.2]
structure Lnk (ns:List Str) (sts:List Nat) (O:List (Str × Str)) (P:List (Str × Str × Str)):Prop where
 ol:O.length<=28
 od:O.Nodup
 oo:∀o∈O,∃i j,i≠j/\ns[i]?=some o.1/\ns[j]?=some o.2/\sts.getD i 0<=sts.getD j 0
 pl:P.length<=12
 pd:P.Nodup
 pp:∀p∈P,∃i j,i≠j/\ns[i]?=some p.2.1/\ns[j]?=some p.2.2/\((p.1="with"/\sts.getD i 0=sts.getD j 0)\/(p.1="apart"/\sts.getD i 0≠sts.getD j 0))
def Xl:Sp3:=fun ts H Q=>∃(a c ps:Addr) (d:List Int) (ns:List Str) (b:List Tk5),ts=[.ref a,.ref c,.ref ps]/\H a=some (.rol (d.map T.int))/\d.length<=63/\H c=some (.lst (ns.map T.str))/\Nms ns/\ns.length<=8/\H ps=some (.lst (b.map tk5))/\b.length=ns.length/\∀O P,Lnk ns (b.map (·.1)) O P->Q (.tup [.tup (O.map orT),.tup (P.map prT)]) H
structure Rnk (ns:List Str) (ss:List Tk5) (us:List (Int × Int × Int)):Prop where
 l:us.length=ns.length
 ex:∃ix:Nat->Nat,(∀p<ns.length,ix p<ns.length/\us[p]?=some ((((ss.map (·.1)).getD (ix p) 0:Nat):Int),(us.getD p (0,0,0)).2.1,(ix p:Int)))/\(∀p q,p<q->q<ns.length->ix p≠ix q/\(ss.map (·.1)).getD (ix p) 0<=(ss.map (·.1)).getD (ix q) 0)
def TF {f:List Tk5} (G:f.length=ns.length) (t:us.Perm ((List.range ns.length).map fun k=>((((f.map (·.1)).getD k 0:Nat):Int),((f.map (·.2.1)).getD k 0:Int),(k:Int)))) (A:us.Pairwise Kh):Rnk ns f us:=by
 have j:us.length=ns.length:=by rw[t.length_eq,d_,z_]
 have a:∀x∈us,∃k,k<ns.length/\x=((((f.map (·.1)).getD k 0:Nat):Int),((f.map (·.2.1)).getD k 0:Int),(k:Int)):=fun x F=>by obtain⟨k,o,e⟩:=u_.mp (t.mem_iff.mp F);exact⟨k,X_.mp o,e.symm⟩
 have s:(us.map (·.2.2)).Nodup:=by refine (t.map (·.2.2)).nodup_iff.mpr ?_;rw[U_,List.Nodup,List.pairwise_map];refine List.Pairwise.imp (fun {x y} h e=>h ?_) (List.nodup_range (n:=ns.length));have:(x:Int)=(y:Int):=e;omega
 refine⟨j,fun p=>(us.getD p (0,0,0)).2.2.toNat,fun p h=>?_,fun p q m H=>?_⟩
 ·have u:us[p]?=some us[p]:=e_ (by omega);obtain⟨k,o,e⟩:=a _ (Z_ (show p<us.length by omega));have g:us.getD p (0,0,0)=us[p]:=by rw[i_,u];rfl
  have i:(us.getD p (0,0,0)).2.2.toNat=k:=by rw[g,e];exact ZV k
  dsimp only;refine⟨by rw[i];exact o,?_⟩;rw[i,u,g,e]
 have c:p<us.length:=by omega
 have d:q<us.length:=by omega
 obtain⟨k,o,e⟩:=a _ (Z_ c);obtain⟨v,w,r⟩:=a _ (Z_ d);have B:us.getD p (0,0,0)=us[p]:=by rw[i_,e_ c];rfl
 have D:us.getD q (0,0,0)=us[q]:=by rw[i_,e_ d];rfl
 have E:(us.getD p (0,0,0)).2.2.toNat=k:=by rw[B,e];exact ZV k
 have C:(us.getD q (0,0,0)).2.2.toNat=v:=by rw[D,r];exact ZV v
 dsimp only;rw[E,C];constructor
 ·intro z;have l:=(aaG.mp s) p q (by rw[d_];exact c) (by rw[d_];exact d) m;rw[aaJ,aaJ,e,r,z] at l;exact l rfl
 have b:=(aaG.mp A) p q c d m;unfold Kh KeyOrd.kle at b;rw[e,r] at b;dsimp only[adn] at b;rw[aai] at b;omega
def Dn (p q a b:Nat):Prop:=a<p\/(a=p/\b<q)
structure Lk1 (nmO:Nat->Str) (wd:Nat->Nat->Str) (m p q:Nat) (O:List (Str × Str)) (P:List (Str × Str × Str)):Prop where
 od:O.Nodup
 oo:∀o∈O,∃p' q',p'<q'/\q'<m/\Dn p q p' q'/\o=(nmO p',nmO q')
 pd:P.Nodup
 pp:∀x∈P,∃p' q',p'<q'/\q'<m/\Dn p q p' q'/\(x=(wd p' q',nmO p',nmO q')\/x=(wd p' q',nmO q',nmO p'))
 ol:O.length<=9*p+q
 pl:P.length<=2*(9*p+q)
def Dn.mono (h:Dn p q c a) (d:q<=b):Dn p b c a:=by unfold Dn at *;omega
def Lk1.skip (h:Lk1 c n m p q O P) (r:∀p' q',q'<m->Dn p q p' q'->Dn k i p' q') (f:9*p+q<=9*k+i):Lk1 c n m k i O P :=
 ⟨h.od,fun o g=>by obtain⟨a,b,l,d,j,e⟩:=h.oo o g;exact⟨a,b,l,d,r a b d j,e⟩,h.pd,fun o g=>by obtain⟨a,b,l,d,j,e⟩:=h.pp o g;exact⟨a,b,l,d,r a b d j,e⟩,P_ h.ol f,P_ h.pl (by omega)⟩
def Lk1.step (h:Lk1 c d m p q O P) (r:∀i j,i<m->j<m->c i=c j->i=j) (k:p<q) (y:q<m) (v s u:Bool):
  Lk1 c d m p (q+1) (bif v then O++[(c p,c q)] else O) (bif u then (bif s then P++[(d p q,c p,c q)] else P)++[(d p q,c q,c p)] else (bif s then P++[(d p q,c p,c q)] else P)):=by
 have C:Dn p (q+1) p q:=.inr ⟨rfl,ZK q⟩;have Q:(c p,c q)∉O:=fun z=>by obtain⟨a,b,M,N,B,l⟩:=h.oo _ z;rw[abm] at l;have L:=r _ _ (by omega) (by omega) l.1;have K:=r _ _ (by omega) (by omega) l.2;unfold Dn at B;omega
 have A:∀w,(w,c p,c q)∉P/\(w,c q,c p)∉P:=fun w=>by
  constructor;all_goals
   intro z
   obtain⟨a,b,M,N,B,l⟩:=h.pp _ z
   rw[abm,abm,abm,abm] at l
   unfold Dn at B
   rcases l with ⟨_,E,I⟩ | ⟨_,E,I⟩
   all_goals
    have L:=r _ _ (by omega) (by omega) E
    have K:=r _ _ (by omega) (by omega) I
    omega
 have h':Lk1 c d m p (q+1) O P:=h.skip (fun _ _ _ z=>z.mono (aaE q)) (by omega);have D:∀(P':List (Str × Str × Str)),(P'=P\/P'=P++[(d p q,c p,c q)])->P'.Nodup/\(∀x∈P',∃n g,n<g/\g<m/\Dn p (q+1) n g/\(x=(d n g,c n,c g)\/x=(d n g,c g,c n)))/\P'.length<=2*(9*p+q)+1/\(d p q,c q,c p)∉P':=by
  intro P' R;rcases R with rfl | rfl
  ·exact⟨h.pd,h'.pp,Nat.le_succ_of_le h.pl,(A _).2⟩
  refine⟨gB h.pd (A _).1,fun x t=>?_,by rw[g_];simp;exact h.pl,fun z=>?_⟩
  ·rcases F_.mp t with t | t
   ·exact h'.pp x t
   exact⟨p,q,k,y,C,.inl (t_.mp t)⟩
  rcases F_.mp z with z | z
  ·exact (A _).2 z
  have:=t_.mp z;rw[abm,abm] at this;have e:=r _ _ (by omega) (by omega) this.2.1;omega
 obtain⟨G,F,S,J⟩:=D (bif s then P++[(d p q,c p,c q)] else P) (by cases s <;> simp);generalize (bif s then P++[(d p q,c p,c q)] else P)=H at *;refine⟨?_,?_,?_,?_,?_,?_⟩
 ·cases v
  ·exact h.od
  exact gB h.od Q
 ·cases v
  ·exact h'.oo
  intro o f;rcases F_.mp f with f | f
  ·exact h'.oo o f
  exact⟨p,q,k,y,C,t_.mp f⟩
 ·cases u
  ·exact G
  exact gB G J
 ·cases u
  ·exact F
  intro o f;rcases F_.mp f with f | f
  ·exact F o f
  exact⟨p,q,k,y,C,.inr (t_.mp f)⟩
 ·cases v
  ·exact h'.ol
  show (O++[_]).length<=_;rw[g_];have:=h.ol;simp;omega
 cases u
 ·show H.length<=_;omega
 show (H++[_]).length<=_;rw[g_];simp;omega
def xf {R:TS3}{p1 f e:Prop} (j:p1) (g:f) (i:e) (h:∀(b:Bool) (H':gb),H'=(bif b then a else d)->R D Z H'):if c=true then p1/\f/\e/\R D Z a else R D Z d:=by
 cases c
 ·rw[if_neg B_];exact h false _ rfl
 rw[if_pos rfl];exact⟨j,g,i,h true _ rfl⟩
def Hr {R:TS3} (e:p1) (h:∀(b:Bool) (H':gb),H'=(bif b then a else d)->R D Z H'):if c=true then p1/\R D Z a else R D Z d:=by
 cases c
 ·rw[if_neg B_];exact h false _ rfl
 rw[if_pos rfl];exact⟨e,h true _ rfl⟩
structure LkH (H3 H:gb) (pk po pq:Addr) (us:List (Int × Int × Int)) (O:List (Str × Str)) (P:List (Str × Str × Str)):Prop where
 sb:eH H3 H
 k:H pk=some (.lst (us.map trT))
 o:H po=some (.lst (O.map orT))
 p:H pq=some (.lst (P.map prT))
 no:H3 po=none
 np:H3 pq=none
 ko:pk≠po
 kp:pk≠pq
 op:po≠pq
def LkH.new {pk b pq x:Addr} (h:LkH H3 H pk b pq us O P) (a:H x=none):LkH H3 (fY H x u) pk b pq us O P :=
 ⟨h.sb.trans (eH.new a),eH.new a _ _ h.k,eH.new a _ _ h.o,eH.new a _ _ h.p,h.no,h.np,h.ko,h.kp,h.op⟩
def LkH.putO {pk a pq:Addr} (h:LkH H3 H pk a pq us O P):LkH H3 (fY H a (.lst (O'.map orT))) pk a pq us O' P :=
 ⟨fun b u c=>by rw[aF (bz c h.no)];exact h.sb b u c,by rw[aF h.ko];exact h.k,aq,by rw[aF (Ne.symm h.op)];exact h.p,h.no,h.np,h.ko,h.kp,h.op⟩
def LkH.putP {pk a pq:Addr} (h:LkH H3 H pk a pq us O P):LkH H3 (fY H pq (.lst (P'.map prT))) pk a pq us O P' :=
 ⟨fun b u c=>by rw[aF (bz c h.np)];exact h.sb b u c,by rw[aF h.kp];exact h.k,by rw[aF h.op];exact h.o,aq,h.no,h.np,h.ko,h.kp,h.op⟩
def Xm (m:Nat):List (Nat × Nat):=(List.range m).flatMap fun q=>(List.range q).map fun p=>(p,q)
def Ht:∀m:_root_.Fin 9,(Xm m.val).length<=28:=by decide
def TJ {d:List Tk5}{c:Nat->Nat}{P P':List (Str × Str × Str)}{r:Nat->Nat->Str} (D:ns.length<=8) (B:∀p<ns.length,c p<ns.length) (u:∀p q,p<q->q<ns.length->c p≠c q/\(d.map (·.1)).getD (c p) 0<=(d.map (·.1)).getD (c q) 0) (j:∀p<ns.length,ns[c p]?=some (g p)) (y:∀p q,r p q=if (d.map (·.1)).getD (c p) 0=(d.map (·.1)).getD (c q) 0 then "with" else "apart") (h:Lk1 g r ns.length p q O P) (s:O'.Perm O) (w:P'.Perm P):Lnk ns (d.map (·.1)) O' (P'.take 12):=by
 refine⟨?_,s.nodup_iff.mpr h.od,fun o A=>?_,?_,(List.take_sublist 12 P').nodup (w.nodup_iff.mpr h.pd),fun x t=>?_⟩
 ·rw[s.length_eq];have:=wX (l:=O) (m:=(Xm ns.length).map fun z=>(g z.1,g z.2)) h.od fun x t=>by obtain⟨a,b,k,i,_,rfl⟩:=h.oo x t;exact u_.mpr ⟨(a,b),List.mem_flatMap.mpr ⟨b,X_.mpr i,u_.mpr ⟨a,X_.mpr k,rfl⟩⟩,rfl⟩
  rw[d_] at this;have:=Ht ⟨ns.length,by omega⟩;dsimp only at this;omega
 ·obtain⟨a,b,k,i,_,rfl⟩:=h.oo o (s.mem_iff.mp A);obtain⟨n,v⟩:=u a b k i;exact⟨c a,c b,n,j a (by omega),j b i,v⟩
 ·rw[aam];omega
 obtain⟨a,b,k,i,_,C⟩:=h.pp x (w.mem_iff.mp (List.mem_of_mem_take t));obtain⟨n,v⟩:=u a b k i;have f:=y a b;have key:(r a b="with"/\(d.map (·.1)).getD (c a) 0=(d.map (·.1)).getD (c b) 0)\/(r a b="apart"/\(d.map (·.1)).getD (c a) 0≠(d.map (·.1)).getD (c b) 0):=by
  by_cases e:(d.map (·.1)).getD (c a) 0=(d.map (·.1)).getD (c b) 0
  ·rw[if_pos e] at f;exact .inl ⟨f,e⟩
  rw[if_neg e] at f;exact .inr ⟨f,e⟩
 rcases C with rfl | rfl
 ·exact⟨c a,c b,n,j a (by omega),j b i,key⟩
 exact⟨c b,c a,Ne.symm n,j b i,j a (by omega),key.imp (fun z=>⟨z.1,z.2.symm⟩) fun z=>⟨z.1,Ne.symm z.2⟩⟩
def ni {b a:Type}{f:b->T}{g:a->T}:∀(xs:List b) (ys:List a),gG (xs.map f) (ys.map g)=(xs.zip ys).map fun z=>.tup [f z.1,g z.2]
 |[],_=>rfl
 |_::_,[]=>rfl
 |x::xs,y::ys=>by rw[H_,H_,gG,ni xs ys];rfl
structure Fit (W:Wk) (sts:List Nat):Prop where
 l:sts.length=W.tasks.length
 lt:∀s∈sts,s<W.row.length
 kd:∀(i:Nat) (t:Str × Int × List Str),W.tasks[i]?=some t->t.2.2=[]\/W.row.getD (sts.getD i 0) ""∈t.2.2
 lk:Lnk (W.tasks.map (·.1)) sts W.orders W.pairs
def Xn:Sp3:=fun ts H Q=>∃(a:Addr) (d:List Int) (b c:Int),ts=[.ref a,.int b,.int c]/\H a=some (.rol (d.map T.int))/\d.length<=63/\1<=b/\b<=8/\1<=c/\c<=8/\∀(W:Wk) (sts:List Nat),n7 W->(W.tasks.length:Int)<=b->(W.row.length:Int)<=c->Fit W sts->∀p,H p=none->Q (.tup [W.enc,.ref p]) (fY H p (.lst (sts.map fun (s:Nat)=>T.int (s:Int))))
structure TkO (row:List Str) (t:Tk5):Prop where
 s:t.1<row.length
 lo:1<=t.2.2.1
 hi:t.2.2.1<10^60
 ks:Nms t.2.2.2.1
 kl:t.2.2.2.1.length<=4
 kd:t.2.2.2.1=[]\/row.getD t.1 ""∈t.2.2.2.1
 nm:isNm t.2.2.2.2
def mkW (ns:List Str) (b:List Tk5) (O:List (Str × Str)) (P:List (Str × Str × Str)) (a:List Str):Wk:=⟨(ns.zip b).map fun z=>(z.1,z.2.2.2.1,z.2.2.2.2.1),O,P,a⟩
def TQ (E:Nms ns) (J:b.length=ns.length) (M:1<=ns.length) (N:ns.length<=8) (A:∀t∈b,TkO a t) (B:1<=a.length) (C:a.length<=8) (v:∀x∈a,isNm x) (f:Lnk ns (b.map (·.1)) O P):
  n7 (mkW ns b O P a)/\Fit (mkW ns b O P a) (b.map (·.1))/\(mkW ns b O P a).tasks.length=ns.length:=by
 have k:(mkW ns b O P a).tasks.map (·.1)=ns:=by show ((ns.zip b).map fun z=>(z.1,z.2.2.2.1,z.2.2.2.2.1)).map (·.1)=ns;rw[U_];show (ns.zip b).map (fun z=>z.1)=ns;exact List.map_fst_zip (by omega)
 have r:(mkW ns b O P a).tasks.length=ns.length:=by
  have:=Zk List.length k
  rwa [d_] at this
 have F:∀(i:Nat) (t:Str × Int × List Str),(mkW ns b O P a).tasks[i]?=some t->∃u,b[i]?=some u/\ns[i]?=some t.1/\t.2=(u.2.2.1,u.2.2.2.1):=fun i t e=>by have l:((ns.zip b).map fun z=>(z.1,z.2.2.2.1,z.2.2.2.2.1))[i]?=some t:=e;rw[x_,abC] at l;obtain⟨z,D,rfl⟩:=l;have:=List.getElem?_zip_eq_some.mp D;exact⟨z.2,this.2,this.1,rfl⟩
 have H:∀{i j:Nat} {x y:Str},i≠j->ns[i]?=some x->ns[j]?=some y->x≠y:=fun {i j x y} h c d z=>by
  rw[z,<- d] at c;have w:i<ns.length:=by
   rcases abO i ns.length with q | q
   ·exact q
   rw[O_ q,d] at c;cases c
  exact h ((List.getElem?_inj w E.nd).mp c)
 refine⟨⟨by rw[r];exact M,by rw[r];exact N,fun t K=>?_,by rw[k];exact E.nd,f.ol,f.od,fun o I=>?_,f.pl,f.pd,fun p Q=>?_,B,C,v⟩,⟨by rw[d_,r,J],fun s h=>?_,fun i t e=>?_,by rw[k];exact f⟩,r⟩
 ·obtain⟨i,w⟩:=abN K;obtain⟨u,g,c,e⟩:=F i t w;have m:=A u (Zh g);have G:t.2.1=u.2.2.1:=by rw[e]
  have n:t.2.2=u.2.2.2.1:=by rw[e]
  exact⟨E.nm _ (Zh c),by rw[G];exact m.lo,by rw[G];exact m.hi,by rw[n];exact m.ks,by rw[n];exact m.kl⟩
 ·obtain⟨i,j,h,c,d,_⟩:=f.oo o I;rw[k];exact⟨H h c d,Zh c,Zh d⟩
 ·obtain⟨i,j,h,c,d,D⟩:=f.pp p Q;rw[k];exact⟨D.imp (fun z=>z.1) fun z=>z.1,H h c d,Zh c,Zh d⟩
 ·obtain⟨u,g,rfl⟩:=u_.mp h;exact (A u g).s
 obtain⟨u,g,_,l⟩:=F i t e;have n:t.2.2=u.2.2.2.1:=by rw[l]
 have L:(b.map (·.1)).getD i 0=u.1:=by rw[i_,x_,g];rfl
 rw[n,L];exact (A u (Zh g)).kd
def ldZ (L:List Int) (z:(Str × Int × List Str) × Nat):List Int:=L.set z.2 (L.getD z.2 0+z.1.2.1)
def ldS (W:Wk) (sts:List Nat):List Int:=(W.tasks.zip sts).foldl ldZ (List.replicate W.row.length 0)
def za (L:List Int):∀a:List ((Str × Int × List Str) × Nat),(a.foldl ldZ L).length=L.length:=fun a=>by
 induction a generalizing L with
 |nil=>rfl
 |cons z r b=>rw[List.foldl_cons,b];unfold ldZ;rw[List.length_set]
def LC (W:Wk) (sts:List Nat):(ldS W sts).length=W.row.length:=by unfold ldS;rw[za,Z0]
def Xo:Sp3:=fun ts H Q=>∃(W:Wk) (q:Addr) (sts:List Nat),ts=[W.enc,.ref q]/\n7 W/\H q=some (.lst (sts.map fun (s:Nat)=>T.int (s:Int)))/\sts.length=W.tasks.length/\(∀s∈sts,s<W.row.length)/\∀p,H p=none->Q (.ref p) (fY H p (.lst ((ldS W sts).map T.int)))
def zb:∀(L:List Int) (i:Nat) (v:Int),i<L.length->(L.set i (L.getD i 0+v)).sum=L.sum+v
 |[],_,_,h=>absurd h (by simp)
 |x::r,0,v,_=>by simp [List.set,ZZ];omega
 |x::r,i+1,v,h=>by
  have:=zb r i v (by simpa using h)
  simp only[List.set_cons_succ,ZZ,List.getD_cons_succ,this]
  omega
def zf:∀(a:List ((Str × Int × List Str) × Nat)) (L:List Int),(∀z∈a,z.2<L.length)->(a.foldl ldZ L).sum=L.sum+(a.map (·.1.2.1)).sum
 |[],L,_=>by simp
 |z::r,L,h=>by
  rw[List.foldl_cons,zf r (ldZ L z) fun y b=>by unfold ldZ;rw[List.length_set];exact h y (o_ _ b)]
  unfold ldZ
  rw[zb L z.2 z.1.2.1 (h z l_),H_,ZZ]
  omega
def Hu:∀(a:List ((Str × Int × List Str) × Nat)) (L:List Int),(∀z∈a,0<=z.1.2.1)->(∀x∈L,0<=x)->∀x∈a.foldl ldZ L,0<=x
 |[],L,_,hL=>hL
 |z::r,L,h,hL=>by
  rw[List.foldl_cons]
  refine Hu r _ (fun y c=>h y (o_ _ c)) fun x b=>?_
  unfold ldZ at b
  rcases List.mem_or_eq_of_mem_set b with q | q
  ·
   exact hL x q
  ·
   rw[q]
   have f:=h z l_
   have d:0<=L.getD z.2 0:=by
    rw[i_]
    cases e:L[z.2]? with
    |none=>exact Int.le_refl 0
    |some y=>exact hL y (Zh e)
   omega
def Hv (n:Nat):(List.replicate n (0:Int)).sum=0:=by induction n with
 |zero=>rfl
 |succ n a=>rw[Z9,ZZ,a];rfl
def TV (b:n7 W):∀x∈ldS W sts,0<=x:=Hu _ _ (fun z c=>by have:=(b.tk z.1 (abE c).1).lo;omega) fun x a=>by rw[(List.mem_replicate.mp a).2];exact Int.le_refl 0
def LK (c:sts.length=W.tasks.length) (h:∀s∈sts,s<W.row.length):(ldS W sts).sum=(W.tasks.map (·.2.1)).sum:=by
 unfold ldS;rw[zf _ _ fun z b=>by rw[Z0];exact h _ (abE b).2,Hv];have e:(W.tasks.zip sts).map (·.1.2.1)=W.tasks.map (·.2.1):=by have:=List.map_fst_zip (l₁:=W.tasks) (l₂:=sts) (by omega);have a:=Zk (List.map (·.2.1)) this;rw[U_] at a;exact a
 rw[e];omega
def LQ (c:n7 W):1<=(W.tasks.map (·.2.1)).sum:=by
 have d:=c.t1;have b:=c.tk;cases e:W.tasks with
 |nil=>rw[e] at d;exact absurd d (by decide)
 |cons t r =>
 rw[e] at b;rw[H_,ZZ];have i:=(b t l_).lo;have g:∀l:List (Str × Int × List Str),(∀u∈l,afS u)->0<=(l.map (·.2.1)).sum:=fun l=>by
  induction l with
  |nil=>intro _;exact Int.le_refl _
  |cons u l h =>
  intro a;rw[H_,ZZ];have:=h fun v f=>a v (o_ _ f);have:=(a u l_).lo;omega
 have:=g r fun u a=>b u (o_ _ a);omega
def Xp:Sp3:=fun ts H Q=>∃(c:Int) (W:Wk) (q:Addr) (sts:List Nat),ts=[.int c,W.enc,.ref q]/\n7 W/\H q=some (.lst (sts.map fun (s:Nat)=>T.int (s:Int)))/\sts.length=W.tasks.length/\(∀s∈sts,s<W.row.length)/\∀n:Int,0<=n->Q (.int n) H
def Xq:Sp3:=fun ts H Q=>∃(a:Addr) (e:List Int) (b d:Int),ts=[.ref a,.int b,.int d]/\H a=some (.rol (e.map T.int))/\e.length<=63/\1<=b/\b<=8/\1<=d/\d<=8/\∀(W:Wk) (sts:List Nat) (eG c:Int),n7 W->(W.tasks.length:Int)<=b->(W.row.length:Int)<=d->Fit W sts->0<=eG->∀p,H p=none->Q (.tup [W.enc,.ref p,.int eG,.int c]) (fY H p (.lst (sts.map fun (s:Nat)=>T.int (s:Int))))
def iT (a:n7 W) (f:m<=W.row.length) (h:cT (top2 W - 1) (wys W eG m)=some v):Dok W (v.map (pk W))/\Rgt W eG (v.map (pk W)) (fD (v.map (pk W)))/\(v.map (pk W)).length=m/\∀s∈v.map (pk W),(nm W).filter (fun n=>decide (n∈s))=s:=by
 obtain⟨r,e⟩:=(wtb a f).ok _ (gh h);obtain⟨b,F⟩:=r.dok a;refine⟨b,(mZ a b).mpr F,by rw[d_];exact e,fun s d=>?_⟩;obtain⟨i,c,rfl⟩:=u_.mp d;rw[<- Oh a,dY a ((r.ok a).2.2.2.2 i c)]
def Can (W:Wk) (m:Nat) (b:Int):Prop:=∃f:Str->Nat,(∀n,f n<m)/\Hol W f/\∀l∈lds W f m,l<=b
def zg (d:n7 W) (a:Dok W D) (R:Rgt W eG D (fD D)):Can W D.length eG:=by
 obtain⟨t,b⟩:∃t,t∈W.tasks:=List.exists_mem_of_length_pos (by have:=d.t1;omega);have e:0<D.length:=by have:=a.lt (n:=t.1) (u_.mpr ⟨t,b,rfl⟩);omega
 refine⟨fun n=>if n∈nm W then fD D n else 0,fun n=>?_,?_,?_⟩
 ·show (if n∈nm W then fD D n else 0)<D.length;split
  ·exact a.lt (by assumption)
  exact e
 ·exact Hol.congr (f:=fD D) d ⟨R.ord,R.pai,fun t b=>R.kd a b⟩ fun n c=>by rw[if_pos c]
 rw[pQ (g:=fD D) (fun n c=>by rw[if_pos c]) D.length];exact R.lds a
def lM (a:n7 W) (b:m<=W.row.length):(∃v,cT (top2 W - 1) (wys W eG m)=some v)↔Can W m eG:=by
 constructor
 ·rintro⟨v,e⟩;obtain⟨c,R,i,_⟩:=iT a b e;rw[<- i];exact zg a c R
 rintro⟨f,d,h,g⟩;have c:Dok W (acI (nm W) f m):=jV a (List.Perm.refl _) b d;exact abk.mp ((Lj a b).mpr ⟨_,Frw.ofD a c (Hf a b d h g),by rw[d_,pL]⟩)
def Can.more (h:Can W m b) (a:b<=c):Can W m c :=
 let ⟨f,h1,h2,h3⟩:=h
 ⟨f,h1,h2,fun l d=>Int.le_trans (h3 l d) a⟩
def Can.up (g:n7 W) (h:Can W m b):Can W (m+1) b:=by
 obtain⟨f,d,i,a⟩:=h;have j:0<=b:=by refine Int.le_trans (GX fun x k=>?_) (a (ldF W.tasks f (f "")) (u_.mpr ⟨_,X_.mpr (d _),rfl⟩));obtain⟨t,e,rfl⟩:=u_.mp k;have:=(g.tk t (A_.mp e).1).lo;omega
 refine⟨f,fun n=>ZW (d n),i,fun l c=>?_⟩;unfold lds at c a;rw[List.range_succ,y_] at c;rcases F_.mp c with q | q
 ·exact a l q
 rw[t_.mp q];have:ldF W.tasks f m=0:=by unfold ldF;rw[List.filter_eq_nil_iff.mpr fun t _ z=>by have:=d t.1;have:=aat z;omega];rfl
 rw[this];exact j
def Can.grp (c:n7 W) (f:m<=W.row.length) (h:Can W m b) (a:t∈nm W):cR W.tasks (bY W t)<=b:=by
 obtain⟨v,g⟩:=(lM c f).mpr h;obtain⟨d,R,_,_⟩:=iT c f g;obtain⟨k,s,e,i⟩:=gJ (d.al t a);obtain⟨u,j,rfl⟩:=u_.mp a;refine Int.le_trans (m9 (fun t a=>by have:=(c.tk t a).lo;omega) (((mZ c d).mp R k s e).one u j i).2.2.1) (R.bea s (Zh e))
def Few (W:Wk) (b:Int) (n:Nat):Prop:=(n<=W.row.length/\Can W n b/\∀j,j<n->¬Can W j b)\/(n=99/\∀j,j<=W.row.length->¬Can W j b)
def Few.congr {W f:Wk} (o:f.row=W.row) (a:∀j,Can f j b↔Can W j b) (h:Few W b n) (g:Few f b k) (p:W.row.length<=8):k=n:=by
 unfold Few at g;rw[o] at g;rcases h with ⟨i,d,m⟩ | ⟨i,d⟩ <;> rcases g with ⟨e,c,l⟩ | ⟨e,c⟩
 ·rcases Nat.lt_trichotomy k n with q | q | q
  ·exact absurd ((a k).mp c) (m k q)
  ·exact q
  exact absurd ((a n).mpr d) (l n q)
 ·exact absurd ((a n).mpr d) (c n i)
 ·exact absurd ((a k).mp c) (d k e)
 rw[i,e]
def Few.le (h:Few W b n) (g:Few W c k) (d:b<=c) (m:W.row.length<=8):k<=n:=by
 rcases h with ⟨f,a,l⟩ | ⟨f,a⟩ <;> rcases g with ⟨j,e,i⟩ | ⟨j,e⟩
 ·exact Nat.le_of_not_lt fun q=>i n q (a.more d)
 ·exact absurd (a.more d) (e n f)
 ·omega
 omega
structure Oth (f:Str->Str) (W W2:Wk):Prop where
 inj:∀a∈nm W,∀b∈nm W,f a=f b->a=b
 nmf:∀a∈nm W,isNm (f a)
 tk:W2.tasks.Perm (W.tasks.map fun t=>(f t.1,t.2))
 os:W2.orders.Perm (W.orders.map fun o=>(f o.1,f o.2))
 ps:W2.pairs.Perm (W.pairs.map fun p=>(p.1,f p.2.2,f p.2.1))
 rw:W2.row=W.row
def Oth.nms (t:Oth f W W2):(nm W2).Perm ((nm W).map f):=by
 have:=t.tk.map (·.1);unfold nm;rw[U_] at this ⊢;exact this
def Oth.mem' (t:Oth f W W2) (h:a∈nm W):f a∈nm W2:=t.nms.mem_iff.mpr (u_.mpr ⟨a,h,rfl⟩)
def Oth.ok (t:Oth f W W2) (d:n7 W):n7 W2:=by
 have m:∀{a b:Str},a∈nm W->b∈nm W->a≠b->f a≠f b:=fun j i n e=>n (t.inj _ j _ i e);refine⟨?_,?_,fun x l=>?_,t.nms.nodup_iff.mpr (iu t.inj d.nd),?_,?_,fun x l=>?_,?_,?_,fun x l=>?_,by rw[t.rw];exact d.r1,by rw[t.rw];exact d.r8,by rw[t.rw];exact d.rn⟩
 ·rw[t.tk.length_eq,d_];exact d.t1
 ·rw[t.tk.length_eq,d_];exact d.t8
 ·obtain⟨u,g,rfl⟩:=u_.mp (t.tk.mem_iff.mp l);have h:=d.tk u g;exact⟨t.nmf _ (u_.mpr ⟨u,g,rfl⟩),h.lo,h.hi,h.ks,h.kl⟩
 ·rw[t.os.length_eq,d_];exact d.os
 ·refine t.os.nodup_iff.mpr (iu (fun a j b i e=>?_) d.od);have c:=d.oo a j;have k:=d.oo b i;injection e with e1 e2;exact ab8 (t.inj _ c.2.1 _ k.2.1 e1) (t.inj _ c.2.2 _ k.2.2 e2)
 ·obtain⟨u,g,rfl⟩:=u_.mp (t.os.mem_iff.mp l);have c:=d.oo u g;exact⟨m c.2.1 c.2.2 c.1,t.mem' c.2.1,t.mem' c.2.2⟩
 ·rw[t.ps.length_eq,d_];exact d.ps
 ·refine t.ps.nodup_iff.mpr (iu (fun a j b i e=>?_) d.pd);have c:=d.pp a j;have k:=d.pp b i;injection e with e1 e2;injection e2 with e2 e3;exact ab8 e1 (ab8 (t.inj _ c.2.2.1 _ k.2.2.1 e3) (t.inj _ c.2.2.2 _ k.2.2.2 e2))
 obtain⟨u,g,rfl⟩:=u_.mp (t.ps.mem_iff.mp l);have c:=d.pp u g;exact⟨c.1,m c.2.2.2 c.2.2.1 (Ne.symm c.2.1),t.mem' c.2.2.2,t.mem' c.2.2.1⟩
def Oth.hol (t:Oth f W W2):Hol W2 g↔Hol W fun n=>g (f n):=by
 constructor
 ·intro H;exact⟨fun o b=>H.ord _ (t.os.mem_iff.mpr (u_.mpr ⟨o,b,rfl⟩)),fun p e=>by rw[<- H.pai _ (t.ps.mem_iff.mpr (u_.mpr ⟨p,e,rfl⟩))];exact eq_comm,
   fun x d=>by have:=H.kin _ (t.tk.mem_iff.mpr (u_.mpr ⟨x,d,rfl⟩));rwa [t.rw] at this⟩
 intro H;refine⟨fun o b=>?_,fun p e=>?_,fun x d=>?_⟩
 ·obtain⟨o,c,rfl⟩:=u_.mp (t.os.mem_iff.mp b);exact H.ord o c
 ·obtain⟨p,a,rfl⟩:=u_.mp (t.ps.mem_iff.mp e);rw[<- H.pai p a];exact eq_comm
 obtain⟨x,h,rfl⟩:=u_.mp (t.tk.mem_iff.mp d);rw[t.rw];exact H.kin x h
def Oth.lds (t:Oth f W W2) (m:Nat):lds W2 g m=lds W (fun n=>g (f n)) m:=by
 unfold M.lds;refine aar fun k _=>?_;unfold ldF;have p:=(t.tk.filter fun t=>decide (g t.1=k)).map (·.2.1);rw[GJ p,List.filter_map,U_];rfl
def Oth.can (t:Oth f W W2) (k:n7 W):Can W2 m b↔Can W m b:=by
 constructor
 ·rintro⟨g,c,d,i⟩;exact⟨fun n=>g (f n),fun n=>c _,t.hol.mp d,by rw[<- t.lds];exact i⟩
 rintro⟨h,c,d,i⟩
 classical
 let g:Str->Nat:=fun x=>if z:∃n,n∈nm W/\f n=x then h (Classical.choose z) else h ""
 have e:∀n∈nm W,h n=g (f n):=fun n j=>by
  have z:∃a,a∈nm W/\f a=f n:=⟨n,j,rfl⟩;show h n=if z:∃a,a∈nm W/\f a=f n then h (Classical.choose z) else h ""
  rw[dif_pos z];have:=Classical.choose_spec z;rw[t.inj _ this.1 _ j this.2]
 refine⟨g,fun n=>?_,t.hol.mpr (d.congr k e),by rw[t.lds,<- pQ e];exact i⟩;show (if z:∃a,a∈nm W/\f a=n then h (Classical.choose z) else h "")<m;split
 ·exact c _
 exact c _
def lN (c:n7 W):n7 W.turn:=by
 refine⟨c.t1,c.t8,c.tk,c.nd,?_,?_,fun x d=>?_,c.ps,c.pd,c.pp,?_,?_,fun x d=>c.rn x (aaz.mp d)⟩
 ·show (W.orders.map _).length<=28;rw[d_];exact c.os
 ·refine iu (fun a _ b _ e=>?_) c.od;injection e with e1 e2;exact ab8 e2 e1
 ·obtain⟨o,f,rfl⟩:=u_.mp d;have:=c.oo o f;exact⟨Ne.symm this.1,this.2.2,this.2.1⟩
 ·show 1<=W.row.reverse.length;rw[Q_];exact c.r1
 show W.row.reverse.length<=8;rw[Q_];exact c.r8
def Bk (W:Wk):W.turn.turn=W:=by
 obtain⟨a,b,c,d⟩:=W;unfold Wk.turn;simp only[U_,List.reverse_reverse];congr 1;exact List.map_id b
def zj (m:n7 W) (h:Dok W.turn D) (i:D.length=W.row.length) (R:Rgt W.turn eG D (fD D)):Dok W D.reverse/\Rgt W eG D.reverse (fD D.reverse):=by
 have c:D.reverse.flatten.Perm D.flatten:=(abi D).flatten;have r:Dok W D.reverse:=⟨by rw[Q_,i];exact k_ _,fun x z=>h.st x (c.mem_iff.mp z),c.nodup_iff.mpr h.nd,fun n l=>c.mem_iff.mpr (h.al n l)⟩;have u:∀{k s},D[k]?=some s->k<W.row.length:=fun e=>by rw[<- i];exact (ZC.mp e).1
 have a:∀n∈nm W,fD D n<W.row.length/\fD D.reverse n=W.row.length - 1 - fD D n:=fun n l=>by obtain⟨k,s,e,b⟩:=gJ (h.al n l);have:=u e;rw[d7 h.nd e b];refine⟨this,d7 r.nd (s:=s) ?_ b⟩;rw[aba (by omega),i,show W.row.length - 1 - (W.row.length - 1 - k)=k by omega];exact e
 refine⟨r,fun o q=>?_,fun p c=>?_,fun k s e t y b=>?_,fun s b=>R.bea s (aaz.mp b)⟩
 ·have v:fD D o.2<=fD D o.1:=R.ord _ (u_.mpr ⟨o,q,rfl⟩);have ⟨_,g,f⟩:=m.oo o q;have d:=a _ g;have j:=a _ f;rw[d.2,j.2];omega
 ·have v:fD D p.2.1=fD D p.2.2↔p.1="with":=R.pai p c;have ⟨_,g,f⟩:=(m.pp p c).2;have d:=a _ g;have j:=a _ f;rw[d.2,j.2,<- v];omega
 have A:k<D.length:=by have:=(ZC.mp e).1;rwa [Q_] at this
 rw[aba A] at e;have w:=u e;have:=R.kin _ s e t y b;rw[<- this];show _=kZ t.2.2 (W.row.reverse.getD (D.length - 1 - k) "");congr 1;rw[i_,i_,aba w];congr 2;omega
def uO (a:n7 W) (h:Can W.turn W.row.length b):Can W W.row.length b:=by
 have e:W.turn.row.length=W.row.length:=Q_;obtain⟨v,f⟩:=(lM (lN a) (aaM e.symm)).mpr h;obtain⟨g,R,d,_⟩:=iT (lN a) (aaM e.symm) f;obtain⟨c,R2⟩:=zj a g d R;have:=zg a c R2
 rwa [Q_,d] at this
def Bm (a:n7 W):Can W.turn W.row.length b↔Can W W.row.length b:=by
 refine⟨uO a,fun h=>?_⟩;have e:W.turn.row.length=W.row.length:=Q_;have:=uO (W:=W.turn) (b:=b) (lN a);rw[Bk,e] at this;exact this h
def wyT (v:List Nat):T:=.tup (v.map bD)
def wyE (e:Nat × List Nat):T:=.tup [.int (e.1:Int),wyT e.2]
def Xr (E:Wy):(dI wyT E).map itT=E.map wyE:=by unfold dI;rw[U_];rfl
def wbF (W:Wk) (eG:Int) (k:Nat) (B:Wy) (e:Nat × List Nat):Wy:=(gfl W eG k e.1).foldl (iV e.1 e.2) B
def Xu:Sp3:=fun ts H Q=>∃(a:Addr) (fs:List Nat),ts=[.ref a]/\H a=some (.lst (fs.map bD))/\fs.length<=256/\∀p,H p=none->Q (.ref p) (fY H p (.lst ((gre bK fs).reverse.map bD)))
def rB (a:b->b->Bool):∀xs:List b,(gre a xs).length<=xs.length
 |[]=>k_ _
 |n::B=>by
  have:=rB a B
  unfold gre
  split
  ·
   rw[p_];omega
  ·
   rw[g_,p_];simp only[p_,ZQ];omega
def Xv (C:Addr):Sp3:=fun ts H Q=>∃(a:Addr) (W:Wk) (eG:Int) (k d:Nat),ts=[.ref a,.int (k:Int),.int (d:Int)]/\n7 W/\Wlk C W eG H a/\k<W.row.length/\d<top2 W/\∀p,H p=none->Q (.ref p) (fY H p (.lst ((gfl W eG k d).map bD)))
def Xw (C:Addr):Sp3:=fun ts H Q=>∃(a q:Addr) (W:Wk) (eG:Int) (k n:Nat) (E:Wy),ts=[.ref a,.int (k:Int),.ref q]/\n7 W/\Wlk C W eG H a/\k<W.row.length/\n<=8/\WOk W n E/\H q=some (.dci (dI wyT E))/\∀o p,H p=none->Q (.ref p) (fY (fY H q (.dif o (dI wyT E))) p (.dci (dI wyT (wbh W eG k E))))
def dtT (W:Wk) (eG:Int) (m:Nat):T:=match cT (top2 W - 1) (wys W eG m) with
 |none=>.non
 |some v=>.tup ((v.map (pk W)).map sT)
def TX:Sp3:=fun ts H Q=>∃(W:Wk) (eG:Int) (m:Nat),ts=[W.enc,.int eG,.int (m:Int)]/\n7 W/\m<=W.row.length/\Q (dtT W eG m) H
def TY (a:n7 W) (b:r.length=W.row.length) (d:∀x∈r,x∈W.row):n7 ⟨W.tasks,W.orders,W.pairs,r⟩ :=
 ⟨a.t1,a.t8,a.tk,a.nd,a.os,a.od,a.oo,a.ps,a.pd,a.pp,by show 1<=r.length;rw[b];exact a.r1,by show r.length<=8;rw[b];exact a.r8,fun x c=>a.rn x (d x c)⟩
def Xx:Sp3:=fun ts H Q=>∃(W:Wk) (c:Int),ts=[W.enc,.int c]/\n7 W/\∀r:List Str,r.length=W.row.length->(∀x∈r,x∈W.row)->Q (Wk.enc ⟨W.tasks,W.orders,W.pairs,r⟩) H
def Xy:Sp3:=fun ts H Q=>∃W:Wk,ts=[W.enc]/\n7 W/\Q W.turn.enc H
def Xz (C:Addr):qO:=fun ts H Q E=>∃(W:Wk) (eG:Int),ts=[W.enc,.int eG]/\n7 W/\Q .non H/\∀t∈nm W,¬cR W.tasks (bY W t)<=eG->∀fs,E C fs H
def XC (b a:Addr):qO:=fun ts H Q E=>∃(W:Wk) (eG:Int),ts=[W.enc,.int eG]/\n7 W/\(∀(n:Nat) (t:T),n<=W.row.length->Can W n eG->(∀j,j<n->¬Can W j eG)->Q (.tup [.int (n:Int),t]) H)/\((∀j,j<=W.row.length->¬Can W j eG)->∀C fs,C=b\/C=a->E C fs H)
def XD:Sp3:=fun ts H Q=>∃(W:Wk) (eG:Int),ts=[W.enc,.int eG]/\n7 W/\∀n:Nat,Few W eG n->Q (.int (n:Int)) H
def XF:Sp3:=fun ts H Q=>∃(W:Wk) (c:Int),ts=[W.enc,.int c]/\n7 W/\∀(f:Str->Str) (W2:Wk),Oth f W W2->Q W2.enc H
def gex (o:O3) (h:H p=none):∃H',fY H p o=H'/\eH H H'/\H' p=some o:=⟨_,rfl,eH.new h,aq⟩
def LR (a:n7 W):(wY W).length<=8:=by
 unfold wY;rw[d_];exact P_ (Zr _ _) (by rw[d_];exact a.t8)
def Ol:∀{ns ws:List Str},ns.length=ws.length->ns.Nodup->ws.Nodup->∃F:Str->Str,(∀n∈ns,aN n (ns.zip (ws.map T.str))=some (.str (F n))/\F n∈ws)/\∀a∈ns,∀b∈ns,F a=F b->a=b
 |[],_,_,_,_=>⟨id,(fun _ h=>nomatch h),(fun _ h=>nomatch h)⟩
 |x::ns,y::ws,hl,c,hw=>by
  obtain⟨F,i,o⟩:=Ol (ns:=ns) (ws:=ws) (by simpa using hl) (ZJ.mp c).2 (ZJ.mp hw).2
  have k:=(ZJ.mp c).1
  have j:=(ZJ.mp hw).1
  have g:∀n∈ns,(if n=x then y else F n)=F n:=fun n c=>if_neg fun (z:n=x)=>k (z▸c)
  refine⟨fun n=>if n=x then y else F n,fun n c=>?_,fun a l b m e=>?_⟩
  ·
   dsimp only
   rw[H_,List.zip_cons_cons]
   unfold aN
   rcases n_.mp c with rfl | c
   ·
    rw[if_pos rfl,if_pos rfl]
    exact⟨rfl,l_⟩
   ·
    rw[if_neg fun (z:x=n)=>k (z▸c),g n c]
    exact⟨(i n c).1,o_ _ (i n c).2⟩
  ·
   dsimp only at e
   rcases n_.mp l with rfl | f <;> rcases n_.mp m with rfl | d
   ·
    rfl
   ·
    rw[if_pos rfl,g b d] at e
    exact absurd (e▸(i b d).2) j
   ·
    rw[if_pos rfl,g a f] at e
    exact absurd (e▸(i a f).2) j
   ·
    rw[g a f,g b d] at e
    exact o a f b d e
section
variable {P:Program}{w:World}{K:Frag}
def zm:Sp3:=fun ts H Q=>∃(a:Addr) (ns:List Int),ts=[.ref a]/\H a=some (.rol (ns.map T.int))/\ns.length<=63/\∀H',Q (.bl true) H'
def cB (W:Wk) (b:Int) (m:Nat):Bool:=(cT (top2 W - 1) (wys W b m)).isSome
def iy (a:n7 W) (c:m<=W.row.length):cB W b m=true↔Can W m b:=by rw[<- lM a c];exact abk
def xg (W:Wk) (b:Int) (m:Nat):(!isN (dtT W b m))=cB W b m:=by
 unfold dtT cB;cases cT (top2 W - 1) (wys W b m) <;> rfl
def thB (W:Wk) (b:Int):List Bool:=(List.range (W.row.length+1)).map (cB W b)
def zp (W:Wk) (b:Int):(thB W b).length=W.row.length+1:=by unfold thB;rw[d_,z_]
def rC (h:m<=W.row.length):(thB W b)[m]?=some (cB W b m):=by
 unfold thB;rw[x_,Zy (by omega)];rfl
def lQ (h:m<=W.row.length):atI ((thB W b).map T.bl) (m:Int)=some (.bl (cB W b m)):=cG (by rw[x_,rC h];rfl)
def Ma (a:n7 W) (h:Few W b n):(!decide (true∈thB W b))=decide ((n:Int)=99):=by
 have j:=a.r8;rw[Zn,abL,aai,q_];rcases h with ⟨d,c,i⟩ | ⟨d,c⟩
 ·exact⟨fun z=>absurd (Zh (by rw[rC d,(iy a d).mpr c])) z,fun z=>by omega⟩
 refine⟨fun _=>by omega,fun _ f=>?_⟩;unfold thB at f;obtain⟨m,g,e⟩:=u_.mp f;have:=X_.mp g;exact c m (by omega) ((iy a (by omega)).mp e)
def T3 (d:n7 W) (h:Few W b n):∃j:Nat,(thB W b++[true])[j]?=some true/\(∀m,m<j->¬(thB W b++[true])[m]?=some true)/\(n=99/\j<=9\/n=j/\j<=8):=by
 have o:=d.r8;have l:=zp W b;have g:∀m,m<=W.row.length->¬Can W m b->¬(thB W b++[true])[m]?=some true:=fun m a i e=>by rw[Zx (by omega),rC a,ab1] at e;exact i ((iy d a).mp e)
 rcases h with ⟨c,f,k⟩ | ⟨c,f⟩
 ·exact⟨n,by rw[Zx (by omega),rC c,(iy d c).mpr f],fun m a=>g m (by omega) (k m a),.inr ⟨rfl,by omega⟩⟩
 exact⟨W.row.length+1,by rw[V_ (by omega),l];simp,fun m a=>g m (by omega) (f m (by omega)),.inl ⟨c,by omega⟩⟩
abbrev zq:List Str:=["_law_script","_law_works_here","_law_stands","_law_beat_here","_law_cell_here","_law_most","_law_greater","_law_there","_law_more","_law_many","_law_few","_law_about","_law_found","_law_back"]
def ace:gk zq ["_law_script"] (aB (top 56)):=bc
def T4 {f:Addr} (g:G3 K mg "law" (top 56) ["_law_script"] f fd) (B:Bl mg) (L:Ow P w K mg base 4 "_law_drawn" (top 50) ["_law_script","_law_most","_law_wide"] Xq) (U:Ow P w K mg base 1 "_law_moved" (top 51) ["_law_works_here","_law_cell_here"] Xx) (d:Ow P w K mg base 7 "dealing_to" (top 37) ["works","beat","many"] TX) (o:Ow P w K mg base 9 "_law_fewest" (top 55) ["_law_works_here","_law_beat_here"] XD) (y:Ow P w K mg base 5 "_law_otherwise" (top 54) ["_law_works_here","_law_cell_here"] XF) (q:Ow P w K mg base 1 "turned_about" (top 18) ["works"] Xy) (l:Ow P w K mg base 2 "_law_is_dealing" (top 53) ["_law_works_here","_law_beat_here","_law_many","_law_found"] Xh):j9 P w K mg base 10 f fd ["_law_script"] zm:=by
 refine fn3 g.fn ace (fun ts H Q h=>?_) (fun cdv A outer s H E ts H3 Q I h=>?_)
 ·obtain⟨a,ns,rfl,_⟩:=h;rfl
 have t:=tR.u30 I;obtain⟨a,ns,rfl,ha,h63,k⟩:=h;refine⟨_,(aj (my (aP L I rfl (aa (v3 0) (aa ao (aa ao ak)))) (cA (n:=4) rfl (aH (aC 1 ace.nd) (aH (aC 2 ace.nd) (aH (aC 3 ace.nd) (aH (aC 4 ace.nd) bI))))))
   (aj (aD 1 ace.nd (aP U I rfl (aa (v3 1) (aa (aG aX (v3 4) ao) ak))))
   (aj (aD 5 ace.nd (aO cC rfl B.len_ cD (aa (aJ My (v3 1) ao) ak)))
   (aj (aD 6 ace.nd (aG aW (v3 3) (aG aV (aG aX (v3 4) ao) ao)))
   (aj (fC (i:=7) rfl ace.nd (b6 56 zq ["_law_many","_law_works_here","_law_beat_here"] 1 [1,3]) (bR rfl B.range_ (aa (aG aW (v3 5) ao) ak)) (fun cl pins s H C0 fp=>⟨(aC 0 (n5 ["_law_many","_law_works_here","_law_beat_here"])),bN,(dO qJ (aP d I rfl (aa (v3 1) (aa (v3 2) (aa (v3 0) ak)))) jM)⟩))
   (aj (fC (i:=8) rfl ace.nd (b6 56 zq ["_law_many","_law_works_here","_law_greater"] 1 [1,6]) (bR rfl B.range_ (aa (aG aW (v3 5) ao) ak)) (fun cl pins s H C0 fp=>⟨(aC 0 (n5 ["_law_many","_law_works_here","_law_greater"])),bN,(dO qJ (aP d I rfl (aa (v3 1) (aa (v3 2) (aa (v3 0) ak)))) jM)⟩))
   (aj (bj I_ rfl (bR rfl B.range_ (aa (aG aW (v3 5) ao) ak)) (aC 9 ace.nd) (aA (bA (PW3.pt (gW (dm (aJ My (v3 7) (v3 9))) (fj (PW3.pt (j8 (gD (dm (aJ My (v3 8) (v3 9)))) (je (PW3.pt (gW (aU Vh (v3 9) (v3 5)) (fj (gD (dm (aJ My (v3 7) (aG aW (v3 9) ao))))))))))))) (aA (aL cP)) aR)))
   (aj (aD 10 ace.nd (aP o I rfl (aa (v3 1) (aa (v3 3) ak))))
   (aj (bA (PW3.pt (j8 (PW3.pt (gW (aU (gM t) (v3 10) (dZ R_ PySem.F.slot_list_index PySem.F.type_list_index KJ (aG aW (v3 7) (bx (aa cP ak))) (aa cP ak))) (fj (aU (gM t) (v3 10) ao)))) (je (aU (gM t) (dO (dC t) (v3 10) ao) (dO KN cP (v3 7)))))) (aA (aL cP)) aR)
   (aj (bA (PW3.pt (j8 (aU (gM t) (aP o I rfl (aa (aP y I rfl (aa (v3 1) (aa (v3 4) ak))) (aa (v3 3) ak))) (v3 10)) (je (aU sJ (aP o I rfl (aa (v3 1) (aa (v3 6) ak))) (v3 10))))) (aA (aL cP)) aR)
   (aj (aD 11 ace.nd (aP q I rfl (aa (v3 1) ak)))
   (aj (aD 12 ace.nd (aP d I rfl (aa (v3 11) (aa (v3 3) (aa (v3 5) ak)))))
   (aj (bA (aU (gM t) (dO qJ (v3 12) jM) (aJ My (v3 7) (v3 5))) (aA (aL cP)) aR)
   (aj (bA (aU Wg (v3 12) jM) (aA (aL cP)) aR)
   (aj (aD 13 ace.nd (bf bW rfl B.tuple_ bC (aa (lE (v3 12) (bV (jj ao))) ak)))
   (aA (aL (Ql (aP l I rfl (aa (v3 11) (aa (v3 3) (aa (v3 5) (aa (v3 12) ak))))) (Cp (aP l I rfl (aa (v3 1) (aa (v3 3) (aa (v3 5) (aa (v3 13) ak)))))))))))))))))))))))),?_⟩
 walk_at "q";walk_at "h";have k':=tL.mk k;clear k;walk_at "s";refine⟨a,ns,7,5,rfl,ha,h63,by decide,by decide,by decide,by decide,fun W sts eG c hW _ _ _ _ p hp=>?_⟩;have hW':=tL.mk hW;try walk_at ""
 generalize fY H3 p (.lst (sts.map fun (s:Nat)=>T.int (s:Int)))=H4;clear hW hp ha h63;walk_at "t";walk_at "n";walk_at "s";refine⟨⟨by decide,by decide +kernel⟩,W,c / 16,rfl,hW'.out,fun r hr1 hr2=>?_⟩;have u:=tL.mk (TY hW'.out hr1 hr2);try dsimp only
 generalize (⟨W.tasks,W.orders,W.pairs,r⟩:Wk)=V at u ⊢;have r8:=u.out.r8;clear hW' hr1 hr2;walk_at "n";walk_at "s";walk_at "n";walk_at "s";refine⟨⟨by decide,by decide +kernel⟩,by decide,?_⟩;have C:tL (eG<=eG+c / 8%10):=⟨by have:=S_ (c / 8) (show (10:Int)≠0 by decide);omega⟩;generalize eG+c / 8%10=J at C ⊢;walk_at "n";walk_at "s";refine⟨trivial,by omega,by omega,?_⟩;rw[show (V.row.length:Int)+1=((V.row.length+1:Nat):Int) by omega,kE];walk_at "c";refine bH (fun (j:Nat)=>T.int (j:Int)) (fun j=>T.bl (cB V eG j)) (List.range (V.row.length+1)) [some V.enc,some (.int eG)] trivial (by rw[z_];omega) ?c1 ?c2
 case c1 =>
  intro j hj Q' hq
  rw[<- xg] at hq
  have hq':=tL.mk hq
  have hj':=X_.mp hj
  clear hq hj k' C
  walk_at ""
  exact⟨V,eG,j,rfl,u.out,by omega,hq'.out⟩
 rw[show (List.range (V.row.length+1)).map (fun j=>T.bl (cB V eG j))=(thB V eG).map T.bl from by unfold thB;rw[U_];rfl];intro p1 hp1;obtain⟨H5,e,_,g1⟩:=gex (.lst ((thB V eG).map T.bl)) hp1;rw[e];clear hp1 e;walk_at "n";walk_at "s";refine⟨trivial,by omega,by omega,?_⟩;rw[show (V.row.length:Int)+1=((V.row.length+1:Nat):Int) by omega,kE];walk_at "c";refine bH (fun (j:Nat)=>T.int (j:Int)) (fun j=>T.bl (cB V J j)) (List.range (V.row.length+1)) [some V.enc,some (.int J)] trivial (by rw[z_];omega) ?c3 ?c4
 case c3 =>
  intro j hj Q' hq
  rw[<- xg] at hq
  have hq':=tL.mk hq
  have hj':=X_.mp hj
  clear hq hj k' C
  walk_at ""
  exact⟨V,J,j,rfl,u.out,by omega,hq'.out⟩
 rw[show (List.range (V.row.length+1)).map (fun j=>T.bl (cB V J j))=(thB V J).map T.bl from by unfold thB;rw[U_];rfl];intro p2 hp2;obtain⟨H6,e,s6,g3⟩:=gex (.lst ((thB V J).map T.bl)) hp2;rw[e];have g2:=s6 _ _ g1;clear hp2 g1 e s6;walk_at "n";refine au fun R6 hR6=>?_;walk_at "";refine⟨trivial,by omega,by omega,?_⟩;rw[show (V.row.length:Int)+1=((V.row.length+1:Nat):Int) by omega,kE];have hc:=tL.mk fun (m:Nat) (Y:m<=V.row.length)=>iy (b:=eG) u.out Y;have hd:=tL.mk fun (m:Nat) (Y:m<=V.row.length)=>iy (b:=J) u.out Y;refine aZ (fun (j:Nat)=>T.int (j:Int)) (List.range (V.row.length+1)) (fun A Z H=>∃(v9 X O R M:Option T),Z=[some (.ref a),some V.enc,some (.ref p),some (.int eG),some (.int c),some (.int (V.row.length:Int)),some (.int J),some (.ref p1),some (.ref p2),v9,X,O,R,M]/\H=H6) ⟨_,_,_,_,_,rfl,rfl⟩ ?_ ?_;rotate_left
 ·rintro A m B Z H N e ⟨v9,X,O,R,M,rfl,rfl⟩ hN;walk_at "t";have Y:m<=V.row.length:=by
   have:m∈List.range (V.row.length+1):=by rw[e];simp
   have:=X_.mp this;omega
  have a1:=lQ (W:=V) (b:=eG) Y;have a2:=lQ (W:=V) (b:=J) Y;have hN':tL (N [some (.ref a),some V.enc,some (.ref p),some (.int eG),some (.int c),some (.int (V.row.length:Int)),some (.int J),some (.ref p1),some (.ref p2),some (.int (m:Int)),X,O,R,M] H):=⟨hN _ _ ⟨_,_,_,_,_,rfl,rfl⟩⟩;clear hN e k' hR6;cases c1:cB V eG m with
  |false=>rw[c1] at a1;clear c1 hc hd;walk_at "";exact hN'.out
  |true =>
   have m1:=(hc.out m Y).mp c1
   have c2:=(hd.out m Y).mpr (m1.more C.out)
   rw[c1] at a1
   rw[c2] at a2
   by_cases c3:m<V.row.length
   ·
    have c4:=(hc.out (m+1) c3).mpr (m1.up u.out)
    have a3:=lQ (W:=V) (b:=eG) (m:=m+1) c3
    rw[c4] at a3
    have e3:(m:Int)+1=((m+1:Nat):Int):=by omega
    have d3:((m:Int)<(V.row.length:Int))=True:=by simp;omega
    clear c1 c2 c4 hc hd m1
    walk_at ""
    exact hN'.out
   ·
    have d3:((m:Int)<(V.row.length:Int))=False:=by simp;omega
    clear c1 c2 hc hd m1
    walk_at ""
    exact hN'.out
 rintro Z H ⟨v9,X,O,R,M,rfl,rfl⟩;walk_at "t";walk_at "n";walk_at "s";refine⟨V,eG,rfl,u.out,fun n hn=>?_⟩;have G:=tL.mk hn;clear hn hc hd;walk_at "n";refine au fun R8 hR8=>?_;walk_at "";refine⟨by decide,fun p3 hp3=>?_⟩;obtain⟨H7,e,s7,_⟩:=gex (.lst [T.bl true]) hp3;rw[e];have g4:=s7 _ _ g2;clear e s7;have lth:=zp V eG
 walk_at "";refine⟨by omega,fun p4 hp4=>⟨⟨trivial,trivial⟩,?_⟩⟩;rw[show (thB V eG).map T.bl++[T.bl true]=(thB V eG++[true]).map T.bl from by rw[y_];rfl,gF,fM];obtain⟨H8,e,s8,_⟩:=gex (.lst ((thB V eG++[true]).map T.bl)) hp4;rw[e];have g5:=s8 _ _ g4;clear e s8;have S:=Ma u.out G.out;obtain⟨j,j1,j2,j3⟩:=T3 u.out G.out;refine⟨j,j1,j2,?_⟩;have j4:¬((n:Int)=99/\(n:Int)=(j:Int))/\((n:Int)=99\/(n:Int)=(j:Int)):=by omega
 clear g4 g2 g3 hp4 hp3 j1 j2 j3
 suffices fin:R8 { nx:=fun x H'=>t6 Q T.non H',rt:=t6 Q} [some (T.ref a),some V.enc,some (T.ref p),some (T.int eG),some (T.int c),some (T.int (V.row.length:Int)),some (T.int J),some (T.ref p1),some (T.ref p2),v9,some (T.int (n:Int)),O,R,M] H8 by
  have fin':=tL.mk fin;clear fin hR8 G k' C;by_cases c9:(n:Int)=99
  ·have d1:decide ((n:Int)=99)=true:=N_ c9;have d2:decide ((n:Int)=(j:Int))=false:=E_ fun z=>j4.1 ⟨c9,z⟩;rw[d1] at S;clear c9 j4 lth;walk_at "";refine⟨p1,true,_,rfl,rfl,g5,?_⟩;rw[S];walk_at "";exact fin'.out
  have d1:decide ((n:Int)=99)=false:=E_ c9;have d2:decide ((n:Int)=(j:Int))=true:=N_ (j4.2.resolve_left c9);rw[d1] at S;clear c9 j4 lth;walk_at "";refine⟨p1,true,_,rfl,rfl,g5,?_⟩;rw[S];walk_at "";exact fin'.out
 clear S j4 lth;walk_at "n";refine au fun R9 hR9=>?_;walk_at "";refine⟨V,c,rfl,u.out,fun f2 W2 ho=>⟨W2,eG,rfl,ho.ok u.out,fun k1 hk=>?_⟩⟩;have e1:=Few.congr ho.rw (fun j=>ho.can u.out) G.out hk r8;subst e1;clear hk ho;have r9:=tL.mk hR9;clear hR9;walk_at "";refine⟨V,J,rfl,u.out,fun k2 hk2=>?_⟩;have e2:=Few.le G.out hk2 C.out r8;have d2:decide ((k1:Int)<(k2:Int))=false:=E_ (by omega);clear hk2 G e2 C;walk_at "";have hR9:=r9.out;walk_at "n";walk_at "s";refine⟨V,rfl,u.out,?_⟩;try dsimp only
 walk_at "n";walk_at "s";have hT:=tL.mk (lN u.out);have eT:V.turn.row.length=V.row.length:=Q_;refine⟨V.turn,eG,V.row.length,rfl,hT.out,aaM eT.symm,?_⟩;try dsimp only
 have ec:(!isN (dtT V.turn eG V.row.length))=cB V eG V.row.length:=by rw[xg,Zn,iy hT.out (aaM eT.symm),iy u.out (k_ _)];exact Bm u.out
 have a1:=lQ (W:=V) (b:=eG) (k_ _);walk_at "n";walk_at "s";clear ec a1 g5;walk_at "n";refine au fun R13 hR13=>?_;unfold dtT;cases ev:cT (top2 V.turn - 1) (wys V.turn eG V.row.length) with
 |none=>clear ev hR13;walk_at "";exact t6.of eH.refl (k'.out _)
 |some v =>
 obtain⟨q1,q2,q3,q4⟩:=iT hT.out (aaM eT.symm) ev;obtain⟨q5,q6⟩:=zj u.out q1 q3 q2;clear ev;dsimp only;generalize v.map (pk V.turn)=D at q1 q2 q3 q4 q5 q6 ⊢;walk_at "";walk_at "n";walk_at "s";walk_at "t";try rw[<- aaq]
 try walk_at ""
 walk_at "n";walk_at "";refine⟨V.turn,eG,V.row.length,D,rfl,hT.out,q3,q4,q1,q2,?_⟩;try walk_at ""
 refine⟨V,eG,V.row.length,D.reverse,rfl,u.out,by rw[Q_];exact q3,fun s hs=>q4 s (aaz.mp hs),q5,q6,?_⟩;exact t6.of eH.refl (k'.out _)
abbrev dz:List Str:=["_law_works_here","_law_cell_here","_law_names","_law_others","_law_new","_law_at","_law_tasks","_law_orders","_law_pairs"]
def Pr:gk dz ["_law_works_here","_law_cell_here"] (aB (top 54)):=bc
def rD {f:Addr} (g:G3 K mg "_law_otherwise" (top 54) ["_law_works_here","_law_cell_here"] f fd) (B:Bl mg) (y:Ow P w K mg base 2 "_law_pool" (top 44) ["_law_cell_here"] Tz):Ow P w K mg base 5 "_law_otherwise" (top 54) ["_law_works_here","_law_cell_here"] XF:=by
 refine c6 g Pr ?_;rintro _ _ _ s H _ ts _ _ hr ⟨W,c,rfl,hW,kk⟩;have q:=tR.u1 hr;refine⟨_,(aj (fC (i:=2) rfl Pr.nd (b6 54 dz ["_law_task_here"] 1 []) (bF (aJ My (v3 0) ao)) (fun cl m s H C0 fp=>⟨(aC 0 (n5 ["_law_task_here"])),bN,(aJ My (v3 0) ao)⟩))
   (aj (aD 3 Pr.nd (gY (J2 (aP y hr rfl (aa (aG aX (v3 1) ao) ak)) (bV (jj ao))) cX (bV (aO cC rfl B.len_ cD (aa (v3 2) ak)))))
   (aj (aD 4 Pr.nd (WX rfl rfl B.dict_ rfl B.zip_ (aa (v3 2) (aa (v3 3) ak))))
   (aj (aD 5 Pr.nd (aG aV (v3 1) (aO cC rfl B.len_ cD (aa (v3 2) ak))))
   (aj (fC (i:=6) rfl Pr.nd (b6 54 dz ["_law_name","_law_length","_law_kinds","_law_new"] 3 [4]) (bF (aG aW (fZ (aJ My (v3 0) ao) (bV (v3 5)) cX) (fZ (aJ My (v3 0) ao) cX (bV (v3 5))))) (fun cl m s H C0 fp=>⟨(cA (n:=3) rfl (aH (aC 0 (n5 ["_law_name","_law_length","_law_kinds","_law_new"])) (aH (aC 1 (n5 ["_law_name","_law_length","_law_kinds","_law_new"])) (aH (aC 2 (n5 ["_law_name","_law_length","_law_kinds","_law_new"])) bI)))),bN,(bB (aa (dh q (v3 3) (v3 0)) (aa (v3 1) (aa (v3 2) ak))))⟩))
   (aj (fC (i:=7) rfl Pr.nd (b6 54 dz ["_law_one","_law_other","_law_new"] 2 [4]) (bF (lE (aJ My (v3 0) ao) (bV (jj ao)))) (fun cl m s H C0 fp=>⟨(cA (n:=2) rfl (aH (aC 0 (n5 ["_law_one","_law_other","_law_new"])) (aH (aC 1 (n5 ["_law_one","_law_other","_law_new"])) bI))),bN,(bB (aa (dh q (v3 2) (v3 0)) (aa (dh q (v3 2) (v3 1)) ak)))⟩))
   (aj (fC (i:=8) rfl Pr.nd (b6 54 dz ["_law_word_here","_law_one","_law_other","_law_new"] 3 [4]) (bF (lE (aJ My (v3 0) ao) (bV (jj ao)))) (fun cl m s H C0 fp=>⟨(cA (n:=3) rfl (aH (aC 0 (n5 ["_law_word_here","_law_one","_law_other","_law_new"])) (aH (aC 1 (n5 ["_law_word_here","_law_one","_law_other","_law_new"])) (aH (aC 2 (n5 ["_law_word_here","_law_one","_law_other","_law_new"])) bI)))),bN,(bB (aa (v3 0) (aa (dh q (v3 3) (v3 2)) (aa (dh q (v3 3) (v3 1)) ak))))⟩))
   (aA (aL (bB (aa (bf bW rfl B.tuple_ bC (aa (v3 6) ak)) (aa (bf bW rfl B.tuple_ bC (aa (v3 7) ak)) (aa (bf bW rfl B.tuple_ bC (aa (v3 8) ak)) (aa (aJ My (v3 0) ao) ak)))))))))))))),?_⟩
 walk_at "q";walk_at "h";have L:=tL.mk kk;clear kk;have t8:=hW.t8;have t1:=hW.t1;have nl:(nm W).length=W.tasks.length:=fP W;have l:=tL.mk hW;clear hW;walk_at "s";walk_at "c";refine bH tkT (fun t=>T.str t.1) W.tasks [] trivial (by omega) ?c1 ?c2
 case c1 =>
  intro t Y Q' b
  clear L
  simp only[tkT]
  walk_at ""
  try exact b
 intro pn hpn;obtain⟨H4,e,sb0,S⟩:=gex (.lst ((nm W).map T.str)) hpn;rw[show W.tasks.map (fun t=>T.str t.1)=(nm W).map T.str by unfold nm;rw[U_];rfl,e];clear e hpn;walk_at "n";walk_at "s";refine⟨⟨by decide,by decide +kernel⟩,c / 64,rfl,fun us h8 hN p1 I=>?_⟩;dsimp only;rw[Ew,aq,Ex];refine⟨rfl,fun p2 k=>?_⟩;rw[<- aaq];obtain⟨H5,e,s5,g1⟩:=gex (.lst (us.reverse.map T.str)) k;rw[e];have V:=sb0.trans ((eH.new I).trans s5);have gn1:=s5 _ _ ((eH.new I) _ _ S);clear sb0 S I k e s5;walk_at "";intro p3 hp3;rw[show ∀ts:List T,eZ ts none (some (W.tasks.length:Int))=ts.take W.tasks.length from fun ts=>jP,<- ab7];have lw:(us.reverse.take W.tasks.length).length=W.tasks.length:=by rw[aam,Q_];omega
 have nw:(us.reverse.take W.tasks.length).Nodup:=(List.take_sublist _ _).nodup ((abi us).nodup_iff.mpr hN.nd);have iw:∀x∈us.reverse.take W.tasks.length,isNm x:=fun x hx=>hN.nm x (aaz.mp (List.mem_of_mem_take hx));generalize us.reverse.take W.tasks.length=ws at lw nw iw ⊢;obtain⟨H6,e,s6,g3⟩:=gex (.lst (ws.map T.str)) hp3;rw[e];have sb2:=V.trans s6;have z:=s6 _ _ gn1;clear V gn1 g1 hp3 hN h8 e s6;walk_at "n";walk_at "s";refine⟨pn,p3,nm W,ws.map T.str,rfl,z,g3,by rw[d_];omega,by omega,l.out.nd,fun pd O=>?_⟩;obtain⟨F,hF,hI⟩:=Ol (ns:=nm W) (ws:=ws) (by omega) l.out.nd nw;have a:tL (∀n∈nm W,aN n ((nm W).zip (ws.map T.str))=some (.str (F n))):=⟨fun n hn=>(hF n hn).1⟩;have hO:tL (∀n∈nm W,isNm (F n)):=⟨fun n hn=>iw _ (hF n hn).2⟩;have r:=tL.mk hI;obtain⟨H7,e,s7,C⟩:=gex (.dct ((nm W).zip (ws.map T.str))) O;rw[e];have sb3:=sb2.trans s7;have gn3:=s7 _ _ z;clear e s7;generalize (nm W).zip (ws.map T.str)=kv at a C;clear sb2 z g3 O hF hI nw iw lw;walk_at "n";have m0:=S_ c (show (W.tasks.length:Int)≠0 by omega);have m1:=M_ c (show (0:Int)<(W.tasks.length:Int) by omega);obtain⟨j,hj⟩:∃j:Nat,c%(W.tasks.length:Int)=(j:Int):=⟨(c%(W.tasks.length:Int)).toNat,by omega⟩;have cd:yg c (W.tasks.length:Int):=⟨by omega,aaL (aa6 _) (by omega)⟩;walk_at "s";refine⟨by omega,?_⟩;walk_at "n";refine au fun R4 hR4=>?_;walk_at "";rw[mG,jP,<- List.map_drop,<- ab7,<- y_];have M:(W.tasks.drop j++W.tasks.take j).Perm W.tasks:=List.perm_append_comm.trans (by rw[List.take_append_drop]);refine⟨by rw[d_,d_,abr,aam];omega,?_⟩;generalize W.tasks.drop j++W.tasks.take j=d at M ⊢;have l2:=M.length_eq;walk_at "c";rw[show d.map tkT=d.map (fun t=>T.tup [T.str t.1,T.int t.2.1,T.tup (t.2.2.map T.str)]) from rfl];refine mL (fun t:Str × Int × List Str=>.str t.1) (fun t=>.int t.2.1) (fun t=>.tup (t.2.2.map T.str)) (fun t=>tkT (F t.1,t.2)) (fun _=>true) d [some (.ref pd)] trivial (by omega) (fun t Y Q' b=>b) (fun t Y _ Q' b=>?_) ?_
 ·have lk:=a.out t.1 (u_.mpr ⟨t,M.mem_iff.mp Y,rfl⟩);have u:=tL.mk b;clear b L a hO r M Y hR4;walk_at "";exact⟨by decide,u.out⟩
 rw[List.filter_eq_self.mpr fun _ _=>rfl,show d.map (fun t=>tkT (F t.1,t.2))=(d.map fun t=>(F t.1,t.2)).map tkT from by rw[U_];rfl];have k:=M.map fun t=>(F t.1,t.2);generalize d.map (fun t=>(F t.1,t.2))=t3 at k ⊢;clear M l2;intro p4 hp4;obtain⟨H8,e,s8,g4⟩:=gex (.lst (t3.map tkT)) hp4;rw[e];have sb4:=sb3.trans s8;have U:=s8 _ _ C;clear sb3 gn3 C hp4 e s8;have o28:=l.out.os;have p12:=l.out.ps;walk_at "n";refine au fun R5 hR5=>?_;walk_at "";walk_at "t";walk_at "c";rw[<- aaq,show W.orders.reverse.map orT=W.orders.reverse.map (fun o=>T.tup [T.str o.1,T.str o.2]) from rfl];refine gZ (fun o:Str × Str=>T.str o.1) (fun o=>T.str o.2) (fun o=>orT (F o.1,F o.2)) W.orders.reverse [some (.ref pd)] trivial (by rw[Q_];omega) (fun o X Q' b=>?_) ?_
 ·have D:=l.out.oo o (aaz.mp X);have lk1:=a.out o.1 D.2.1;have lk2:=a.out o.2 D.2.2;have u:=tL.mk b;clear b L a hO r X D hR5;walk_at "";exact⟨by decide,u.out⟩
 rw[show W.orders.reverse.map (fun o=>orT (F o.1,F o.2))=(W.orders.reverse.map fun o=>(F o.1,F o.2)).map orT from by rw[U_];rfl];have J:=(abi W.orders).map fun o=>(F o.1,F o.2);generalize W.orders.reverse.map (fun o=>(F o.1,F o.2))=o3 at J ⊢;intro p5 hp5;obtain⟨H9,e,s9,g5⟩:=gex (.lst (o3.map orT)) hp5;rw[e];have sb5:=sb4.trans s9;have gd5:=s9 _ _ U;have Z:=s9 _ _ g4;clear sb4 U g4 hp5 e s9;walk_at "n";refine au fun R6 hR6=>?_;walk_at "";walk_at "t";walk_at "c";rw[<- aaq,show W.pairs.reverse.map prT=W.pairs.reverse.map (fun p=>T.tup [T.str p.1,T.str p.2.1,T.str p.2.2]) from rfl];refine mL (fun p:Str × Str × Str=>.str p.1) (fun p=>.str p.2.1) (fun p=>.str p.2.2) (fun p=>prT (p.1,F p.2.2,F p.2.1)) (fun _=>true) W.pairs.reverse [some (.ref pd)] trivial (by rw[Q_];omega) (fun t Y Q' b=>b) (fun p X _ Q' b=>?_) ?_
 ·have D:=l.out.pp p (aaz.mp X);have lk1:=a.out p.2.1 D.2.2.1;have lk2:=a.out p.2.2 D.2.2.2;have u:=tL.mk b;clear b L a hO r X D hR6;walk_at "";exact⟨by decide,u.out⟩
 rw[List.filter_eq_self.mpr fun _ _=>rfl,show W.pairs.reverse.map (fun p=>prT (p.1,F p.2.2,F p.2.1))=(W.pairs.reverse.map fun p=>(p.1,F p.2.2,F p.2.1)).map prT from by rw[U_];rfl];have G:=(abi W.pairs).map fun p=>(p.1,F p.2.2,F p.2.1);generalize W.pairs.reverse.map (fun p=>(p.1,F p.2.2,F p.2.1))=q3 at G ⊢;intro p6 R;obtain⟨H10,e,v,g6⟩:=gex (.lst (q3.map prT)) R;rw[e];have sb6:=sb5.trans v;have g46:=v _ _ Z;have g56:=v _ _ g5;clear sb5 gd5 Z g5 R e v;have fin:=tL.mk (L.out F ⟨t3,o3,q3,W.row⟩ ⟨r.out,hO.out,k,J,G,rfl⟩);clear L r hO k J G a;walk_at "n";walk_at "";exact⟨by decide,t6.of sb6 fin.out⟩
abbrev uP:List Str:=["_law_works_here","_law_beat_here","_law_found"]
def acQ:gk uP ["_law_works_here","_law_beat_here"] (aB (top 55)):=bc
def Bo {f:Addr} (g:G3 K mg "_law_fewest" (top 55) ["_law_works_here","_law_beat_here"] f m) (B:Bl mg) (b:agN K mg "RowError" C_RowError) (j:∀C,C=C_TooLong\/C=C_NoRoom->mroIn K C (.ref C_RowError)=some true) (a:aer P w K mg base 8 "fewest_stands" (top 39) ["works","beat"] (XC C_TooLong C_NoRoom)):Ow P w K mg base 9 "_law_fewest" (top 55) ["_law_works_here","_law_beat_here"] XD:=by
 refine c6 g acQ ?_;rintro _ _ _ s _ _ _ H3 Q u ⟨W,eG,rfl,v,q⟩;refine⟨_,(aj (aD 2 acQ.nd ao)
   (aj (Gs b rfl rfl rfl (fun G M J L F=>(aA (aD 2 acQ.nd (aJ My (Gr a F (u.mono (by decide)) rfl (aa (v3 0) (aa (v3 1) ak))) ao)))) (fun I=>(aA (aD 2 acQ.nd ao))))
   (aA (aL (v3 2))))),?_⟩
 walk_at "q";walk_at "h";have e:=tL.mk q;clear q;walk_at "s";walk_at "n";refine au fun D k=>?_;have key:∀n:Nat,Few W eG n->D { nx:=fun _ H'=>t6 Q T.non H',rt:=t6 Q} [some W.enc,some (T.int eG),some (T.int (n:Int))] H3:=by intro n r;have f:=tL.mk (e.out n r);clear e r;walk_at "n";walk_at "";exact t6.of eH.refl f.out
 have c:=tL.mk key;clear key e k;walk_at "";refine⟨W,eG,rfl,v,fun n t l o p=>?_,fun d C fs x=>⟨j C x,?_⟩⟩
 ·have f:=tL.mk (c.out n (.inl ⟨l,o,p⟩));clear c l o p j;walk_at "";exact f.out
 have f:=tL.mk (c.out 99 (.inr ⟨rfl,d⟩));clear c d j;walk_at "";exact f.out
abbrev gP:List Str:=["works","beat","many","dealing"]
def aci:gk gP ["works","beat"] (aB (top 39)):=bc
def jY {f:Addr} (g:G3 K mg "fewest_stands" (top 39) ["works","beat"] f R) (B:Bl mg) (d:afT K mg "NoRoom" C_NoRoom) (b:Ow P w K mg base 7 "dealing_to" (top 37) ["works","beat","many"] TX) (a:aer P w K mg base 5 "check_groups" (top 38) ["works","beat"] (Xz C_TooLong)):aer P w K mg base 8 "fewest_stands" (top 39) ["works","beat"] (XC C_TooLong C_NoRoom):=by
 refine⟨f,R,g,?_⟩;refine fnX g.fn aci (fun ts H Q E h=>?_) (fun cdv A outer s H E ts H3 Q E3 I h U=>?_)
 ·obtain⟨W,eG,rfl,_⟩:=h;rfl
 obtain⟨W,eG,rfl,C,S,M⟩:=h;refine⟨_,(aj (bZ (Gr a U (I.mono (by decide)) rfl (aa (v3 0) (aa (v3 1) ak))))
   (aj (bj PassesOwn.leaving rfl (bR rfl B.range_ (aa (aG aW (aO cC rfl B.len_ cD (aa (aJ My (v3 0) ao) ak)) ao) ak)) (aC 2 aci.nd) (aj (aD 3 aci.nd (aP b I rfl (aa (v3 0) (aa (v3 1) (aa (v3 2) ak)))))
    (aA (bA (aU qJ (v3 3) jM) (aA (aL (bB (aa (v3 2) (aa (v3 3) ak))))) aR))))
   (aA (Ax d U rfl rfl)))),?_⟩
 walk_at "q";walk_at "h";have r:=tL.mk S;have n:=tL.mk M;clear S M;have r8:=C.r8;have o:=tL.mk C;clear C;walk_at "s";refine⟨W,eG,rfl,o.out,?_,fun t Y c fs=>⟨H3,eH.refl,n.out (fun j l z=>c (z.grp o.out l Y)) _ fs (.inl rfl)⟩⟩;walk_at "n";refine au fun R1 G=>?_;walk_at "";refine⟨trivial,by omega,by omega,?_⟩;rw[show (W.row.length:Int)+1=((W.row.length+1:Nat):Int) by omega,kE];refine aZ (fun (j:Nat)=>T.int (j:Int)) (List.range (W.row.length+1)) (fun A Z H=>∃(D v3:Option T),Z=[some W.enc,some (.int eG),D,v3]/\H=H3/\∀j,j<A.length->¬Can W j eG) ⟨_,_,rfl,rfl,fun j l=>absurd l (Nat.not_lt_zero _)⟩ ?_ ?_
 ·rintro Z H ⟨D,v3,rfl,rfl,c⟩;walk_at "t";rw[z_] at c;have k:=tL.mk (n.out fun j l=>c j (by omega));clear r n c;walk_at "n";walk_at "";exact⟨H,eH.refl,k.out _ _ (.inr rfl)⟩
 rintro A m B Z H N e ⟨D,v3,rfl,rfl,c⟩ J;walk_at "t";have X:A.length<W.row.length+1:=by have:=Zk List.length e;simp only[g_,p_,z_] at this;omega
 have l:m=A.length:=by
  have O:(List.range (W.row.length+1))[A.length]?=some m:=by rw[e,V_ (k_ _)];simp
  rw[Zy X] at O;exact (D_ O).symm
 subst l;have p:tL (¬Can W A.length eG->∀v3,N [some W.enc,some (.int eG),some (.int (A.length:Int)),v3] H):=⟨fun u v3=>J _ _ ⟨_,_,rfl,rfl,fun j l=>by
  rw[g_,K_] at l
  rcases Nat.lt_or_eq_of_le (Nat.le_of_lt_succ l) with q | q
  ·
   exact c j q
  ·
   rw[q];exact u⟩⟩
 have k:=tL.mk fun t x=>r.out A.length t (by omega) x c;have x:=tL.mk (lM (eG:=eG) o.out (show A.length<=W.row.length by omega));clear J e r n c G;walk_at "s";refine⟨W,eG,A.length,rfl,o.out,by omega,?_⟩;dsimp only;walk_at "n";unfold dtT;cases y:cT (top2 W - 1) (wys W eG A.length) with
 |none =>
  have u:=p.out fun z=>by
   obtain⟨v,L⟩:=x.out.mpr z
   rw[y] at L
   cases L
  have F:=tL.mk u
  clear u p k x y
  walk_at ""
  exact F.out _
 |some v =>
  have u:=tL.mk fun t=>k.out t (x.out.mp ⟨v,y⟩)
  clear p k x y
  walk_at ""
  exact⟨by decide,t6.of eH.refl (u.out _)⟩
def T5:Sp3:=fun ts H Q=>∃W:Wk,ts=[W.enc]/\n7 W/\∀p,H p=none->Q (.ref p) (fY H p (.lst ((lkW ["with"] W).map orT)))
def T6:Sp3:=fun ts H Q=>∃(x:T) (L:List (Str × Str)) (s:Str),ts=[x,.str s]/\((∃a,x=.ref a/\H a=some (.lst (L.map orT)))\/x=.tup (L.map orT))/\L.length<=100 /\
 ∀(p:Addr) (kvs:List (Str × T)),H p=none->(∀z,(aN z kvs).isSome=true↔RT (fun a b=>(a,b)∈L) s z)->Q (.ref p) (fY H p (.dct kvs))
def T7:Sp3:=fun ts H Q=>∃(W:Wk) (t:Str),ts=[W.enc,.str t]/\n7 W/\∀(p:Addr) (kvs:List (Str × T)),H p=none->(∀z,(aN z kvs).isSome=true↔RT (lkR ["with"] W) t z)->Q (.ref p) (fY H p (.dct kvs))
def T8:Sp3:=fun ts H Q=>∃(W:Wk) (t:Str),ts=[W.enc,.str t]/\n7 W/\∀(p:Addr) (kvs:List (Str × T)),H p=none->(∀z,(aN z kvs).isSome=true↔RT (lkR ["with"] W) z t)->Q (.ref p) (fY H p (.dct kvs))
def XH:Sp3:=fun ts H Q=>∃(W:Wk) (a b:Addr) (d c:List (Str × T)),ts=[W.enc,.ref a,.ref b]/\n7 W/\H a=some (.dct d)/\H b=some (.dct c)/\Q (sT ((W.tasks.map (·.1)).filter fun x=>(aN x d).isSome&&(aN x c).isSome)) H
def XJ:Sp3:=fun ts H Q=>∃(W:Wk) (a b:Addr) (d c:List (Str × T)),ts=[W.enc,.ref a,.ref b]/\n7 W/\H a=some (.dct d)/\H b=some (.dct c)/\Q (sT ((W.tasks.map (·.1)).filter fun x=>(aN x d).isSome&&!(aN x c).isSome)) H
def T9:Sp3:=fun ts H Q=>∃(W:Wk) (t:Str),ts=[W.enc,.str t]/\n7 W/\Q (sT (bY W t)) H
def XM:Sp3:=fun ts H Q=>∃W:Wk,ts=[W.enc]/\n7 W/\Q (.tup ((wY W).map sT)) H
def XN:Sp3:=fun ts H Q=>∃(W:Wk) (t:Str),ts=[W.enc,.str t]/\n7 W/\Q (sT (jq W t)) H
abbrev nj:List Str:=["works","links","word","one","other"]
def acn:gk nj ["works"] (aB (top 2)):=bc
def uQ {f:Addr} (g:G3 K mg "links_of" (top 2) ["works"] f z) (B:Bl mg):Ow P w K mg base 1 "links_of" (top 2) ["works"] T5:=by
 refine c6 g acn ?_;rintro _ A _ _ H _ _ H3 _ G ⟨⟨tk,c,prs,j⟩,rfl,q,k⟩;have l:=tR.u30 G;refine⟨_,(aj (aD 1 acn.nd (bf yo rfl B.list_ qm (aa (aJ My (v3 0) ao) ak)))
   (aj (bj I_ rfl (bF (aJ My (v3 0) ao)) (cA (n:=3) rfl (aH (aC 2 acn.nd) (aH (aC 3 acn.nd) (aH (aC 4 acn.nd) bI)))) (aA (bA (aU (dC l) (v3 2) gU) (aj (bZ (dZ R_ Zf Zg bL (v3 1) (aa (bB (aa (v3 3) (aa (v3 4) ak))) ak)))
     (aA (bZ (dZ R_ Zf Zg bL (v3 1) (aa (bB (aa (v3 4) (aa (v3 3) ak))) ak))))) aR)))
   (aA (aL (v3 1))))),?_⟩
 walk_at "q";walk_at "h";have y:c.length<=28:=q.os;have v:prs.length<=12:=q.ps;walk_at "";intro p J;refine aZ prT prs (fun A Z H=>∃(u v3 t:Option T),Z=[some (T.tup [T.tup (tk.map tkT),T.tup (c.map orT),T.tup (prs.map prT),T.tup (j.map T.str)]),some (.ref p),u,v3,t]/\H=fY H3 p (.lst ((c++A.flatMap (lkP ["with"])).map orT))) ⟨none,none,none,rfl,by simp⟩ ?_ ?_
 ·rintro Z H ⟨u,v3,t,rfl,rfl⟩;walk_at "t";walk_at "";exact t6.of eH.refl (k p J)
 rintro A ⟨w,a,b⟩ B Z H N e ⟨u,v3,t,rfl,rfl⟩ x;have F:=qX ["with"] A;have L:A.length<=12:=by have:=Zk List.length e;simp only[g_,p_] at this;omega
 have o:(c++A.flatMap (lkP ["with"])).length<=52:=by rw[g_];omega
 have d:N [some (T.tup [T.tup (tk.map tkT),T.tup (c.map orT),T.tup (prs.map prT),T.tup (j.map T.str)]),some (.ref p),some (.str w),some (.str a),some (.str b)] (fY H3 p (.lst ((c++A.flatMap (lkP ["with"])).map orT++(lkP ["with"] (w,a,b)).map orT))):=x _ _ ⟨_,_,_,rfl,by rw[List.flatMap_append,<- aah,y_];simp⟩;generalize c++A.flatMap (lkP ["with"])=D at d o;replace d:=tL.mk d;walk_at "t";clear x e k q F;simp only[prT];walk_at "";walk_at "t";by_cases m:w="with"
 ·subst m;have r:lkP ["with"] ("with",a,b)=[(a,b),(b,a)]:=by unfold lkP;simp
  rw[r] at d;try simp only[aaF,if_true]
  refine⟨⟨trivial,trivial⟩,by omega,by omega,⟨trivial,trivial⟩,by omega,by simp;omega,?_⟩;have C:=d.out;simp only[H_,aaB,orT] at C;rw[aah];exact C
 have r:lkP ["with"] (w,a,b)=[]:=by unfold lkP;simp [m]
 rw[r,aaB,W_] at d;simp only[m,aap,C_,Zv];exact d.out
abbrev iz:List Str:=["works","beat","group","length"]
def acr:gk iz ["works","beat"] (aB (top 38)):=bc
def lr {f:Addr} (g:G3 K mg "check_groups" (top 38) ["works","beat"] f C) (B:Bl mg) (b:af1 P w K mg base "TooLong" C_TooLong ["tasks","length"]) (a:Ow P w K mg base 4 "groups_of" (top 9) ["works"] XM) (d:Ow P w K mg base 1 "load_of" (top 22) ["works","tasks"] W5):aer P w K mg base 5 "check_groups" (top 38) ["works","beat"] (Xz C_TooLong):=by
 refine⟨f,C,g,?_⟩;refine fnX g.fn acr (fun ts H Q E h=>?_) (fun F A outer s H E ts H3 Q J q h G=>?_)
 ·obtain⟨W,eG,rfl,_⟩:=h;rfl
 obtain⟨W,eG,rfl,r,D,j⟩:=h;refine⟨_,(aA (bj PassesOwn.leaving rfl (bF (aP a q rfl (aa (v3 0) ak))) (aC 2 acr.nd) (aj (aD 3 acr.nd (aP d q rfl (aa (v3 0) (aa (v3 2) ak))))
    (aA (bA (aU sJ (v3 3) (v3 1)) (aA (Ay b G (q.mono (by decide)) rfl rfl (aa (v3 2) (aa (v3 3) ak)))) aR))))),?_⟩
 walk_at "q";walk_at "h";have n:=tL.mk D;have l:=tL.mk j;clear D j;have I:=LR r;walk_at "";refine⟨W,rfl,r,?_⟩;try dsimp only
 refine aZ sT (wY W) (fun A Z H=>∃(k v3:Option T),Z=[some W.enc,some (.int eG),k,v3]/\H=H3) ⟨_,_,rfl,rfl⟩ ?_ ?_
 ·rintro Z H ⟨k,v3,rfl,rfl⟩;exact⟨trivial,t6.of eH.refl n.out⟩
 rintro A g B Z H N e ⟨k,v3,rfl,rfl⟩ y;walk_at "t";obtain⟨t,z,u⟩:=aeW.mp (show g∈wY W by rw[e];simp);have x:=K9 W.tasks g;have m:tL (∀k v3,N [some W.enc,some (.int eG),k,v3] H):=⟨fun k v3=>y _ _ ⟨_,_,rfl,rfl⟩⟩;have j:=l.out t z;rw[u] at j;have v:=tL.mk j;clear y e n l j z u;walk_at "";refine⟨W,g,rfl,r.t8,?_⟩;rw[x];clear x;walk_at "";by_cases c:eG<cR W.tasks g
 ·have o:=v.out (by omega);have p:=tL.mk o;clear o v m;simp only[c,aaF,if_true];try walk_at ""
  exact⟨trivial,H,eH.refl,p.out _⟩
 simp only[c,aap,C_,Zv];exact m.out _ _
abbrev eY:List Str:=["works","orders","row"]
def acq:gk eY ["works"] (aB (top 18)):=bc
def lu {f:Addr} (g:G3 K mg "turned_about" (top 18) ["works"] f k) (B:Bl mg):Ow P w K mg base 1 "turned_about" (top 18) ["works"] Xy:=by
 refine c6 g acq ?_;rintro _ _ _ s H _ _ _ _ _ ⟨W,rfl,m,l⟩;refine⟨_,(aj (aD 1 acq.nd (bf bW rfl B.tuple_ bC (aa (bO rfl (b6 18 eY ["one","other"] 2 []) (bF (aJ My (v3 0) ao)) (fun x e s H z F=>⟨(cA (n:=2) rfl (aH (aC 0 (n5 ["one","other"])) (aH (aC 1 (n5 ["one","other"])) bI))),bN,(bB (aa (v3 1) (aa (v3 0) ak)))⟩)) ak)))
   (aj (aD 2 acq.nd (Ac rfl rfl B.tuple_ rfl B.reversed_ (aJ My (v3 0) ao)))
   (aA (aL (bB (aa (aJ My (v3 0) ao) (aa (v3 1) (aa (aJ My (v3 0) ao) (aa (v3 2) ak))))))))),?_⟩
 walk_at "q";walk_at "h";have d:=tL.mk l;clear l;have t:=m.os;walk_at "s";walk_at "c";refine gZ (fun o:Str × Str=>T.str o.1) (fun o=>T.str o.2) (fun o=>orT (o.2,o.1)) W.orders [] trivial (by omega) (fun a C y j=>?_) (fun p u=>?_)
 ·have c:=tL.mk j;clear j d;walk_at "";exact⟨by decide,c.out⟩
 walk_at "n";walk_at "";refine⟨by decide,t6.of (eH.new u) ?_⟩;have b:=d.out;unfold Wk.turn Wk.enc at b;simp only[U_,aaq,Function.comp_def,sT] at b ⊢;exact b
abbrev eN:List Str:=["works","tasks"]
def xj:gk eN eN (aB (top 22)):=bc
def xm {f:Addr} (g:G3 K mg "load_of" (top 22) eN f o) (B:Bl mg):Ow P w K mg base 1 "load_of" (top 22) eN W5:=by
 refine c6 g xj ?_;rintro _ _ _ s H _ _ H3 Q x ⟨⟨tk,c,prs,b⟩,ns,rfl,l,k⟩;have a:=tR.u31 x;refine⟨_,(aA (aL (aO (Dd rfl) rfl B.sum_ Df (aa (bO rfl (b6 22 eN ["name","length","kinds","tasks"] 3 [1]) (bF (aJ My (v3 0) ao)) (fun y m s H z C=>⟨(cA (n:=3) rfl (aH (aC 0 (n5 ["name","length","kinds","tasks"])) (aH (aC 1 (n5 ["name","length","kinds","tasks"])) (aH (aC 2 (n5 ["name","length","kinds","tasks"])) bI)))),(fB (aU (mF a) (v3 0) (v3 3) rfl)),(v3 1)⟩)) ak)))),?_⟩;walk_at "q";walk_at "h";have j:Q (.int (ld tk ns)) H3:=k;clear k;replace l:tk.length<=8:=l;walk_at "";walk_at "c";refine mL (fun t:Str × Int × List Str=>.str t.1) (fun t=>.int t.2.1) (fun t=>.tup (t.2.2.map T.str)) (fun t=>.int t.2.1) (fun t=>dH false (.str t.1) (ns.map T.str)) tk [some (.tup (ns.map T.str))] trivial (by omega) (fun t q r d=>?_) (fun t q _ r d=>d) ?_
 ·clear j;walk_at "";exact⟨rfl,dU ns,by first | trivial | exact d⟩
 intro p v;have e:ints3 ((tk.filter (fun t=>dH false (.str t.1) (ns.map T.str))).map (fun t=>T.int t.2.1))=some ((tk.filter (fun t=>dH false (.str t.1) (ns.map T.str))).map (·.2.1)):=by rw[<- iH,U_];rfl
 rw[e,fM];exact t6.of (eH.new v) j
abbrev pR:List Str:=["links","start","found","grown","one","other"]
def acd:gk pR ["links","start"] (aB (top 3)):=bc
def xn {f:Addr} (g:G3 K mg "reached" (top 3) ["links","start"] f fd) (B:Bl mg):Ow P w K mg base 1 "reached" (top 3) ["links","start"] T6:=by
 refine c6 g acd ?_;rintro _ A _ _ H _ _ H3 _ hr ⟨x,L,u,rfl,hx,hL,k⟩;have O:=tR.u1 hr;refine⟨_,(aj (aD 2 acd.nd (Dp (v3 1) cP))
   (aj (aD 3 acd.nd cP)
   (aj (mz I_ (dm (v3 3)) (aj (aD 3 acd.nd cP)
    (aA (bj I_ rfl (JM 0) (cA (n:=2) rfl (aH (aC 4 acd.nd) (aH (aC 5 acd.nd) bI))) (aA (bA (PW3.pt (gW (mH O (v3 4) (v3 2)) (fj (o8 O (v3 5) (v3 2))))) (aj (yj O (v3 2) (v3 5) cP)
      (aA (aD 3 acd.nd cP))) aR))))))
   (aA (aL (v3 2)))))),?_⟩
 walk_at "q";walk_at "h";walk_at "";intro p hp;walk_at "t";rw[S6];refine⟨fun m Z H=>∃(F:List Str) (g:Bool) (C J:Option T),Z=[some x,some (.str u),some (.ref p),some (.bl g),C,J]/\H=fY H3 p (.dct (dF F))/\u∈F/\F.Nodup/\(∀z∈F,RT (fun a b=>(a,b)∈L) u z)/\(g=false->∀a b,(a,b)∈L->a∈F->b∈F)/\m=2*(L.length+1 - F.length)+(if g then 1 else 0),
  ⟨_,[u],true,none,none,rfl,rfl,l_,by simp,(fun z G=>by rw[t_.mp G];exact .refl),(fun z=>nomatch z),rfl⟩,?_⟩
 have j:∀F:List Str,F.Nodup->(∀z∈F,RT (fun a b=>(a,b)∈L) u z)->F.length<=L.length+1:=fun F Y hF=>by
  have:=wX (l:=F) (m:=u::L.map (·.2)) Y fun z G=>by
   cases hF z G with
   |refl=>exact l_
   |step _ r=>exact o_ _ (u_.mpr ⟨_,r,rfl⟩)
  simpa using this
 rintro m Z H ⟨F,g,C,J,rfl,rfl,hs,Y,hR,hg,rfl⟩;walk_at "";cases g with
 |false=>simp only[C_,Zv];refine t6.of eH.refl (k p _ hp fun z=>?_);rw[lJ,q_];exact⟨hR z,fun h=>W0 hs (hg rfl) h⟩
 |true =>
  try simp only[if_true]
  have V:(∃a,x=.ref a/\fY H3 p (.dct (dF F)) a=some (.lst (L.map orT)))\/x=.tup (L.map orT):=by
   rcases hx with ⟨a,rfl,e⟩ | e
   ·
    exact .inl ⟨a,rfl,by rw[aF (bz e hp)];exact e⟩
   ·
    exact .inr e
  refine GD V fun still R=>?_
  have v:∀c,still (fY H3 p (.dct (dF c))):=by
   rcases R with rfl | ⟨a,rfl,e⟩
   ·
    exact fun _=>trivial
   ·
    have U:a≠p:=fun z=>by subst z;rw[aq] at e;cases e
    rw[aF U] at e
    exact fun c=>.inl (by rw[aF U];exact e)
  refine aZ orT L (fun A Z H=>∃(c:List Str) (g':Bool) (C J:Option T),Z=[some x,some (.str u),some (.ref p),some (.bl g'),C,J]/\H=fY H3 p (.dct (dF c))/\u∈c/\c.Nodup/\(∀z∈c,RT (fun a b=>(a,b)∈L) u z)/\(g'=false->c=F/\∀o∈A,o.1∈F->o.2∈F)/\(g'=true->F.length<c.length)) ⟨F,false,C,J,rfl,rfl,hs,Y,hR,fun _=>⟨rfl,(fun _ h=>nomatch h)⟩,(fun z=>nomatch z)⟩ ?_ ?_
  ·
   rintro Z H ⟨c,g',C,J,rfl,rfl,t,q,d,W,X⟩
   refine⟨v c,?_⟩
   have b1:=j F Y hR
   have b2:=j c q d
   cases g' with
   |true =>
    have:=X rfl
    exact⟨_,by simp only[if_true];omega,c,true,C,J,rfl,rfl,t,q,d,(fun z=>nomatch z),rfl⟩
   |false =>
    obtain⟨e,hc⟩:=W rfl
    subst e
    exact⟨_,by simp,c,false,C,J,rfl,rfl,t,q,d,fun _ a b I y=>hc (a,b) I y,rfl⟩
  ·
   rintro A ⟨a,b⟩ B Z H N e ⟨c,g',C,J,rfl,rfl,t,q,d,W,X⟩ hN
   refine⟨v c,?_⟩
   have I:(a,b)∈L:=by rw[e];simp
   have b2:=j c q d
   have l1:=lJ a c
   have l2:=lJ b c
   have l3:=S5 c
   have no:¬(a∈c/\b∉c)->N [some x,some (.str u),some (.ref p),some (.bl g'),some (.str a),some (.str b)] (fY H3 p (.dct (dF c))):=fun hno=>hN _ _ ⟨c,g',_,_,rfl,rfl,t,q,d,fun hg'=>by
    obtain⟨e1,hc⟩:=W hg'
    subst e1
    refine⟨rfl,fun o S=>?_⟩
    rcases F_.mp S with S | S
    ·
     exact hc o S
    ·
     rw[t_.mp S]
     intro y
     exact Classical.byContradiction fun D=>hno ⟨y,D⟩,X⟩
   have M:a∈c->b∉c->N [some x,some (.str u),some (.ref p),some (.bl true),some (.str a),some (.str b)] (fY H3 p (.dct (put3 b (T.bl true) (dF c)))):=fun y D=>by
    rw[SQ D]
    refine hN _ _ ⟨c++[b],true,_,_,rfl,rfl,Zo _ t,gB q D,fun z G=>?_,(fun z=>nomatch z),fun _=>?_⟩
    ·
     rcases F_.mp G with G | G
     ·
      exact d z G
     ·
      rw[t_.mp G]
      exact .step (d a y) I
    ·
     rw[g_,K_]
     cases g' with
     |true=>have:=X rfl;omega
     |false=>obtain⟨e1,_⟩:=W rfl;subst e1;omega
   replace no:=tL.mk no
   replace M:=tL.mk M
   clear hN W X v R j k hx V hg hR d Y q hs t e I
   simp only[orT]
   walk_at ""
   walk_at "t"
   by_cases y:a∈c
   ·
    simp only[y,aaF,if_true]
    by_cases D:b∈c
    ·
     simp only[D,aaF,aa4,C_,Zv]
     exact no.out fun z=>z.2 D
    ·
     simp only[D,aap,aaP,if_true]
     exact⟨by omega,M.out y D⟩
   ·
    simp only[y,aap,C_,Zv]
    exact no.out fun z=>y z.1
abbrev iB:List Str:=["works","task"]
def Bp:gk iB iB (aB (top 4)):=bc
def Bq {f:Addr} (g:G3 K mg "led_to" (top 4) iB f l) (B:Bl mg) (c:Ow P w K mg base 1 "reached" (top 3) ["links","start"] T6) (b:Ow P w K mg base 1 "links_of" (top 2) ["works"] T5):Ow P w K mg base 2 "led_to" (top 4) iB T7:=by
 refine c6 g Bp ?_;rintro _ _ _ _ _ _ _ _ _ j ⟨W,t,rfl,i,k⟩;refine⟨_,(aA (aL (aP c j rfl (aa (aP b j rfl (aa (v3 0) ak)) (aa (v3 1) ak))))),?_⟩;walk_at "q";walk_at "";refine⟨W,rfl,i,fun q r=>?_⟩;try dsimp only
 refine⟨_,lkW ["with"] W,t,rfl,.inl ⟨q,rfl,aq⟩,P_ (yO i) (by decide),fun p kvs d m=>?_⟩;obtain⟨u,d⟩:=cJ d;refine t6.of (fun a o e=>?_) (k p kvs d m);by_cases h:a=p
 ·subst h;rw[aq] at e ⊢;exact e
 rw[aF h] at e ⊢;rw[aF (bz e r)];exact e
abbrev dR:List Str:=["works","task"]
def uR:gk dR dR (aB (top 5)):=bc
def uT {f:Addr} (g:G3 K mg "led_from" (top 5) dR f F) (B:Bl mg) (d:Ow P w K mg base 1 "reached" (top 3) ["links","start"] T6) (c:Ow P w K mg base 1 "links_of" (top 2) ["works"] T5):Ow P w K mg base 2 "led_from" (top 5) dR T8:=by
 refine c6 g uR ?_;rintro _ A _ s H _ _ H3 _ m ⟨W,t,rfl,D,k⟩;refine⟨_,(aA (aL (aP d m rfl (aa (bO rfl (b6 5 dR ["one","other"] 2 []) (c7 (aP c m rfl (aa (v3 0) ak))) (fun S y s H U V=>⟨(cA (n:=2) rfl (aH (aC 0 (n5 ["one","other"])) (aH (aC 1 (n5 ["one","other"])) bI))),bN,(bB (aa (v3 1) (aa (v3 0) ak)))⟩)) (aa (v3 1) ak))))),?_⟩;walk_at "q";walk_at "h";have O:=yO (ws:=["with"]) D;walk_at "";refine⟨W,rfl,D,fun q I=>?_⟩;try dsimp only
 rw[Nj,aq,yt];walk_at "c";refine fX orT (lkW ["with"] W) (fun A ys Z H=>H=fY H3 q (.lst ((lkW ["with"] W).map orT))/\ys=(A.map swp).map orT/\∃u x:Option T,Z=[u,x]) ⟨rfl,rfl,none,none,rfl⟩ ?_ ?_
 ·rintro ys Z H ⟨rfl,rfl,u,x,rfl⟩;refine⟨.inl aq,by rw[d_,d_];omega,fun r m=>?_⟩;obtain⟨n0,v⟩:=cJ m;refine⟨_,(lkW ["with"] W).map swp,t,rfl,.inl ⟨r,rfl,aq⟩,by rw[d_];omega,fun p kvs l G=>?_⟩;obtain⟨L,l⟩:=cJ l;obtain⟨R,l⟩:=cJ l;refine t6.of (fun a o e=>?_) (k p kvs l fun z=>(G z).trans S7);by_cases h:a=p
  ·subst h;rw[aq] at e ⊢;exact e
  rw[aF h] at e ⊢;rw[aF (bz e v),aF (bz e I)];exact e
 rintro A ⟨a,b⟩ B ys Z H N e ⟨rfl,rfl,u,x,rfl⟩ C;have M:A.length<=52:=by have:=Zk List.length e;simp only[g_,p_] at this;omega
 refine⟨.inl aq,?_⟩;have j:=C (((A.map swp).map orT)++[orT (b,a)]) [some (.str a),some (.str b)] _ ⟨rfl,by rw[y_,y_];rfl,_,_,rfl⟩;replace j:=tL.mk j;clear C k e;simp only[orT] at j ⊢;walk_at "";exact⟨trivial,by omega,by omega,j.out⟩
abbrev eO:List Str:=["works","found","other"]
def xq:gk eO eO (aB (top 6)):=bc
def xu {f:Addr} (g:G3 K mg "in_both" (top 6) eO f q) (B:Bl mg):Ow P w K mg base 1 "in_both" (top 6) eO XH:=by
 refine c6 g xq ?_;rintro _ _ _ s H _ _ _ _ r ⟨⟨tk,l,prs,m⟩,a,b,d,j,rfl,y,S,M,k⟩;have c:=tR.u1 r;refine⟨_,(aA (aL (bf bW rfl B.tuple_ bC (aa (bO rfl (b6 6 eO ["task","found","other"] 1 [1,2]) (bF (aJ My (v3 0) ao)) (fun L o s H R U=>⟨(aC 0 (n5 ["task","found","other"])),(fB (PW3.pt (gW (mH c (aJ My (v3 0) ao) (v3 1)) (fj (mH c (aJ My (v3 0) ao) (v3 2)))))),(aJ My (v3 0) ao)⟩)) ak)))),?_⟩;walk_at "q";walk_at "h";have J:tk.length<=8:=y.t8;walk_at "";walk_at "c";refine jo tkT (fun t=>T.str t.1) (fun t=>(aN t.1 d).isSome&&(aN t.1 j).isSome) tk [some (.ref a),some (.ref b)] trivial (by omega) (fun t v C n=>?_) (fun t v I C n=>?_) (fun p G=>?_)
 ·obtain⟨nm,D,O⟩:=t;simp only[tkT];dsimp only at n;cases z:(aN nm d).isSome <;> cases u:(aN nm j).isSome <;> simp only[z,u,Bool.and_true,Bool.and_false,aa4,aaP,ab6,Bool.false_and] at n <;> walk_at ""
 ·simp only[tkT];walk_at "";try exact n
 walk_at "";refine t6.of (eH.new G) ?_;have e:(tk.filter fun t=>(aN t.1 d).isSome&&(aN t.1 j).isSome).map (fun t=>T.str t.1)=((tk.map (·.1)).filter fun x=>(aN x d).isSome&&(aN x j).isSome).map T.str:=by rw[List.filter_map,U_];rfl
 rw[e];exact k
abbrev dq:List Str:=["works","task"]
def uU:gk dq dq (aB (top 8)):=bc
def uV {f:Addr} (g:G3 K mg "group_of" (top 8) dq f v) (B:Bl mg) (c:Ow P w K mg base 1 "in_both" (top 6) ["works","found","other"] XH) (d:Ow P w K mg base 2 "led_to" (top 4) dq T7) (b:Ow P w K mg base 2 "led_from" (top 5) dq T8):Ow P w K mg base 3 "group_of" (top 8) dq T9:=by
 refine c6 g uU ?_;rintro _ _ _ _ _ _ _ _ _ i ⟨W,t,rfl,m,k⟩;refine⟨_,(aA (aL (aP c i rfl (aa (v3 0) (aa (aP d i rfl (aa (v3 0) (aa (v3 1) ak))) (aa (aP b i rfl (aa (v3 0) (aa (v3 1) ak))) ak)))))),?_⟩;walk_at "q";walk_at "";refine⟨W,t,rfl,m,fun p r D n=>?_⟩;try dsimp only
 refine⟨W,t,rfl,m,fun q u C l=>?_⟩;obtain⟨y,j⟩:=cJ C;try dsimp only
 refine⟨W,p,q,r,u,rfl,m,by rw[aF (Ne.symm y)];exact aq,aq,?_⟩;refine t6.of (fun a o e=>by rw[aF (bz e j),aF (bz e D)];exact e) ?_;rw[show (W.tasks.map (·.1)).filter (fun x=>(aN x r).isSome&&(aN x u).isSome)=bY W t from ?_]
 ·exact k
 unfold bY;refine aav fun x F=>?_;rw[Zn,Zq,@q_ _ (Classical.propDecidable _),n x,l x]
abbrev bU:List Str:=["works","found","other"]
def jG:gk bU bU (aB (top 7)):=bc
def jH {f:Addr} (g:G3 K mg "in_first_alone" (top 7) bU f q) (B:Bl mg):Ow P w K mg base 1 "in_first_alone" (top 7) bU XJ:=by
 refine c6 g jG ?_;rintro _ _ _ s H _ _ _ _ r ⟨⟨tk,l,prs,m⟩,a,b,d,j,rfl,y,S,M,k⟩;have c:=tR.u1 r;refine⟨_,(aA (aL (bf bW rfl B.tuple_ bC (aa (bO rfl (b6 7 bU ["task","found","other"] 1 [1,2]) (bF (aJ My (v3 0) ao)) (fun L o s H R U=>⟨(aC 0 (n5 ["task","found","other"])),(fB (PW3.pt (gW (mH c (aJ My (v3 0) ao) (v3 1)) (fj (o8 c (aJ My (v3 0) ao) (v3 2)))))),(aJ My (v3 0) ao)⟩)) ak)))),?_⟩;walk_at "q";walk_at "h";have J:tk.length<=8:=y.t8;walk_at "";walk_at "c";refine jo tkT (fun t=>T.str t.1) (fun t=>(aN t.1 d).isSome&&!(aN t.1 j).isSome) tk [some (.ref a),some (.ref b)] trivial (by omega) (fun t v C n=>?_) (fun t v I C n=>?_) (fun p G=>?_)
 ·obtain⟨nm,D,O⟩:=t;simp only[tkT];dsimp only at n;cases z:(aN nm d).isSome <;> cases u:(aN nm j).isSome <;> simp only[z,u,Bool.and_true,Bool.and_false,aa4,aaP,ab6,Bool.false_and] at n <;> walk_at ""
 ·simp only[tkT];walk_at "";try exact n
 walk_at "";refine t6.of (eH.new G) ?_;have e:(tk.filter fun t=>(aN t.1 d).isSome&&!(aN t.1 j).isSome).map (fun t=>T.str t.1)=((tk.map (·.1)).filter fun x=>(aN x d).isSome&&!(aN x j).isSome).map T.str:=by rw[List.filter_map,U_];rfl
 rw[e];exact k
abbrev du:List Str:=["works","task"]
def uW:gk du du (aB (top 10)):=bc
def uX {f:Addr} (g:G3 K mg "ahead_of" (top 10) du f v) (B:Bl mg) (b:Ow P w K mg base 1 "in_first_alone" (top 7) ["works","found","other"] XJ) (c:Ow P w K mg base 2 "led_from" (top 5) du T8) (d:Ow P w K mg base 2 "led_to" (top 4) du T7):Ow P w K mg base 3 "ahead_of" (top 10) du XN:=by
 refine c6 g uW ?_;rintro _ _ _ _ _ _ _ _ _ m ⟨W,t,rfl,l,k⟩;refine⟨_,(aA (aL (aP b m rfl (aa (v3 0) (aa (aP c m rfl (aa (v3 0) (aa (v3 1) ak))) (aa (aP d m rfl (aa (v3 0) (aa (v3 1) ak))) ak)))))),?_⟩;walk_at "q";walk_at "";refine⟨W,t,rfl,l,fun p r D n=>?_⟩;try dsimp only
 refine⟨W,t,rfl,l,fun q u C j=>?_⟩;obtain⟨y,i⟩:=cJ C;try dsimp only
 refine⟨W,p,q,r,u,rfl,l,by rw[aF (Ne.symm y)];exact aq,aq,?_⟩;refine t6.of (fun a o e=>by rw[aF (bz e i),aF (bz e D)];exact e) ?_;rw[show (W.tasks.map (·.1)).filter (fun x=>(aN x r).isSome&&!(aN x u).isSome)=jq W t from ?_]
 ·exact k
 unfold jq;refine aav fun x F=>?_;rw[Zn,Zq,@q_ _ (Classical.propDecidable _),n x,abL,<- Bool.not_eq_true,j x]
abbrev kJ:List Str:=["works","groups","task","group"]
def acw:gk kJ ["works"] (aB (top 9)):=bc
def rE {f:Addr} (g:G3 K mg "groups_of" (top 9) ["works"] f D) (B:Bl mg) (d:Ow P w K mg base 3 "group_of" (top 8) ["works","task"] T9):Ow P w K mg base 4 "groups_of" (top 9) ["works"] XM:=by
 refine c6 g acw ?_;rintro _ A _ _ H _ _ H3 _ v ⟨⟨tk,a,prs,b⟩,rfl,C,k⟩;have l:=tR.u30 v;refine⟨_,(aj (aD 1 acw.nd (bx ak))
   (aj (bj I_ rfl (bF (aJ My (v3 0) ao)) (aC 2 acw.nd) (aj (aD 3 acw.nd (aP d v rfl (aa (v3 0) (aa (aJ My (v3 2) ao) ak))))
    (aA (bA (aU (dC l) (aJ My (v3 3) ao) (aJ My (v3 2) ao)) (aA (bZ (dZ R_ Zf Zg bL (v3 1) (aa (v3 3) ak)))) aR))))
   (aA (aL (bf bW rfl B.tuple_ bC (aa (v3 1) ak)))))),?_⟩
 walk_at "q";walk_at "h";have O:tk.length<=8:=C.t8;walk_at "";refine⟨by omega,fun p M=>?_⟩;refine aZ tkT tk (fun A Z H=>∃(j v3:Option T),Z=[some (T.tup [T.tup (tk.map tkT),T.tup (a.map orT),T.tup (prs.map prT),T.tup (b.map T.str)]),some (.ref p),j,v3]/\H=fY H3 p (.lst ((((A.map (·.1)).filter fun t=>decide ((bY ⟨tk,a,prs,b⟩ t).head?=some t)).map (bY ⟨tk,a,prs,b⟩)).map sT))) ⟨none,none,rfl,rfl⟩ ?_ ?_
 ·rintro Z H ⟨j,v3,rfl,rfl⟩;walk_at "t";walk_at "";exact t6.of (eH.new M) k
 rintro A ⟨nm,J,R⟩ B Z H N e ⟨j,v3,rfl,rfl⟩ x;have I:A.length<=8:=by have:=Zk List.length e;simp only[g_,p_] at this;omega
 have F:nm∈(⟨tk,a,prs,b⟩:Wk).tasks.map (·.1):=by show nm∈tk.map (·.1);rw[e];simp
 have m:=pK F;have n:(((A.map (·.1)).filter fun t=>decide ((bY ⟨tk,a,prs,b⟩ t).head?=some t)).map (bY ⟨tk,a,prs,b⟩)).length<=8:=by rw[d_];exact P_ (Zr _ _) (by rw[d_];exact I)
 have c:∀j v3,N [some (T.tup [T.tup (tk.map tkT),T.tup (a.map orT),T.tup (prs.map prT),T.tup (b.map T.str)]),some (.ref p),j,v3] (fY H3 p (.lst ((((A.map (·.1)).filter fun t=>decide ((bY ⟨tk,a,prs,b⟩ t).head?=some t)).map (bY ⟨tk,a,prs,b⟩)).map sT++(if (bY ⟨tk,a,prs,b⟩ nm).head?=some nm then [sT (bY ⟨tk,a,prs,b⟩ nm)] else [])))):=fun j v3=>by
  refine x _ _ ⟨j,v3,rfl,?_⟩;rw[y_,aal,y_,y_];by_cases h:(bY ⟨tk,a,prs,b⟩ nm).head?=some nm
  ·simp [h]
  simp [h]
 generalize (((A.map (·.1)).filter fun t=>decide ((bY ⟨tk,a,prs,b⟩ t).head?=some t)).map (bY ⟨tk,a,prs,b⟩))=G at c n;replace c:=tL.mk c;walk_at "t";clear x e k;simp only[tkT];walk_at "";refine⟨⟨tk,a,prs,b⟩,nm,rfl,C,?_⟩;cases u:bY ⟨tk,a,prs,b⟩ nm with
 |nil=>rw[u] at m;cases m
 |cons y r =>
 rw[u] at c;clear m F;simp only[sT,H_] at c ⊢;walk_at "";by_cases o:y=nm
 ·simp only[o,aaF,if_true,List.head?_cons] at c ⊢;exact⟨⟨trivial,trivial⟩,by omega,c.out _ _⟩
 have q:¬some y=some nm:=fun z=>o (D_ z);simp only[o,q,aap,C_,Zv,List.head?_cons,W_] at c ⊢;exact c.out _ _
abbrev jZ:List Str:=["self","tasks","length"]
def xx:gk jZ jZ (aB (ack 13 0)):=bc
def xF {f:Addr} (F:Fun K "__init__" "TooLong.__init__" (ack 13 0) f d):acJ P w K mg base CX0 1 f d jZ (wU K ["tasks","length"]):=by
 refine F.ok xx (fun vs H Q E ⟨e,ys,C,b,p,l,_⟩=>by rw[p];simp [l]) fun n A outer s H vs Q E q h=>?_;refine⟨_,rN (WQ (pv 0) (pv 1) rfl) (xK (WR (pv 0) (pv 2) rfl)),?_⟩;obtain⟨e,ys,C,b,rfl,m,j,S,i,k⟩:=h
 match ys,m with
 |[y,z],_ =>
 refine⟨y,rfl,V.ref e,rfl,e,C,b,true,rfl,j,S,i "tasks" (by simp),fun g c a=>?_⟩;refine⟨z,rfl,V.ref e,rfl,e,C,b,true,g,[("tasks",y)],rfl,aY,(aM a).trans aY,(by decide:1<1000),S,i "length" (by simp),?_⟩;have o:dW "length" z [("tasks",y)]=[(("tasks":Str),y),(("length":Str),z)]:=by unfold dW;rw[if_neg (by decide)];rfl
 rw[o,Gn (Ne.symm a),HX];exact k g c a
abbrev zr:List Str:=["_law_works_here","_law_cell_here","_law_row","_law_at"]
def acK:gk zr ["_law_works_here","_law_cell_here"] (aB (top 51)):=bc
def Hw {f:Addr} (g:G3 K mg "_law_moved" (top 51) ["_law_works_here","_law_cell_here"] f v) (B:Bl mg):Ow P w K mg base 1 "_law_moved" (top 51) ["_law_works_here","_law_cell_here"] Xx:=by
 refine c6 g acK ?_;rintro _ _ _ s _ _ ts H3 Q C ⟨W,c,rfl,u,z⟩;have d:=tR.u30 C;refine⟨_,(aj (aD 2 acK.nd (aJ My (v3 0) ao))
   (aj (aD 3 acK.nd (aG aV (aG aX (v3 1) ao) (aO cC rfl B.len_ cD (aa (v3 2) ak))))
   (aj (bA (aU (dC d) (aG aV (v3 1) ao) ao) (aj (aD 2 acK.nd (aG aW (fZ (v3 2) (bV (v3 3)) cX) (fZ (v3 2) cX (bV (v3 3)))))
    (aA (bA (aU (dC d) (aG aV (aG aX (v3 1) ao) ao) ao) (aA (aD 2 acK.nd (lE (v3 2) (bV (jj ao))))) aR))) aR)
   (aA (aL (aG aW (fZ (v3 0) cX (bV ao)) (bB (aa (v3 2) ak)))))))),?_⟩
 walk_at "q";walk_at "h";have o:=tL.mk z;clear z;have O:=u.r8;have N:=u.r1;have b:∀(r:List Str) (Z:List (Option T)),r.length=W.row.length->(∀x∈r,x∈W.row)->t6 Q (.tup ([.tup (W.tasks.map tkT),.tup (W.orders.map orT),.tup (W.pairs.map prT)]++[.tup (r.map T.str)])) H3:=fun r _ D G=>t6.of eH.refl (o.out r D G);walk_at "s";walk_at "n";have S:=S_ (c / 8) (show (W.row.length:Int)≠0 by omega);have V:=M_ (c / 8) (show (0:Int)<(W.row.length:Int) by omega);obtain⟨j,M⟩:∃j:Nat,c / 8%(W.row.length:Int)=(j:Int):=⟨(c / 8%(W.row.length:Int)).toNat,by omega⟩;have R:yg (c / 8) (W.row.length:Int):=⟨by omega,aaL (aa6 _) (by omega)⟩;walk_at "s";refine⟨⟨by decide,by decide +kernel⟩,by omega,?_⟩;walk_at "n";refine au fun R2 n=>?_;have key:∀(r:List Str),r.length=W.row.length->(∀x∈r,x∈W.row)->R2 { nx:=fun _ H'=>t6 Q T.non H',rt:=t6 Q} [some W.enc,some (T.int c),some (T.tup (r.map T.str)),some (T.int (j:Int))] H3:=by intro r m l;have f:=b r [] m l;have L:=tL.mk f;clear f b o m l;walk_at "n";rw[show W.enc=T.tup [.tup (W.tasks.map tkT),.tup (W.orders.map orT),.tup (W.pairs.map prT),.tup (W.row.map T.str)] from rfl];walk_at "";rw[show ∀ts:List T,eZ ts none (some 3)=ts.take 3 from fun ts=>jP (k:=3)];exact⟨by decide,by simp,L.out⟩
 have a:=tL.mk key;clear key n b o;walk_at "";refine⟨by decide,?_⟩;by_cases y:c%4=1
 ·rw[if_pos (N_ y)];rw[mG,jP,<- List.map_drop,<- ab7,<- y_];have q:∀x∈W.row.drop j++W.row.take j,x∈W.row:=fun x e=>by
   rcases F_.mp e with e | e
   ·exact List.mem_of_mem_drop e
   exact List.mem_of_mem_take e
  have p:(W.row.drop j++W.row.take j).length=W.row.length:=by rw[g_,abr,aam];omega
  generalize W.row.drop j++W.row.take j=r at q p ⊢;refine⟨by rw[d_,d_,abr,aam];omega,⟨by decide,by decide +kernel⟩,by decide,?_⟩;by_cases t:c / 4%2=1
  ·rw[if_pos (N_ t),<- aaq];exact⟨trivial,a.out r.reverse (by rw[Q_];exact p) fun x e=>q x (aaz.mp e)⟩
  rw[if_neg (qF t)];exact a.out r p q
 rw[if_neg (qF y)];exact a.out W.row rfl fun _ h=>h
abbrev Hy:List Str:=["_law_script","_law_k","_law_first","_law_cell_here","_law_number","_law_found","_law_j"]
def acv:gk Hy ["_law_script","_law_k"] (aB (top 41)):=bc
def Mg {f:Addr} (g:G3 K mg "_law_cell" (top 41) ["_law_script","_law_k"] f fd) (B:Bl mg):Ow P w K mg base 1 "_law_cell" (top 41) ["_law_script","_law_k"] Ls:=by
 refine c6 g acv ?_;rintro _ _ _ s H _ _ H3 _ hr ⟨a,ns,k,rfl,I,hl,hk,kk⟩;have q:=tR.u30 hr;refine⟨_,(aj (aD 2 acv.nd (aJ My (aG yZ (v3 0) (bx (aa ao ak))) ao))
   (aj (bA (aU (dC q) (aG aV (v3 2) ao) ao) (aA (aL (aJ My (aG yZ (v3 0) (aG wB (bx (aa ao ak)) ao)) (v3 1)))) aR)
   (aj (aD 3 acv.nd (aJ My (v3 0) (aG aV (v3 1) (aO cC rfl B.len_ cD (aa (v3 0) ak)))))
   (aj (aD 4 acv.nd (aG aV (aG aW (aG aW (aG cW (aG aV (v3 3) ao) ao) (aG cW ao (v3 1))) ao) ao))
   (aj (aD 4 acv.nd (aG aV (aG aW (aG cW (v3 4) (v3 4)) (v3 1)) ao))
   (aj (aD 5 acv.nd ao)
   (aj (bj I_ rfl (bR rfl B.range_ (aa ao ak)) (aC 6 acv.nd) (aj (aD 4 acv.nd (aG aV (aG aW (aG cW (v3 4) ao) ao) ao))
    (aA (aD 5 acv.nd (aG aW (aG cW (v3 5) ao) (v3 4))))))
   (aA (aL (v3 5)))))))))),?_⟩
 walk_at "q";walk_at "h";have L:=tL.mk kk;clear kk;walk_at "s";refine⟨by decide,fun p1 l=>?_⟩;have U:a≠p1:=bz I l;walk_at "";refine⟨by omega,fun R j=>?_⟩;have X:a≠R:=bz I (cJ j).2;have F:eH H3 (fY (fY H3 p1 (.lst [T.int 0])) R (.lst (ns.map T.int++[T.int 0]))):=(eH.new l).trans (eH.new j);have e1:ns.map T.int++[T.int 0]=(ns++[0]).map T.int:=by rw[y_];rfl
 obtain⟨J,C⟩:=rA (ns:=ns++[0]) (i:=0) (by rw[g_];simp);rw[e1] at F ⊢;have b:atI ((ns++[0]).map T.int) 0=some (T.int J):=C;rw[b,fM];have d:J%2≠0->1<=ns.length:=fun h=>by
  cases ns with
  |nil =>
   have z:atI (([0]:List Int).map T.int) 0=some (T.int 0):=rfl
   rw[abT,z] at b
   cases b
   exact absurd rfl h
  |cons x r=>simp
 have G:=F _ _ I;generalize fY (fY H3 p1 (.lst [T.int 0])) R (.lst ((ns++[0]).map T.int))=H4 at F G ⊢;clear C b e1 U X l j I;walk_at "n";refine au fun R1 W=>?_;walk_at "";refine⟨by decide,?_⟩;by_cases m:J%2=0
 ·rw[N_ m,if_pos rfl];clear W d;try walk_at ""
  refine⟨by decide,fun q1 D=>⟨⟨by decide,by decide,by decide⟩,fun q2 o=>?_⟩⟩;have Y:a≠q1:=bz G D;have n2:a≠q2:=bz G (cJ o).2;rw[aF n2,aF Y,G,Hn];have e2:(List.replicate (Int.toNat 64) [T.int 0]).flatten=(List.replicate 64 (0:Int)).map T.int:=rfl;rw[e2];refine⟨by rw[d_,d_,Z0];omega,fun q3 O=>?_⟩;obtain⟨c,ec⟩:=rA (ns:=ns++List.replicate 64 0) (i:=k) (by rw[g_,Z0];omega);rw[Di,aq,yr,<- y_,ec,fM];exact t6.of (F.trans ((eH.new D).trans ((eH.new o).trans (eH.new O)))) (L.out c)
 rw[E_ m,if_neg B_];have h1:=d m;clear d;walk_at "n";refine au fun R2 hR2=>?_;obtain⟨v,u⟩:=rA (ns:=ns) (i:=k%ns.length) (Nat.mod_lt _ (by omega));have p:atI (ns.map T.int) ((k:Int)%(ns.length:Int))=some (T.int v):=u;clear u;walk_at "";refine⟨by omega,?_⟩;walk_at "n";refine au fun R3 hR3=>?_;have z0:=S_ v (show (2147483647:Int)≠0 by decide);have z1:=M_ v (show (0:Int)<2147483647 by decide);clear p;walk_at "";refine⟨by decide,.inr ⟨by decide,by decide⟩,.inl ⟨by decide,by decide⟩,by decide,?_⟩;generalize v%2147483647=z at z0 z1;have y0:=S_ (z*48271+69621*(k:Int)+7919) (show (2147483629:Int)≠0 by decide);have y1:=M_ (z*48271+69621*(k:Int)+7919) (show (0:Int)<2147483629 by decide);generalize (z*48271+69621*(k:Int)+7919)%2147483629=y at y0 y1;walk_at "n";walk_at "s";refine⟨.inl ⟨by omega,by omega⟩,by decide,?_⟩;have x0:=S_ (y*y+(k:Int)) (show (2147483587:Int)≠0 by decide);have x1:=M_ (y*y+(k:Int)) (show (0:Int)<2147483587 by decide);generalize (y*y+(k:Int))%2147483587=x at x0 x1;walk_at "n";walk_at "s";walk_at "n";refine au fun R6 V=>?_;walk_at "";refine⟨by first | trivial | decide,by decide,by decide,?_⟩;generalize dX 0 (Int.toNat 9)=ts0;refine iI (fun r Z H=>∃(n S:Int) (M:Option T),Z=[some (.ref a),some (.int (k:Int)),some (.int J),some (.int v),some (.int n),some (.int S),M]/\0<=n/\n<2147483629/\eH H3 H) ⟨x,0,_,rfl,x0,by omega,F⟩ ?_ ?_
 ·rintro Z H ⟨n,S,M,rfl,_,_,e⟩;walk_at "t";walk_at "n";walk_at "";exact t6.of e (L.out _)
 rintro t r Z H N ⟨n,S,M,rfl,n0,Y,e⟩ hN;walk_at "t";have hM:=tL.mk hN;clear hN V L;walk_at "";refine⟨.inl ⟨by omega,by omega⟩,by decide,.inr ⟨by decide,by decide⟩,?_⟩;exact hM.out _ _ ⟨_,_,_,rfl,S_ _ (by decide),Int.lt_trans (M_ _ (by decide)) (by decide),e⟩
abbrev Hz:List Str:=["_law_cell_here","_law_letters","_law_word_here","_law_rest","_law_j"]
def acF:gk Hz ["_law_cell_here"] (aB (top 42)):=bc
def Mh {f:Addr} (g:G3 K mg "_law_word" (top 42) ["_law_cell_here"] f C) (B:Bl mg):Ow P w K mg base 1 "_law_word" (top 42) ["_law_cell_here"] Tt:=by
 refine c6 g acF ?_;rintro _ _ _ s H _ _ H3 _ _ ⟨c,rfl,D⟩;refine⟨_,(aj (aD 1 acF.nd gU)
   (aj (aD 2 acF.nd gU)
   (aj (aD 3 acF.nd (aG aX (v3 0) ao))
   (aj (bj I_ rfl (bR rfl B.range_ (aa (aG aW ao (aG aV (v3 0) ao)) ak)) (aC 4 acF.nd) (aj (aD 2 acF.nd (aG aW (v3 2) (aJ My (v3 1) (aG aV (v3 3) ao))))
    (aA (aD 3 acF.nd (aG aX (v3 3) ao)))))
   (aA (aL (v3 2))))))),?_⟩
 walk_at "q";walk_at "h";have N:(mkS mY).length<=sizeLine:=by rw[di];decide
 have u:=tL.mk D;clear D;have G:("":Str)=mkS []:=by decide +kernel
 walk_at "s";simp only[Gz];walk_at "n";walk_at "s";walk_at "n";walk_at "s";refine⟨⟨by decide,by decide +kernel⟩,?_⟩;walk_at "n";refine au fun R3 t=>?_;walk_at "";have W:=S_ c (show (8:Int)≠0 by decide);have Y:=M_ c (show (0:Int)<8 by decide);refine⟨by decide,trivial,by omega,by omega,?_⟩;have k:(dX 0 (1+c%8).toNat).length=(1+c%8).toNat:=by unfold dX;rw[d_,z_]
 generalize dX 0 (1+c%8).toNat=J at k;try rw[G]
 generalize c / 8=n;refine iI (fun r Z H=>∃(a:List Nat) (d:Int) (q:Option T),Z=[some (.int c),some (.str (mkS mY)),some (.str (mkS a)),some (.int d),q]/\(a.length:Int)+r.length=1+c%8/\(∀x∈a,97<=x/\x<=122)/\H3=H) ⟨[],n,_,rfl,by rw[k,ZQ];omega,(fun _ z=>nomatch z),rfl⟩ ?_ ?_
 ·rintro Z H ⟨a,d,q,rfl,b,m,rfl⟩;walk_at "t";rw[ZQ] at b;walk_at "n";walk_at "";exact t6.of eH.refl (u.out _ (Od (by omega) (by omega) m))
 rintro x r Z H V ⟨a,d,q,rfl,b,m,rfl⟩ l;walk_at "t";rw[p_] at b;have S:=tL.mk l;have o:=tL.mk m;have v:a.length<8:=by omega
 have e:=tL.mk b;have L:=S_ d (show (26:Int)≠0 by decide);have O:=M_ d (show (0:Int)<26 by decide);have p:=GC (d%26) L O;clear l u t b m;walk_at "";simp only[iQ,p,fM];walk_at "";rw[show (⟨#[97+(d%26).toNat]⟩:Str)=mkS [97+(d%26).toNat] from rfl];refine⟨by decide,N,by rw[di,di];simp only[K_];omega,⟨by decide,by decide +kernel⟩,?_⟩;rw[yN];exact S.out _ _ ⟨_,_,_,rfl,by rw[g_,K_];have:=e.out;push_cast;omega,fun y j=>by
  rcases F_.mp j with j | j
  ·
   exact o.out y j
  ·
   rw[t_.mp j];omega,rfl⟩
abbrev uY:List Str:=["_law_words","_law_letters","_law_found","_law_word_here"]
def acC:gk uY ["_law_words"] (aB (top 43)):=bc
def Br {f:Addr} (g:G3 K mg "_law_unlike" (top 43) ["_law_words"] f Y) (B:Bl mg):Ow P w K mg base 1 "_law_unlike" (top 43) ["_law_words"] Tu:=by
 refine c6 g acC ?_;rintro _ A _ s H _ _ H3 _ hr ⟨a,ws,rfl,D,hl,u,kk⟩;have v:=tR.u31 hr;refine⟨_,(aj (aD 1 acC.nd gU)
   (aj (aD 2 acC.nd (bx ak))
   (aj (bj I_ rfl (c7 (v3 0)) (aC 3 acC.nd) (aj (mz I_ (aU (mF v) (v3 3) (v3 2) rfl) (aA (aD 3 acC.nd (aG aW (gY (v3 3) cX (bV (jj ao))) (aJ My (v3 1) (aG aV (aG aW (dZ PySem.F.plainAttrs_str PySem.F.slot_str_index PySem.F.type_str_index De (v3 1) (aa (aJ My (v3 3) (jj ao)) ak)) ao) ao))))))
    (aA (bZ (dZ R_ Zf Zg bL (v3 2) (aa (v3 3) ak))))))
   (aA (aL (v3 2)))))),?_⟩
 walk_at "q";walk_at "h";have al:(mkS mY).length<=sizeLine:=by rw[di];decide
 have V:=tL.mk kk;clear kk;walk_at "s";simp only[Gz];walk_at "n";walk_at "s";refine⟨by decide,fun l C=>?_⟩;have r:a≠l:=bz D C;walk_at "n";refine au fun R2 G=>?_;have ga:fY H3 l (.lst []) a=some (.lst (ws.map T.str)):=by rw[aF r];exact D
 walk_at "";have y:=tL.mk u;clear u;refine aZ T.str ws (fun A Z H=>∃(fs:List Str) (v3:Option T),Z=[some (.ref a),some (.str (mkS mY)),some (.ref l),v3]/\H=fY H3 l (.lst (fs.map T.str))/\fs.length=A.length/\Nms fs) ⟨[],_,rfl,rfl,rfl,Nms.nil⟩ ?_ ?_
 ·rintro Z H ⟨fs,v3,rfl,rfl,q,O⟩;refine⟨.inl (by rw[aF r];exact D),?_⟩;walk_at "n";walk_at "";exact t6.of eH.refl (V.out fs q O l C)
 rintro A x B Z H N e ⟨fs,v3,rfl,rfl,q,O⟩ W;refine⟨.inl (by rw[aF r];exact D),?_⟩;have hA:A.length+1<=8:=by have:=Zk List.length e;simp only[g_,p_] at this;omega
 obtain⟨b,c,rfl,R,hs0,M⟩:=Lx (y.out x (by rw[e];simp));have I:=tL.mk W;clear W e G V ga;have gf:fY H3 l (.lst (fs.map T.str)) l=some (.lst (fs.map T.str)):=aq;refine au fun R3 S=>?_;walk_at "";refine Bc (fun m Z H=>∃j:Nat,m+j=8/\Z=[some (.ref a),some (.str (mkS mY)),some (.ref l),some (.str (nmL b c j))]/\H=fY H3 l (.lst (fs.map T.str))/\∀i,i<j->nmL b c i∈fs) ⟨8,0,rfl,rfl,rfl,(fun _ z=>absurd z (by omega))⟩ ?_;intro m Z H hI WI TB NX d n k;obtain⟨j,hm,rfl,rfl,o⟩:=hI;have hj:j<=fs.length:=by
  rcases abO fs.length j with z | z
  ·exact (pig fs (fun i=>nmL b c i) (fun i i' h1 h2 h=>Lw (by omega) (by omega) h) fun i hi=>o i (by omega)).elim
  exact z
 walk_at "";refine⟨rfl,dU fs,?_⟩;split
 ·rename_i p;have U:nmL b c j∈fs:=Classical.byContradiction fun h=>absurd p (by rw[uN];simp [h]);clear k S;obtain⟨n⟩:=n;subst n;try dsimp only
  walk_at "";have X:=Ly b c j;have md:=Nat.mod_lt (c+j) (show 0<26 by decide);have t:=SM (97+(c+j)%26) (by omega) (by omega);refine⟨by omega,by first | trivial | omega,by omega,?_⟩;rw[Lz,BW,fM,show (⟨#[97+(c+j)%26]⟩:Str)=mkS [97+(c+j)%26] from rfl,t];clear t;walk_at "";have L:=GC ((((97+(c+j)%26 - 97:Nat):Int)+1)%26) (S_ _ (by decide)) (M_ _ (by decide));have en:((((97+(c+j)%26 - 97:Nat):Int)+1)%26).toNat=(c+(j+1))%26:=by omega
  have sn:Txt.slice (nmL b c j) none (some (-1))=mkS b:=Tw b _;refine⟨by decide,al,?_⟩;rw[iQ,L,fM,en,sn,show (⟨#[97+(c+(j+1))%26]⟩:Str)=mkS [97+(c+(j+1))%26] from rfl,yN];obtain⟨d⟩:=d;subst d;refine⟨by rw[di,di];simp only[K_];omega,m - 1,by omega,j+1,by omega,rfl,rfl,fun i hi=>?_⟩;rcases abO i j with z | z
  ·exact o i z
  rw[show i=j by omega];exact U
 rename_i p;have J:nmL b c j∉fs:=fun h=>p (by rw[uN];simp [h]);clear n d;obtain⟨k⟩:=k;subst k;walk_at "n";try dsimp only
 walk_at "";refine⟨⟨trivial,trivial⟩,by omega,I.out _ _ ⟨fs++[nmL b c j],some _,rfl,?_,by rw[g_,g_,q];rfl,O.snoc (Tv R M) J⟩⟩;rw[y_];rfl
abbrev HB:List Str:=["_law_cell_here","_law_words","_law_k"]
def adc:gk HB ["_law_cell_here"] (aB (top 44)):=bc
def Mi {f:Addr} (g:G3 K mg "_law_pool" (top 44) ["_law_cell_here"] f G) (B:Bl mg) (d:Ow P w K mg base 1 "_law_word" (top 42) ["_law_cell_here"] Tt) (a:Ow P w K mg base 1 "_law_unlike" (top 43) ["_law_words"] Tu):Ow P w K mg base 2 "_law_pool" (top 44) ["_law_cell_here"] Tz:=by
 refine c6 g adc ?_;rintro _ _ _ s H _ _ H3 _ D ⟨c,rfl,I⟩;refine⟨_,(aj (aD 1 adc.nd (bx ak))
   (aj (bj I_ rfl (bR rfl B.range_ (aa ao ak)) (aC 2 adc.nd) (aj (bZ (dZ R_ Zf Zg bL (v3 1) (aa (aP d D rfl (aa (aG aV (v3 0) (aG cW ao (aG jg ao ao))) ak)) ak)))
    (aA (aD 0 adc.nd (aG aX (v3 0) (aG cW ao (aG jg ao ao)))))))
   (aA (aL (aP a D rfl (aa (v3 1) ak)))))),?_⟩
 walk_at "q";walk_at "h";have v:=tL.mk I;clear I;walk_at "s";refine⟨by decide,fun l t=>?_⟩;walk_at "n";refine au fun X u=>?_;walk_at "";refine⟨trivial,by decide,by decide,?_⟩;have C:(dX 0 (Int.toNat 8)).length=8:=by unfold dX;rw[d_,z_];rfl
 generalize dX 0 (Int.toNat 8)=L at C;refine iI (fun r Z H=>∃(ws:List Str) (c:Int) (n:Option T),Z=[some (.int c),some (.ref l),n]/\H=fY H3 l (.lst (ws.map T.str))/\ws.length+r.length=8/\∀x∈ws,isNm x) ⟨[],c,_,rfl,rfl,by rw[C];rfl,(fun _ z=>nomatch z)⟩ ?_ ?_
 ·rintro Z H ⟨ws,c,n,rfl,rfl,m,q⟩;walk_at "t";rw[ZQ] at m;walk_at "n";walk_at "";refine⟨l,ws,rfl,aq,by omega,q,fun us W O p U=>?_⟩;refine t6.of ?_ (v.out us (by omega) O p (cJ U).2);intro b o j;by_cases e:b=p
  ·subst e;rw[aq] at j ⊢;exact j
  rw[aF e] at j ⊢;rw[aF (bz j t)];exact j
 rintro x r Z H N ⟨ws,c,n,rfl,rfl,m,q⟩ F;walk_at "t";rw[p_] at m;have V:=tL.mk F;clear F u v;have S:fY H3 l (.lst (ws.map T.str)) l=some (.lst (ws.map T.str)):=aq;walk_at "";refine⟨⟨trivial,trivial⟩,⟨by decide,by decide,by decide⟩,.inl ⟨by decide,by decide⟩,by decide,_,rfl,fun y M=>?_⟩;dsimp only;rw[S,Dj];refine⟨by rw[d_];omega,⟨by decide,by decide,by decide⟩,.inl ⟨by decide,by decide⟩,⟨by decide,by decide +kernel⟩,V.out _ _ ⟨ws++[y],_,_,rfl,?_,by rw[g_,K_];omega,fun z k=>?_⟩⟩
 ·rw[y_];exact qe
 rcases F_.mp k with k | k
 ·exact q z k
 rw[t_.mp k];exact M
abbrev HD:List Str:=["_law_cell_here","_law_row","_law_pool_here","_law_unit","_law_stand","_law_turn","_law_some","_law_rest","_law_k","_law_other","_law_at","_law_digit","_law_length"]
def Z1:gk HD ["_law_cell_here","_law_row","_law_pool_here","_law_unit"] (aB (top 45)):=bc
def Mj {f:Addr} (g:G3 K mg "_law_task" (top 45) ["_law_cell_here","_law_row","_law_pool_here","_law_unit"] f fd) (B:Bl mg) (v:Ow P w K mg base 1 "_law_word" (top 42) ["_law_cell_here"] Tt):Ow P w K mg base 2 "_law_task" (top 45) ["_law_cell_here","_law_row","_law_pool_here","_law_unit"] Xk:=by
 refine c6 g Z1 ?_;rintro _ _ _ s H _ _ H3 Q hr ⟨c,W,pp,a,e,d,rfl,O,r1,r8,hrn,hpp,p8,hpn,u1,u2,kk⟩;have hu30:=tR.u30 hr;have hu31:=tR.u31 hr;refine⟨_,(aj (aD 4 Z1.nd (aG aV (v3 0) (aO cC rfl B.len_ cD (aa (v3 1) ak))))
   (aj (aD 5 Z1.nd (aG aV (aG aX (v3 0) (aO cC rfl B.len_ cD (aa (v3 1) ak))) ao))
   (aj (aD 0 Z1.nd (aG aX (v3 0) (aG cW ao (aO cC rfl B.len_ cD (aa (v3 1) ak)))))
   (aj (aD 6 Z1.nd (bx ak))
   (aj (bA (aU (dC hu30) (aG aV (v3 0) ao) ao) (aj (aD 6 Z1.nd (bx (aa (aJ My (v3 1) (v3 4)) ak)))
    (aj (aD 7 Z1.nd (aG aX (v3 0) ao))
    (aj (bj I_ rfl (bR rfl B.range_ (aa ao ak)) (aC 8 Z1.nd) (aj (aD 9 Z1.nd (aJ My (aG aW (v3 2) (bx (aa (aJ My (v3 1) (v3 4)) ak))) (aG aV (v3 7) ao)))
     (aj (aD 7 Z1.nd (aG aX (v3 7) ao))
     (aA (bA (aU (sX hu31) (v3 9) (v3 6) rfl) (aA (bZ (dZ R_ Zf Zg bL (v3 6) (aa (v3 9) ak)))) aR)))))
    (aj (aD 10 Z1.nd (aG aV (aG aV (v3 7) ao) (aO cC rfl B.len_ cD (aa (v3 6) ak))))
    (aA (aD 6 Z1.nd (aG aW (gY (v3 6) (bV (v3 10)) cX) (gY (v3 6) cX (bV (v3 10)))))))))) aR)
   (aj (aD 0 Z1.nd (aG aX (v3 0) (aG cW (aG cW ao ao) ao)))
   (aj (aD 11 Z1.nd (aG aW ao (aG aV (aG aX (v3 0) ao) ao)))
   (aj (aD 12 Z1.nd (aJ My (bx (aa (v3 11) (aa (aG aW (aG cW (v3 3) (v3 11)) (aG aV (aG aX (v3 0) ao) ao)) (aa (aG aW ao (aG aV (aG aX (v3 0) ao) (aG vN (aG jg ao ao) ao))) ak)))) (aG aV (v3 0) ao)))
   (aA (aL (bB (aa (v3 4) (aa (v3 5) (aa (v3 12) (aa (bf bW rfl B.tuple_ bC (aa (v3 6) ak)) (aa (aP v hr rfl (aa (aG aX (v3 0) (aG cW ao (aG jg ao ao))) ak)) ak)))))))))))))))),?_⟩
 walk_at "q";walk_at "h";have k':=tL.mk kk;clear kk;have hrn':=tL.mk hrn;have hpn':=tL.mk hpn;clear hrn hpn;walk_at "s";have b0:=S_ c (show (a.length:Int)≠0 by omega);have b1:=M_ c (show (0:Int)<(a.length:Int) by omega);refine⟨by omega,?_⟩;obtain⟨s,hs⟩:∃s:Nat,c%(a.length:Int)=(s:Int):=⟨(c%(a.length:Int)).toNat,by omega⟩;rw[hs] at b0 b1 ⊢;have F:s<a.length:=by omega
 have lg:(a.length:Int).natAbs.log2<9000:=aaL (aa6 _) (by omega);have lg8:(8*(a.length:Int)).natAbs.log2<9000:=aaL (aa6 _) (by omega);clear hs;walk_at "n";walk_at "s";refine⟨⟨by omega,lg⟩,by decide,?_⟩;have t0:=S_ (c / (a.length:Int)) (show (8:Int)≠0 by decide);have t1:=M_ (c / (a.length:Int)) (show (0:Int)<8 by decide);generalize c / (a.length:Int)%8=tn at t0 t1;walk_at "n";walk_at "s";refine⟨.inl ⟨by decide,by decide⟩,⟨by omega,lg8⟩,?_⟩;generalize c / (8*(a.length:Int))=c2;walk_at "n";walk_at "s";refine⟨by decide,fun p0 u=>?_⟩;walk_at "n";refine au fun R4 hR4=>?_;have key:tL (∀(p:Addr) (S:List Str) (v7 Y X v10:Option T) (I:gb),eH H3 I->I p=some (.lst (S.map T.str))->Nms S->S.length<=4->(S=[]\/a.getD s ""∈S)->R4 { nx:=fun x H'=>t6 Q T.non H',rt:=t6 Q} [some (.int c2),some (.ref W),some (.ref pp),some (.int d),some (.int (s:Int)),some (.int tn),some (.ref p),v7,Y,X,v10,none,none] I):=by
  refine⟨fun p S v7 Y X v10 I t gp R hk4 hks=>?_⟩;clear O hpp u;walk_at "n";refine au fun R5 hR5=>?_;walk_at "";refine⟨.inl ⟨by decide,by decide⟩,.inl ⟨by decide,by decide⟩,⟨by decide,by decide +kernel⟩,?_⟩;generalize c2 / (4*729*4)=l;walk_at "n";walk_at "s";refine⟨⟨by decide,by decide +kernel⟩,by decide,?_⟩;have d0:=S_ (l / 3) (show (9:Int)≠0 by decide);have d1:=M_ (l / 3) (show (0:Int)<9 by decide);generalize l / 3%9=dg at d0 d1;walk_at "n";walk_at "s";refine⟨.inr ⟨by omega,by omega⟩,⟨by decide,by decide +kernel⟩,by decide,⟨by decide,by decide +kernel⟩,⟨by decide,by decide,by decide⟩,by decide +kernel,by decide,fun M k=>⟨by decide,?_⟩⟩;have i0:=S_ l (show (3:Int)≠0 by decide);have i1:=M_ l (show (0:Int)<3 by decide);have e0:=S_ (l / 27) (show (2:Int)≠0 by decide);have e1:=M_ (l / 27) (show (0:Int)<2 by decide);have f0:=S_ (l / 3) (show ((10:Int)^Int.toNat 60 - 1)≠0 by decide +kernel);have f1:=M_ (l / 3) (show (0:Int)<(10:Int)^Int.toNat 60 - 1 by decide +kernel);have m1:d*(1+dg)<=10^57*9:=Int.mul_le_mul u2 (by omega) (by omega) (by decide +kernel);have m0:1*1<=d*(1+dg):=Int.mul_le_mul u1 (by omega) (by decide) (by omega);have p60:(10:Int)^Int.toNat 60=10^60:=rfl;rw[p60] at f0 f1 ⊢;have sb7:=t.trans (eH.new (o:=.lst [T.int (1+dg),T.int (d*(1+dg)+l / 27%2),T.int (1+l / 3%(10^60 - 1))]) k);have gp7:fY I M (.lst [T.int (1+dg),T.int (d*(1+dg)+l / 27%2),T.int (1+l / 3%(10^60 - 1))]) p=_ := upa gp k;generalize fY I M (.lst [T.int (1+dg),T.int (d*(1+dg)+l / 27%2),T.int (1+l / 3%(10^60 - 1))])=H5 at sb7 gp7 ⊢;generalize d*(1+dg)=ud at *;generalize l / 27%2=e27 at *;generalize l / 3%(10^60 - 1)=e3 at *;obtain⟨q,G,l1,l2⟩:∃q:Int,atI [T.int (1+dg),T.int (ud+e27),T.int (1+e3)] (l%3)=some (T.int q)/\1<=q/\q<10^60:=by
   rcases (show l%3=0\/l%3=1\/l%3=2 by omega) with h | h | h
   ·rw[h];exact⟨_,rfl,by omega,by omega⟩
   ·rw[h];exact⟨_,rfl,by omega,by omega⟩
   rw[h];exact⟨_,rfl,by omega,by omega⟩
  rw[G,fM];clear G gp t k;walk_at "n";walk_at "";refine⟨⟨by decide,by decide,by decide⟩,.inl ⟨by decide,by decide⟩,⟨by decide +kernel,by decide +kernel⟩,_,rfl,fun y hy=>⟨by decide,?_⟩⟩;exact t6.of sb7 (k'.out s tn q S y F t0 t1 l1 l2 R hk4 hks hy)
 have m:fY H3 p0 (.lst []) W=_ := upa O u;have D:fY H3 p0 (.lst []) p0=some (.lst (([]:List Str).map T.str)):=aq;have C:eH H3 (fY H3 p0 (.lst [])):=eH.new u;generalize fY H3 p0 (.lst [])=I at m D C ⊢;clear u hR4 k';walk_at "";refine⟨by decide,?_⟩;by_cases h4:c2%4=1
 ·rw[N_ h4,if_pos rfl];try rw[m,yr]
  rw[lL F,fM];refine⟨by decide,fun pf hpf=>⟨⟨by decide,by decide +kernel⟩,by first | trivial | decide,by decide,by decide,?_⟩⟩;have f0:=cL C hpf;have rl:(dX 0 (Int.toNat 3)).length=3:=by unfold dX;rw[d_,z_];rfl
  generalize dX 0 (Int.toNat 3)=ts0 at rl;have hxs:=hrn'.out _ (getD_memS F);have hx':=tL.mk hxs;clear hxs;refine iI (fun r Z H=>∃(fs:List Str) (rest:Int) (Y X:Option T),Z=[some (.int c2),some (.ref W),some (.ref pp),some (.int d),some (.int (s:Int)),some (.int tn),some (.ref pf),some (.int rest),Y,X,none,none,none]/\eH H3 H/\H pf=some (.lst (fs.map T.str))/\Nms fs/\fs.length+r.length<=4/\a.getD s ""∈fs) ⟨[a.getD s ""],c2 / 4,_,_,rfl,C.trans (eH.new hpf),aq,Nms.nil.snoc hx'.out (fun z=>nomatch z),by rw[rl];exact k_ 4,t_.mpr rfl⟩ ?_ ?_
  ·rintro Z H ⟨fs,rest,Y,X,rfl,t,V,R,hl,hm⟩;walk_at "t";clear m D;walk_at "";have fl:1<=fs.length:=List.length_pos_of_mem hm;have a0:=S_ (rest%4) (show (fs.length:Int)≠0 by omega);have a1:=M_ (rest%4) (show (0:Int)<(fs.length:Int) by omega);obtain⟨j,hj⟩:∃j:Nat,rest%4%(fs.length:Int)=(j:Int):=⟨(rest%4%(fs.length:Int)).toNat,by omega⟩;refine⟨by decide,by omega,fun M k=>?_⟩;rw[hj,aF (bz V k),V,Nh,mG,jP];intro q2 n;have n12:M≠q2:=bz aq n;rw[Dh,aF n12,aq,aq,jO];refine⟨by rw[abr,aam,d_];omega,fun q3 hq3=>?_⟩;have pm:(fs.drop j++fs.take j).Perm fs:=List.perm_append_comm.trans (by rw[List.take_append_drop]);refine key.out q3 (fs.drop j++fs.take j) _ _ _ _ _ (t.trans ((eH.new k).trans ((eH.new n).trans (eH.new hq3)))) (by rw[aq,y_,List.map_drop,ab7]) ⟨fun x hx=>R.nm x (pm.mem_iff.mp hx),pm.nodup_iff.mpr R.nd⟩ (by rw[pm.length_eq];simpa using hl) (.inr (pm.mem_iff.mpr hm))
  rintro x r Z H N ⟨fs,rest,Y,X,rfl,t,V,R,hl,hm⟩ hN;walk_at "t";rw[p_] at hl;have hM:=tL.mk hN;clear hN m D key;have m:=t _ _ O;have L:=t _ _ hpp;walk_at "s";try rw[lL F,fM]
  refine⟨by decide,fun M k=>?_⟩;rw[aF (bz L k),L,jO];refine⟨by rw[d_,K_];omega,fun q2 n=>?_⟩;have U:=t.trans ((eH.new (o:=.lst [T.str (a.getD s "")]) k).trans (eH.new (o:=.lst (e.map T.str++[T.str (a.getD s "")])) n));have gf5:fY (fY H M (.lst [T.str (a.getD s "")])) q2 (.lst (e.map T.str++[T.str (a.getD s "")])) pf=some (.lst (fs.map T.str)):=by rw[aF (bz (eH.new k _ _ V) n),aF (bz V k)];exact V
  have h0:=S_ rest (show (9:Int)≠0 by decide);have h1:=M_ rest (show (0:Int)<9 by decide);obtain⟨j,hj⟩:∃j:Nat,rest%9=(j:Int):=⟨(rest%9).toNat,by omega⟩;have hat:atI (e.map T.str++[T.str (a.getD s "")]) (j:Int)=some (T.str ((e++[a.getD s ""]).getD j "")):=by have:=lL (ns:=e++[a.getD s ""]) (i:=j) (by rw[g_,K_];omega);rw[y_] at this;exact this
  have J:isNm ((e++[a.getD s ""]).getD j ""):=by
   have:=getD_memS (ns:=e++[a.getD s ""]) (i:=j) (by rw[g_,K_];omega);rcases F_.mp this with z | z
   ·exact hpn'.out _ z
   rw[t_.mp z];exact hx'.out
  refine⟨by decide,?_⟩;rw[hj,Di,aq,yr,hat,fM];generalize fY (fY H M (.lst [T.str (a.getD s "")])) q2 (.lst (e.map T.str++[T.str (a.getD s "")]))=H5 at U gf5 ⊢;generalize (e++[a.getD s ""]).getD j ""=oth at J ⊢;clear hat k n m L t V;walk_at "n";walk_at "";refine⟨⟨by decide,by decide +kernel⟩,rfl,dU fs,?_⟩;split
  ·rename_i hm1;have hni:=(WY jC (x:=oth)).mp hm1;try walk_at ""
   refine⟨⟨trivial,trivial⟩,by omega,hM.out _ _ ⟨fs++[oth],_,_,_,rfl,?_,?_,R.snoc J hni,by rw[g_,K_];omega,Zo _ hm⟩⟩
   ·intro b o hb;rw[aF (bz hb f0)];exact U b o hb
   rw[aq,y_];rfl
  exact hM.out _ _ ⟨fs,_,_,_,rfl,U,gf5,R,by omega,hm⟩
 rw[E_ h4,if_neg B_];exact key.out p0 [] _ _ _ _ I C D Nms.nil (by decide) (.inl rfl)
abbrev rF:List Str:=["_law_script","_law_names","_law_some","_law_rank","_law_base","_law_ahead","_law_beside","_law_orders","_law_pairs","_law_p","_law_q","_law_one","_law_other","_law_word_here"]
def XR:gk rF ["_law_script","_law_names","_law_some"] (aB (top 46)):=bc
def HF {f:Addr} (g:G3 K mg "_law_links" (top 46) ["_law_script","_law_names","_law_some"] f fd) (B:Bl mg) (r:Ow P w K mg base 1 "_law_cell" (top 41) ["_law_script","_law_k"] Ls):Ow P w K mg base 2 "_law_links" (top 46) ["_law_script","_law_names","_law_some"] Xl:=by
 refine c6 g XR ?_;rintro _ A _ s H _ _ H3 _ hr ⟨a,pn,ps,sc,ns,c,rfl,ha,hsc,hpn,hnn,hn8,hps,hsl,kk⟩;have M:=tR.u30 hr;have hu31:=tR.u31 hr;refine⟨_,(aj (aD 3 XR.nd (aO Kl rfl B.sorted_ jR (aa (bO rfl (b6 46 rF ["_law_k","_law_some"] 1 [2]) (bR rfl B.range_ (aa (aO cC rfl B.len_ cD (aa (v3 1) ak)) ak)) (fun cl pins s H C0 fp=>⟨(aC 0 (n5 ["_law_k","_law_some"])),bN,(bB (aa (aJ My (aJ My (v3 1) (v3 0)) ao) (aa (aJ My (aJ My (v3 1) (v3 0)) ao) (aa (v3 0) ak))))⟩)) ak)))
   (aj (aD 4 XR.nd (aJ My (bx (aa ao (aa ao (aa ao ak)))) (aG aV (aG aX (aP r hr rfl (aa (v3 0) (aa ao ak))) ao) ao)))
   (aj (aD 5 XR.nd (aP r hr rfl (aa (v3 0) (aa ao ak))))
   (aj (aD 6 XR.nd (aP r hr rfl (aa (v3 0) (aa ao ak))))
   (aj (aD 7 XR.nd (bx ak))
   (aj (aD 8 XR.nd (bx ak))
   (aj (bj I_ rfl (bR rfl B.range_ (aa (aO cC rfl B.len_ cD (aa (v3 3) ak)) ak)) (aC 9 XR.nd) (aA (bj I_ rfl (zX rfl B.range_ (aa (aG aW (v3 9) ao) (aa (aO cC rfl B.len_ cD (aa (v3 3) ak)) ak))) (aC 10 XR.nd) (aj (aD 11 XR.nd (aJ My (v3 1) (aJ My (aJ My (v3 3) (v3 9)) ao)))
     (aj (aD 12 XR.nd (aJ My (v3 1) (aJ My (aJ My (v3 3) (v3 10)) ao)))
     (aj (bA (aU (dC M) (aG aV (v3 5) (v3 4)) ao) (aA (bZ (dZ R_ Zf Zg bL (v3 7) (aa (bB (aa (v3 11) (aa (v3 12) ak))) ak)))) aR)
     (aj (aD 13 XR.nd (aJ My (bx (aa gU (aa gU ak))) (bf Jy rfl B.int_ Qt (aa (dO (dC M) (aJ My (aJ My (v3 3) (v3 9)) ao) (aJ My (aJ My (v3 3) (v3 10)) ao)) ak))))
     (aj (bA (aU (mF hu31) (aG aV (v3 6) ao) (bB (aa ao (aa ao ak))) rfl) (aA (bZ (dZ R_ Zf Zg bL (v3 8) (aa (bB (aa (v3 13) (aa (v3 11) (aa (v3 12) ak)))) ak)))) aR)
     (aj (bA (aU (mF hu31) (aG aV (v3 6) ao) (bB (aa ao (aa ao ak))) rfl) (aA (bZ (dZ R_ Zf Zg bL (v3 8) (aa (bB (aa (v3 13) (aa (v3 12) (aa (v3 11) ak)))) ak)))) aR)
     (aj (aD 5 XR.nd (aG aX (v3 5) (v3 4)))
     (aA (aD 6 XR.nd (aG aX (v3 6) ao)))))))))))))
   (aj (bA (aU (dC M) (aG aV (v3 5) ao) ao) (aA (bZ (Ei R_ PySem.F.slot_list_reverse PySem.F.type_list_reverse Hq (v3 7)))) aR)
   (aj (bA (aU (dC M) (aG aV (v3 6) ao) ao) (aA (bZ (Ei R_ PySem.F.slot_list_reverse PySem.F.type_list_reverse Hq (v3 8)))) aR)
   (aA (aL (bB (aa (bf bW rfl B.tuple_ bC (aa (v3 7) ak)) (aa (bf bW rfl B.tuple_ bC (aa (gY (v3 8) cX (bV ao)) ak)) ak)))))))))))))),?_⟩
 walk_at "q";walk_at "h";have k':=tL.mk kk;clear kk;refine au fun R0 hR0=>?_;walk_at "";refine⟨trivial,by omega,by omega,?_⟩;rw[kE];walk_at "c";refine bH (fun (k:Nat)=>T.int (k:Int)) (fun k=>trT ((((c.map (·.1)).getD k 0:Nat):Int),(c.map (·.2.1)).getD k 0,(k:Int))) (List.range ns.length) [some (.ref ps)] trivial (by rw[z_];omega) (fun k hk Q' hq=>?_) (fun p1 hp1=>?_)
 ·have hk':k<c.length:=by have:=X_.mp hk;omega
  have x1:atI (c.map tk5) (k:Int)=some (.tup [.int ((c[k]).1:Int),.int (c[k]).2.1,.int (c[k]).2.2.1,sT (c[k]).2.2.2.1,.str (c[k]).2.2.2.2]):=cG (by rw[x_,e_ hk'];rfl);have y1:(c.map (·.1)).getD k 0=(c[k]).1:=by rw[i_,x_,e_ hk'];rfl
  have y2:(c.map (·.2.1)).getD k 0=(c[k]).2.1:=by rw[i_,x_,e_ hk'];rfl
  rw[y1,y2] at hq;generalize c[k]=tk at x1 hq;have hq':=tL.mk hq;clear hq k' hR0 y1 y2;walk_at "";exact⟨by decide,hq'.out⟩
 refine⟨(List.range ns.length).map fun k=>((((c.map (·.1)).getD k 0:Nat):Int),(c.map (·.2.1)).getD k 0,(k:Int)),by rw[U_];rfl,by rw[d_,z_];omega,fun us Y hpw pk hpk=>?_⟩;obtain⟨ul,S,hx1,hx2⟩:=TF hsl Y hpw;have sb:eH H3 (fY (fY H3 p1 (.lst ((List.range ns.length).map fun k=>trT ((((c.map (·.1)).getD k 0:Nat):Int),(c.map (·.2.1)).getD k 0,(k:Int))))) pk (.lst (us.map trT))):=(eH.new hp1).trans (eH.new hpk);have U:fY (fY H3 p1 (.lst ((List.range ns.length).map fun k=>trT ((((c.map (·.1)).getD k 0:Nat):Int),(c.map (·.2.1)).getD k 0,(k:Int))))) pk (.lst (us.map trT)) pk=some (.lst (us.map trT)):=aq;generalize fY (fY H3 p1 (.lst ((List.range ns.length).map fun k=>trT ((((c.map (·.1)).getD k 0:Nat):Int),(c.map (·.2.1)).getD k 0,(k:Int))))) pk (.lst (us.map trT))=H4 at sb U ⊢;clear Y hpw hpk hp1;have x:=tL.mk hx1;have hx2':=tL.mk hx2;clear hx1 hx2;walk_at "n";walk_at "s";refine⟨by decide,fun q1 y=>?_⟩;have v:=sb.trans (eH.new (o:=.lst [T.int 2,T.int 4,T.int 8]) y);have W:fY H4 q1 (.lst [T.int 2,T.int 4,T.int 8]) pk=_ := upa U y;have X:fY H4 q1 (.lst [T.int 2,T.int 4,T.int 8]) q1=some (.lst [T.int 2,T.int 4,T.int 8]):=aq;generalize fY H4 q1 (.lst [T.int 2,T.int 4,T.int 8])=H5 at v W X ⊢;clear sb U y;refine⟨a,sc,0,rfl,v _ _ ha,hsc,by decide,fun c0=>?_⟩;dsimp only;obtain⟨bs,eb,hbs⟩:∃bs:Int,atI [T.int 2,T.int 4,T.int 8] (c0 / 2048%3)=some (T.int bs)/\(bs=2\/bs=4\/bs=8):=by
  have i0:=S_ (c0 / 2048) (show (3:Int)≠0 by decide);have i1:=M_ (c0 / 2048) (show (0:Int)<3 by decide);rcases (show c0 / 2048%3=0\/c0 / 2048%3=1\/c0 / 2048%3=2 by omega) with h | h | h
  ·rw[h];exact⟨2,rfl,.inl rfl⟩
  ·rw[h];exact⟨4,rfl,.inr (.inl rfl)⟩
  rw[h];exact⟨8,rfl,.inr (.inr rfl)⟩
 walk_at "";refine⟨⟨by decide,by decide +kernel⟩,by decide,?_⟩;have lgb:bs.natAbs.log2<9000:=aaL (aa6 _) (by omega);clear eb X;walk_at "n";walk_at "s";refine⟨a,sc,12,rfl,v _ _ ha,hsc,by decide,fun c1=>?_⟩;walk_at "n";walk_at "s";refine⟨a,sc,13,rfl,v _ _ ha,hsc,by decide,fun c2=>?_⟩;walk_at "n";walk_at "s";refine⟨by decide,fun I C=>?_⟩;walk_at "n";walk_at "s";refine⟨by decide,fun pq D=>?_⟩;have V:LkH H3 (fY (fY H5 I (.lst [])) pq (.lst [])) pk I pq us [] [] :=
  ⟨(v.trans (eH.new C)).trans (eH.new D),eH.new D _ _ (eH.new C _ _ W),by rw[aF (bz aq D)];exact aq,aq,cL v C,cL (v.trans (eH.new C)) D,bz W C,bz (eH.new C _ _ W) D,bz aq D⟩
 generalize fY (fY H5 I (.lst [])) pq (.lst [])=H6 at V ⊢;clear v W C D;walk_at "n";refine au fun R6 hR6=>?_;have gk0:=V.k;walk_at "";refine⟨by first | trivial | omega,by omega,by omega,?_⟩;try rw[ul]
 rw[kE];have G:∃b:Nat->Str,∀p<ns.length,ns[S p]?=some (b p):=⟨fun p=>ns.getD (S p) "",fun p hp=>by
  have:=(x.out p hp).1
  dsimp only
  rw[i_,e_ this]
  rfl⟩
 obtain⟨b,G⟩:=G;obtain⟨J,hwd⟩:∃J:Nat->Nat->Str,∀p q,J p q=if (c.map (·.1)).getD (S p) 0=(c.map (·.1)).getD (S q) 0 then "with" else "apart":=⟨_,fun _ _=>rfl⟩
 have hwd':=tL.mk hwd;clear hwd;have hinj:tL (∀i j,i<ns.length->j<ns.length->b i=b j->i=j):=⟨fun i j hi hj e=>by
  have h1:=G i hi
  have h2:=G j hj
  rw[e,<- h2] at h1
  have e2:=(List.getElem?_inj (x.out i hi).1 hnn.nd).mp h1
  rcases Nat.lt_trichotomy i j with z | z | z
  ·
   exact absurd e2 (hx2'.out i j z hj).1
  ·
   exact z
  ·
   exact absurd e2.symm (hx2'.out j i z hi).1⟩
 refine aZ (fun (k:Nat)=>T.int (k:Int)) (List.range ns.length) (fun A Z H=>∃(O:List (Str × Str)) (P:List (Str × Str × Str)) (ah be:Int) (v9 m l n d:Option T),Z=[some (.ref a),some (.ref pn),some (.ref ps),some (.ref pk),some (.int bs),some (.int ah),some (.int be),some (.ref I),some (.ref pq),v9,m,l,n,d]/\LkH H3 H pk I pq us O P/\Lk1 b J ns.length A.length 0 O P) ⟨[],[],_,_,_,_,_,_,_,rfl,V,⟨aa_,(fun _ z=>nomatch z),aa_,(fun _ z=>nomatch z),ZS _,ZS _⟩⟩ ?_ ?_
 ·rintro Z H ⟨O,P,ah,be,v9,m,l,n,d,rfl,t,l1⟩;walk_at "t";have U:=t.k;have go:=t.o;have gp:=t.p;clear V gk0;walk_at "n";walk_at "s";refine⟨by decide,?_⟩;refine Hr ⟨trivial,trivial⟩ fun b7 H7 e7=>?_;obtain⟨O',pO,lh7⟩:∃O':List (Str × Str),O'.Perm O/\LkH H3 H7 pk I pq us O' P:=by
   cases b7
   ·rw[e7];exact⟨O,.refl _,t⟩
   refine⟨O.reverse,abi O,?_⟩;rw[e7,<- aaq];exact t.putO
  have gp7:=lh7.p;clear e7 t U go gp;walk_at "n";walk_at "s";refine⟨by decide,?_⟩;refine Hr ⟨trivial,trivial⟩ fun b8 H8 e8=>?_;obtain⟨P',pP,lh8⟩:∃P':List (Str × Str × Str),P'.Perm P/\LkH H3 H8 pk I pq us O' P':=by
   cases b8
   ·rw[e8];exact⟨P,.refl _,lh7⟩
   refine⟨P.reverse,abi P,?_⟩;rw[e8,<- aaq];exact lh7.putP
  have gp8:=lh8.p;have go8:=lh8.o;clear e8 lh7 gp7;walk_at "n";walk_at "";intro q1 y;refine⟨by decide,?_⟩;rw[show (12:Int)=((12:Nat):Int) from rfl,jP,<- ab7];exact t6.of (lh8.sb.trans (eH.new y)) (k'.out O' (P'.take 12) (TJ hn8 (fun p hp=>(x.out p hp).1) hx2'.out G hwd'.out l1 pO pP))
 rintro A p B Z H N e ⟨O,P,ah,be,v9,m,l,n,d,rfl,t,l1⟩ hN;walk_at "t";have hA:A.length<ns.length:=by have:=Zk List.length e;simp only[g_,p_,z_] at this;omega
 have hj:p=A.length:=by
  have h1:(List.range ns.length)[A.length]?=some p:=by rw[e,V_ (k_ _)];simp
  rw[Zy hA] at h1;exact (D_ h1).symm
 have U:=t.k;have hN':=tL.mk hN;clear hN e k' hR6 V gk0;subst hj;walk_at "";refine⟨by first | trivial | omega,⟨by omega,by omega,by omega,by omega⟩,?_⟩;rw[show dX ((A.length:Int)+1) ((ns.length:Int) - ((A.length:Int)+1)).toNat=(List.range (ns.length - (A.length+1))).map (fun (i:Nat)=>T.int ((A.length:Int)+1+(i:Int))) by unfold dX;rw[show ((ns.length:Int) - ((A.length:Int)+1)).toNat=ns.length - (A.length+1) by omega]];refine aZ (fun (i:Nat)=>T.int ((A.length:Int)+1+(i:Int))) (List.range (ns.length - (A.length+1))) (fun L Z H=>∃(O:List (Str × Str)) (P:List (Str × Str × Str)) (ah be:Int) (m l n d:Option T),Z=[some (.ref a),some (.ref pn),some (.ref ps),some (.ref pk),some (.int bs),some (.int ah),some (.int be),some (.ref I),some (.ref pq),some (.int (A.length:Int)),m,l,n,d]/\LkH H3 H pk I pq us O P/\Lk1 b J ns.length A.length (A.length+1+L.length) O P) ⟨O,P,_,_,_,_,_,_,rfl,t,l1.skip (fun p' q' _ z=>by unfold Dn at *;omega) (by omega)⟩ ?_ ?_
 ·rintro Z H ⟨O,P,ah,be,m,l,n,d,rfl,t,l1⟩;walk_at "t";rw[z_] at l1;exact hN'.out _ _ ⟨O,P,_,_,_,_,_,_,_,rfl,t,l1.skip (fun p' q' hq z=>by rw[g_,K_];unfold Dn at *;omega) (by rw[g_,K_];omega)⟩
 rintro L i B2 Z H N2 e2 ⟨O,P,ah,be,m,l,n,d,rfl,t,l1⟩ hN2;walk_at "t";have hA2:L.length<ns.length - (A.length+1):=by have:=Zk List.length e2;simp only[g_,p_,z_] at this;omega
 have hi2:i=L.length:=by
  have h1:(List.range (ns.length - (A.length+1)))[L.length]?=some i:=by rw[e2,V_ (k_ _)];simp
  rw[Zy hA2] at h1;exact (D_ h1).symm
 subst hi2;have hM:tL (∀(b1 b2 b3:Bool) (ah be:Int) (m l n d:Option T) (H':gb),LkH H3 H' pk I pq us (bif b1 then O++[(b A.length,b (A.length+1+L.length))] else O) (bif b3 then (bif b2 then P++[(J A.length (A.length+1+L.length),b A.length,b (A.length+1+L.length))] else P)++[(J A.length (A.length+1+L.length),b (A.length+1+L.length),b A.length)] else (bif b2 then P++[(J A.length (A.length+1+L.length),b A.length,b (A.length+1+L.length))] else P))->N2 [some (.ref a),some (.ref pn),some (.ref ps),some (.ref pk),some (.int bs),some (.int ah),some (.int be),some (.ref I),some (.ref pq),some (.int (A.length:Int)),m,l,n,d] H'):=⟨fun b1 b2 b3 ah be m l n d H' hl=>hN2 _ _ ⟨_,_,_,_,_,_,_,_,rfl,hl,by
  have:=l1.step hinj.out (by omega) (by omega) b1 b2 b3
  rw[g_,K_]
  exact this⟩⟩
 have ol:=l1.ol;have pl_:=l1.pl;clear hN2 e2 hN' l1;obtain⟨q,hq⟩:∃q,q=A.length+1+L.length:=⟨_,rfl⟩;have hqm:q<ns.length:=by omega
 have eqI:(A.length:Int)+1+(L.length:Int)=(q:Int):=by omega
 rw[<- hq] at hM ol pl_;obtain⟨ip,up⟩:=x.out A.length hA;obtain⟨iq,uq⟩:=x.out q hqm;have u1:atI (us.map trT) (A.length:Int)=some (.tup [.int (((c.map (·.1)).getD (S A.length) 0:Nat):Int),.int (us.getD A.length (0,0,0)).2.1,.int (S A.length:Int)]):=cG (by rw[x_,up];rfl);have u2:atI (us.map trT) (q:Int)=some (.tup [.int (((c.map (·.1)).getD (S q) 0:Nat):Int),.int (us.getD q (0,0,0)).2.1,.int (S q:Int)]):=cG (by rw[x_,uq];rfl);have n1:atI (ns.map T.str) (S A.length:Int)=some (.str (b A.length)):=cG (by rw[x_,G _ hA];rfl);have n2:atI (ns.map T.str) (S q:Int)=some (.str (b q)):=cG (by rw[x_,G _ hqm];rfl);have hw:=hwd'.out A.length q;have U:=t.k;have gn:=t.sb _ _ hpn;have go:=t.o;dsimp only;rw[eqI];clear eqI hq;generalize (c.map (·.1)).getD (S A.length) 0=s1 at *;generalize (c.map (·.1)).getD (S q) 0=s2 at *;refine au fun Ra hRa=>?_;walk_at "";obtain⟨hRa⟩:=hRa;subst hRa;refine au fun Rb hRb=>?_;walk_at "";obtain⟨hRb⟩:=hRb;subst hRb;refine au fun Rc hRc=>?_;walk_at "";refine⟨by omega,?_⟩;refine xf (p1:=True/\True) ⟨trivial,trivial⟩ (by decide) (by omega) fun b1 Hb eb=>?_;have lhb:LkH H3 Hb pk I pq us (bif b1 then O++[(b A.length,b q)] else O) P:=by
  cases b1
  ·rw[eb];exact t
  have:=t.putO (O':=O++[(b A.length,b q)]);rw[y_] at this;rw[eb];exact this
 clear eb U gn go t;have U:=lhb.k;obtain⟨hRc⟩:=hRc;subst hRc;refine au fun Rd hRd=>?_;walk_at "";refine⟨by decide,fun q1 y=>?_⟩;have R:=lhb.new (u:=.lst [T.str "apart",T.str "with"]) y;have X:fY Hb q1 (.lst [T.str "apart",T.str "with"]) q1=some (.lst [T.str "apart",T.str "with"]):=aq;generalize fY Hb q1 (.lst [T.str "apart",T.str "with"])=Hc at R X ⊢;clear lhb U y;have U:=R.k;walk_at "";have hwd2:atI [T.str "apart",T.str "with"] (if decide ((s1:Int)=(s2:Int))=true then 1 else 0)=some (T.str (J A.length q)):=by
  by_cases z:s1=s2
  ·rw[hw,if_pos z,N_ (by rw[z]),if_pos rfl];rfl
  rw[hw,if_neg z,E_ (by omega),if_neg B_];rfl
 rw[hwd2,fM];clear hwd2 hw X U;obtain⟨hRd⟩:=hRd;subst hRd;have gp:=R.p;refine au fun Re hRe=>?_;walk_at "";refine⟨by decide,by decide,rfl,rfl,?_⟩;refine xf (p1:=True/\True) ⟨trivial,trivial⟩ (by decide) (by omega) fun b2 Hd ed=>?_;have lhd:LkH H3 Hd pk I pq us (bif b1 then O++[(b A.length,b q)] else O) (bif b2 then P++[(J A.length q,b A.length,b q)] else P):=by
  cases b2
  ·rw[ed];exact R
  have:=R.putP (P':=P++[(J A.length q,b A.length,b q)]);rw[y_] at this;rw[ed];exact this
 have hP1:(bif b2 then P++[(J A.length q,b A.length,b q)] else P).length<=2*(9*A.length+q)+1:=by
  cases b2
  ·exact Nat.le_succ_of_le pl_
  show (P++[_]).length<=_;rw[g_];simp;exact pl_
 have hM2:=tL.mk (hM.out b1 b2);clear ed R gp hM;generalize (bif b2 then P++[(J A.length q,b A.length,b q)] else P)=P1 at *;obtain⟨hRe⟩:=hRe;subst hRe;have gp:=lhd.p;refine au fun Rf hRf=>?_;walk_at "";refine⟨by decide,by decide,rfl,rfl,?_⟩;refine xf (p1:=True/\True) ⟨trivial,trivial⟩ (by decide) (by omega) fun b3 He ee=>?_;have lhe:LkH H3 He pk I pq us (bif b1 then O++[(b A.length,b q)] else O) (bif b3 then P1++[(J A.length q,b q,b A.length)] else P1):=by
  cases b3
  ·rw[ee];exact lhd
  have:=lhd.putP (P':=P1++[(J A.length q,b q,b A.length)]);rw[y_] at this;rw[ee];exact this
 clear ee lhd gp;obtain⟨hRf⟩:=hRf;subst hRf;walk_at "";exact⟨⟨by omega,lgb⟩,⟨by decide,by decide +kernel⟩,hM2.out b3 _ _ _ _ _ _ _ lhe⟩
abbrev jJ:List Str:=["_law_script","_law_most","_law_wide","_law_first","_law_pool_here","_law_spread","_law_kinds","_law_row","_law_k","_law_unit","_law_some","_law_names","_law_tasks","_law_orders","_law_pairs"]
def Ov:gk jJ ["_law_script","_law_most","_law_wide"] (aB (top 47)):=bc
def HH {f:Addr} (g:G3 K mg "_law_works" (top 47) ["_law_script","_law_most","_law_wide"] f fd) (B:Bl mg) (m:Ow P w K mg base 1 "_law_cell" (top 41) ["_law_script","_law_k"] Ls) (F_pool:Ow P w K mg base 2 "_law_pool" (top 44) ["_law_cell_here"] Tz) (F_task:Ow P w K mg base 2 "_law_task" (top 45) ["_law_cell_here","_law_row","_law_pool_here","_law_unit"] Xk) (L:Ow P w K mg base 1 "_law_unlike" (top 43) ["_law_words"] Tu) (W:Ow P w K mg base 2 "_law_links" (top 46) ["_law_script","_law_names","_law_some"] Xl):Ow P w K mg base 3 "_law_works" (top 47) ["_law_script","_law_most","_law_wide"] Xn:=by
 refine c6 g Ov ?_;rintro _ A _ s H _ _ H3 _ hr ⟨a,sc,l,c,rfl,ha,J,m1,m8,w1,w8,kk⟩;refine⟨_,(aj (aD 3 Ov.nd (aP m hr rfl (aa (v3 0) (aa ao ak))))
   (aj (aD 4 Ov.nd (aP F_pool hr rfl (aa (aP m hr rfl (aa (v3 0) (aa ao ak))) ak)))
   (aj (aD 5 Ov.nd (aJ My (bx (aa ao (aa ao (aa ao (aa ao ak))))) (aG aV (aG aX (v3 3) ao) ao)))
   (aj (aD 6 Ov.nd (aP m hr rfl (aa (v3 0) (aa ao ak))))
   (aj (aD 7 Ov.nd (bx ak))
   (aj (bj I_ rfl (bR rfl B.range_ (aa (aG aW ao (aG aV (aG aX (v3 3) ao) (v3 2))) ak)) (aC 8 Ov.nd) (aj (bZ (dZ R_ Zf Zg bL (v3 7) (aa (aJ My (v3 4) (aG aV (v3 6) (v3 5))) ak)))
    (aA (aD 6 Ov.nd (aG aX (v3 6) (v3 5))))))
   (aj (aD 9 Ov.nd (aG aW ao (aG aV (aP m hr rfl (aa (v3 0) (aa ao ak))) (aG jg ao ao))))
   (aj (aD 10 Ov.nd (bx ak))
   (aj (bj I_ rfl (bR rfl B.range_ (aa (aG aW ao (aG aV (aG aX (v3 3) ao) (v3 1))) ak)) (aC 8 Ov.nd) (aA (bZ (dZ R_ Zf Zg bL (v3 10) (aa (aP F_task hr rfl (aa (aP m hr rfl (aa (v3 0) (aa (aG aW ao (v3 8)) ak))) (aa (v3 7) (aa (v3 4) (aa (v3 9) ak))))) ak)))))
   (aj (aD 11 Ov.nd (aP L hr rfl (aa (bO rfl (b6 47 jJ ["_law_one"] 1 []) (c7 (v3 10)) (fun cl pins s H C0 fp=>⟨(aC 0 (n5 ["_law_one"])),bN,(aJ My (v3 0) ao)⟩)) ak)))
   (aj (fC (i:=12) rfl Ov.nd (b6 47 jJ ["_law_name","_law_one"] 2 []) (Ko rfl B.zip_ (aa (v3 11) (aa (v3 10) ak))) (fun cl pins s H C0 fp=>⟨(cA (n:=2) rfl (aH (aC 0 (n5 ["_law_name","_law_one"])) (aH (aC 1 (n5 ["_law_name","_law_one"])) bI))),bN,(bB (aa (v3 0) (aa (aJ My (v3 1) ao) (aa (aJ My (v3 1) ao) ak))))⟩))
   (aj (my (aP W hr rfl (aa (v3 0) (aa (v3 11) (aa (v3 10) ak)))) (cA (n:=2) rfl (aH (aC 13 Ov.nd) (aH (aC 14 Ov.nd) bI))))
   (aA (aL (bB (aa (bB (aa (bf bW rfl B.tuple_ bC (aa (v3 12) ak)) (aa (v3 13) (aa (v3 14) (aa (bf bW rfl B.tuple_ bC (aa (v3 7) ak)) ak))))) (aa (bO rfl (b6 47 jJ ["_law_one"] 1 []) (c7 (v3 10)) (fun cl pins s H C0 fp=>⟨(aC 0 (n5 ["_law_one"])),bN,(aJ My (v3 0) ao)⟩)) ak))))))))))))))))),?_⟩
 walk_at "q";walk_at "h";have k':=tL.mk kk;clear kk;walk_at "s";refine⟨a,sc,0,rfl,ha,J,by decide,fun v=>?_⟩;walk_at "n";walk_at "s";refine⟨a,sc,2,rfl,ha,J,by decide,fun c1=>⟨c1,rfl,fun d hpl M I hpp=>?_⟩⟩;have sb1:eH H3 (fY H3 I (.lst (d.map T.str))):=eH.new hpp;have gp1:fY H3 I (.lst (d.map T.str)) I=some (.lst (d.map T.str)):=aq;generalize fY H3 I (.lst (d.map T.str))=H4 at sb1 gp1 ⊢;clear hpp;walk_at "n";refine au fun R2 hR2=>?_;obtain⟨sp,eb,hsp⟩:∃sp:Int,atI [T.int 1,T.int 2,T.int 3,T.int 8] (v / 512%4)=some (T.int sp)/\1<=sp/\sp<=8:=by
  have i0:=S_ (v / 512) (show (4:Int)≠0 by decide);have i1:=M_ (v / 512) (show (0:Int)<4 by decide);rcases (show v / 512%4=0\/v / 512%4=1\/v / 512%4=2\/v / 512%4=3 by omega) with h | h | h | h
  ·rw[h];exact⟨1,rfl,by decide⟩
  ·rw[h];exact⟨2,rfl,by decide⟩
  ·rw[h];exact⟨3,rfl,by decide⟩
  rw[h];exact⟨8,rfl,by decide⟩
 walk_at "";refine⟨by decide,fun q1 D=>⟨⟨by decide,by decide +kernel⟩,by decide,?_⟩⟩;try rw[eb,fM]
 have Y:=sb1.trans (eH.new (o:=.lst [T.int 1,T.int 2,T.int 3,T.int 8]) D);have gp2:fY H4 q1 (.lst [T.int 1,T.int 2,T.int 3,T.int 8]) I=_ := upa gp1 D;generalize fY H4 q1 (.lst [T.int 1,T.int 2,T.int 3,T.int 8])=H5 at Y gp2 ⊢;have lgs:sp.natAbs.log2<9000:=aaL (aa6 _) (by omega);clear sb1 gp1 D eb;walk_at "n";walk_at "s";refine⟨a,sc,1,rfl,Y _ _ ha,J,by decide,fun c2=>?_⟩;walk_at "n";walk_at "s";refine⟨by decide,fun S hpr=>?_⟩;have sb3:=Y.trans (eH.new (o:=.lst []) hpr);have f0:=cL Y hpr;have gp3:fY H5 S (.lst []) I=_ := upa gp2 hpr;have npr:I≠S:=bz gp2 hpr;have gr3:fY H5 S (.lst []) S=some (.lst (([]:List Str).map T.str)):=aq;generalize fY H5 S (.lst [])=H6 at sb3 gp3 gr3 ⊢;clear Y gp2 hpr;walk_at "n";refine au fun R5 hR5=>?_;walk_at "";have w0:=S_ (v / 2) (show c≠0 by omega);have w2:=M_ (v / 2) (show 0<c by omega);refine⟨⟨by decide,by decide +kernel⟩,by omega,by first | trivial | omega,by omega,by omega,?_⟩;have rl:(dX 0 (1+v / 2%c).toNat).length=(1+v / 2%c).toNat:=by unfold dX;rw[d_,z_]
 generalize dX 0 (1+v / 2%c).toNat=ts0 at rl;have hpn':=tL.mk M;clear M;refine iI (fun r Z H=>∃(k:List Str) (c2:Int) (v8:Option T),Z=[some (.ref a),some (.int l),some (.int c),some (.int v),some (.ref I),some (.int sp),some (.int c2),some (.ref S),v8,none,none,none,none,none,none]/\eH H3 H/\H I=some (.lst (d.map T.str))/\H S=some (.lst (k.map T.str))/\(k.length:Int)+r.length=1+v / 2%c/\∀x∈k,isNm x) ⟨[],c2,_,rfl,sb3,gp3,gr3,by rw[rl,ZQ];omega,(fun _ z=>nomatch z)⟩ ?_ ?_
 ·rintro Z H ⟨k,c3,v8,rfl,R,gp,gr,hrl,X⟩;walk_at "t";rw[ZQ] at hrl;have r1:1<=k.length:=by omega
  have r8:k.length<=8:=by omega
  have rw_:(k.length:Int)<=c:=by omega
  have G:=tL.mk X;clear X sb3 gp3 gr3 hrl rl w0 w2;walk_at "n";walk_at "s";refine⟨a,sc,3,rfl,R _ _ ha,J,by decide,fun c4=>⟨⟨by decide,by decide,by decide⟩,?_⟩⟩;walk_at "";refine⟨by decide +kernel,?_⟩;have p57:(10:Int)^Int.toNat 57=10^57:=rfl;rw[p57];have u0:=S_ c4 (show ((10:Int)^57)≠0 by decide +kernel);have u9:=M_ c4 (show (0:Int)<(10:Int)^57 by decide +kernel);obtain⟨q,hu⟩:∃q:Int,1+c4%10^57=q:=⟨_,rfl⟩;have u1:1<=q:=by omega
  have u2:q<=10^57:=by omega
  rw[hu];clear hu u0 u9 p57;walk_at "n";walk_at "s";refine⟨by decide,fun ps C=>?_⟩;have sb4:=R.trans (eH.new (o:=.lst []) C);have g0:=cL R C;have gp4:fY H ps (.lst []) I=_ := upa gp C;have gr4:fY H ps (.lst []) S=_ := upa gr C;have gs4:fY H ps (.lst []) ps=some (.lst (([]:List Tk5).map tk5)):=aq;have nps1:I≠ps:=bz gp C;have nps2:S≠ps:=bz gr C;generalize fY H ps (.lst [])=H7 at sb4 gp4 gr4 gs4 ⊢;clear R gp gr C;walk_at "n";refine au fun R8 hR8=>?_;walk_at "";have t0:=S_ (v / 64) (show l≠0 by omega);have t2:=M_ (v / 64) (show 0<l by omega);refine⟨⟨by decide,by decide +kernel⟩,by omega,by first | trivial | omega,by omega,by omega,?_⟩;obtain⟨n,hn⟩:∃n:Nat,(1+v / 64%l).toNat=n:=⟨_,rfl⟩;have n1:1<=n:=by omega
  have n8:n<=8:=by omega
  have nm_:(n:Int)<=l:=by omega
  rw[hn,kE];clear hn t0 t2;refine aZ (fun (i:Nat)=>T.int (i:Int)) (List.range n) (fun A Z H=>∃(p:List Tk5) (v8:Option T),Z=[some (.ref a),some (.int l),some (.int c),some (.int v),some (.ref I),some (.int sp),some (.int c3),some (.ref S),v8,some (.int q),some (.ref ps),none,none,none,none]/\eH H3 H/\H I=some (.lst (d.map T.str))/\H S=some (.lst (k.map T.str))/\H ps=some (.lst (p.map tk5))/\p.length=A.length/\∀t∈p,TkO k t) ⟨[],_,rfl,sb4,gp4,gr4,gs4,rfl,(fun _ z=>nomatch z)⟩ ?_ ?_
  ·rintro Z H ⟨p,v8,rfl,R,gp,gr,gs,hsl,hss⟩;walk_at "t";rw[z_] at hsl;have F:=tL.mk hss;clear hss sb4 gp4 gr4 gs4;walk_at "n";refine au fun R9 hR9=>?_;walk_at "";walk_at "c";refine bH tk5 (fun t=>T.str t.2.2.2.2) p [] (.inl gs) (by omega) (fun t ht Q' hq=>?_) (fun q1 D=>?_)
   ·have x1:atI [T.int (t.1:Int),T.int t.2.1,T.int t.2.2.1,sT t.2.2.2.1,T.str t.2.2.2.2] 4=some (T.str t.2.2.2.2):=rfl;have hq':=tL.mk hq;clear hq k' hR9;simp only[tk5];walk_at "";exact hq'.out
   rw[show (p.map fun t=>T.str t.2.2.2.2)=(p.map (·.2.2.2.2)).map T.str by rw[U_];rfl];refine⟨q1,p.map (·.2.2.2.2),rfl,aq,by rw[d_];omega,fun x hx=>?_,fun ns hnl hnn pn M=>?_⟩
   ·obtain⟨t,ht,rfl⟩:=u_.mp hx;exact (F.out t ht).nm
   rw[d_] at hnl;have sb5:=R.trans ((eH.new D).trans (eH.new (o:=.lst (ns.map T.str)) M));have st5:=(eH.new D).trans (eH.new (o:=.lst (ns.map T.str)) M);have gr5:=st5 _ _ gr;have gs5:=st5 _ _ gs;have gn5:fY (fY H q1 (.lst ((p.map (·.2.2.2.2)).map T.str))) pn (.lst (ns.map T.str)) pn=some (.lst (ns.map T.str)):=aq;try dsimp only
   generalize fY (fY H q1 (.lst ((p.map (·.2.2.2.2)).map T.str))) pn (.lst (ns.map T.str))=H8 at sb5 gr5 gs5 gn5 ⊢;clear st5 R gp gr gs D M;walk_at "n";refine au fun R10 hR10=>?_;walk_at "";rw[ni,show ∀x0 x1 x2 x3 x4 x5 x6 x7 x8 x9 x10 x11 x12 x13 x14,qg 2 [] [x0,x1,x2,x3,x4,x5,x6,x7,x8,x9,x10,x11,x12,x13,x14]=[none,none] from fun _ _ _ _ _ _ _ _ _ _ _ _ _ _ _=>rfl];refine gZ (fun z=>T.str z.1) (fun z=>tk5 z.2) (fun z=>.tup [.str z.1,.int z.2.2.2.1,sT z.2.2.2.2.1]) (ns.zip p) [] (still:=fun H'=>bh pn (ns.map T.str) H'/\bh ps (p.map tk5) H') (H:=H8) ⟨.inl gn5,.inl gs5⟩ (by rw[List.length_zip];omega) (fun z U Q' hq=>?_) ?_
   ·obtain⟨zn,V⟩:=z;have x2:atI [T.int (V.1:Int),T.int V.2.1,T.int V.2.2.1,sT V.2.2.2.1,T.str V.2.2.2.2] 2=some (T.int V.2.2.1):=rfl;have x3:atI [T.int (V.1:Int),T.int V.2.1,T.int V.2.2.1,sT V.2.2.2.1,T.str V.2.2.2.2] 3=some (sT V.2.2.2.1):=rfl;have hq':=tL.mk hq;clear hq k' hR10;simp only[tk5];walk_at "";exact⟨by decide,hq'.out⟩
   try dsimp only
   intro pt hpt;have st6:=eH.new (o:=.lst ((ns.zip p).map fun z=>T.tup [.str z.1,.int z.2.2.2.1,sT z.2.2.2.2.1])) hpt;have gr6:=st6 _ _ gr5;have gs6:=st6 _ _ gs5;have gn6:=st6 _ _ gn5;have gt6:fY H8 pt (.lst ((ns.zip p).map fun z=>T.tup [.str z.1,.int z.2.2.2.1,sT z.2.2.2.2.1])) pt=some (.lst ((ns.zip p).map fun z=>T.tup [.str z.1,.int z.2.2.2.1,sT z.2.2.2.2.1])):=aq;have sb6:eH H3 (fY H8 pt (.lst ((ns.zip p).map fun z=>T.tup [.str z.1,.int z.2.2.2.1,sT z.2.2.2.2.1]))):=sb5.trans st6;try dsimp only
   generalize fY H8 pt (.lst ((ns.zip p).map fun z=>T.tup [.str z.1,.int z.2.2.2.1,sT z.2.2.2.2.1]))=H9 at sb6 gr6 gs6 gn6 gt6 ⊢;clear st6 sb5 gr5 gs5 gn5 hpt;walk_at "n";walk_at "s";refine⟨a,pn,ps,sc,ns,p,rfl,sb6 _ _ ha,J,gn6,hnn,by omega,gs6,by omega,fun O P lk=>?_⟩;try walk_at ""
   walk_at "n";walk_at "";refine⟨trivial,by decide,?_⟩;walk_at "c";refine bH tk5 (fun t=>T.int (t.1:Int)) p [] (.inl gs6) (by omega) (fun t ht Q' hq=>?_) (fun pz hpz=>?_)
   ·have x0:atI [T.int (t.1:Int),T.int t.2.1,T.int t.2.2.1,sT t.2.2.2.1,T.str t.2.2.2.2] 0=some (T.int (t.1:Int)):=rfl;have hq':=tL.mk hq;clear hq k';simp only[tk5];walk_at "";exact hq'.out
   obtain⟨ok,ft,el⟩:=TQ hnn (by omega) (by omega) (by omega) F.out r1 r8 G.out lk;refine⟨by decide,?_⟩;have ee:(p.map fun t=>T.int (t.1:Int))=(p.map (·.1)).map fun (s:Nat)=>T.int (s:Int):=by rw[U_];rfl
   have ew:T.tup [T.tup ((ns.zip p).map fun z=>T.tup [T.str z.1,T.int z.2.2.2.1,sT z.2.2.2.2.1]),T.tup (O.map orT),T.tup (P.map prT),T.tup (k.map T.str)]=(mkW ns p O P k).enc:=by unfold Wk.enc mkW;rw[U_];rfl
   rw[ee,ew];refine t6.of ?_ (k'.out (mkW ns p O P k) (p.map (·.1)) ok (by rw[el];omega) rw_ ft pz (cL sb6 hpz));intro b o hb;by_cases e:b=pz
   ·subst e;rw[aq] at hb ⊢;exact hb
   rw[aF e] at hb ⊢;exact sb6 b o hb
  rintro A i B Z H N e ⟨p,v8,rfl,R,gp,gr,gs,hsl,hss⟩ hN;walk_at "t";have hA:A.length<n:=by have:=Zk List.length e;simp only[g_,p_,z_] at this;omega
  have hi:i<n:=X_.mp (by rw[e];simp);have hM:=tL.mk hN;have F:=tL.mk hss;clear hN hss e sb4 gp4 gr4 gs4 k' hR8;walk_at "";refine⟨⟨trivial,trivial⟩,a,sc,4+i,by rw[show (4:Int)+(i:Int)=((4+i:Nat):Int) by push_cast;rfl],R _ _ ha,J,by omega,fun c5=>⟨c5,S,I,k,d,q,rfl,gr,r1,r8,G.out,gp,hpl,hpn'.out.nm,u1,u2,fun s tn len ks nam h1 h2 h3 h4 h5 h6 h7 h8 h9=>?_⟩⟩;dsimp only;rw[gs,Dj];refine⟨by rw[d_];omega,hM.out _ _ ⟨p++[(s,tn,len,ks,nam)],_,rfl,fun b u hb=>?_,?_,?_,?_,by rw[g_,g_,hsl];rfl,fun z U=>?_⟩⟩
  ·rw[aF (bz hb g0)];exact R b u hb
  ·rw[aF nps1];exact gp
  ·rw[aF nps2];exact gr
  ·rw[aq,y_];rfl
  rcases F_.mp U with U | U
  ·exact F.out z U
  rw[t_.mp U];exact⟨h1,h4,h5,h6,h7,h8,h9⟩
 rintro x r Z H N ⟨k,c3,v8,rfl,R,gp,gr,hrl,X⟩ hN;walk_at "t";rw[p_] at hrl;have hM:=tL.mk hN;have G:=tL.mk X;have hj0:=S_ c3 (show sp≠0 by omega);have hj1:=M_ c3 (show 0<sp by omega);obtain⟨j,hj⟩:∃j:Nat,c3%sp=(j:Int):=⟨(c3%sp).toNat,by omega⟩;have hat:=lL (ns:=d) (i:=j) (by omega);have hnx:=hpn'.out.nm _ (getD_memS (ns:=d) (i:=j) (by omega));generalize d.getD j ""=y at hat hnx;clear hN X sb3 gp3 gr3 k' hR5;walk_at "";refine⟨⟨trivial,trivial⟩,by omega,by omega,⟨by omega,lgs⟩,hM.out _ _ ⟨k++[y],_,_,rfl,fun b u hb=>?_,?_,?_,by rw[g_,K_];push_cast;push_cast at hrl;omega,fun z U=>?_⟩⟩
 ·rw[aF (bz hb f0)];exact R b u hb
 ·rw[aF npr];exact gp
 ·rw[aq,y_];rfl
 rcases F_.mp U with U | U
 ·exact G.out z U
 rw[t_.mp U];exact hnx
abbrev zu:List Str:=["_law_works_here","_law_stands","_law_found","_law_task_here","_law_stand"]
def ac1:gk zu ["_law_works_here","_law_stands"] (aB (top 48)):=bc
def HJ {f:Addr} (g:G3 K mg "_law_loads" (top 48) ["_law_works_here","_law_stands"] f O) (B:Bl mg):Ow P w K mg base 1 "_law_loads" (top 48) ["_law_works_here","_law_stands"] Xo:=by
 refine c6 g ac1 ?_;rintro _ A _ s H _ _ H3 _ _ ⟨W,q,sts,rfl,J,x,Y,r,R⟩;refine⟨_,(aj (aD 2 ac1.nd (aG wB (bx (aa ao ak)) (aO cC rfl B.len_ cD (aa (aJ My (v3 0) ao) ak))))
   (aj (bj I_ rfl (Kq rfl B.zip_ (aa (aJ My (v3 0) ao) (aa (v3 1) ak))) (cA (n:=2) rfl (aH (aC 3 ac1.nd) (aH (aC 4 ac1.nd) bI))) (aA (my (aG aW (aJ My (v3 2) (v3 4)) (aJ My (v3 3) ao)) (Cv (v3 2) (v3 4) o6))))
   (aA (aL (v3 2))))),?_⟩
 walk_at "q";walk_at "h";have F:=tL.mk R;clear R;have r8:=J.r8;have t8:=J.t8;walk_at "s";refine⟨by decide,fun v t=>⟨⟨by omega,by omega,by omega⟩,fun d l=>?_⟩⟩;have M:∀n:Nat,(List.replicate n [T.int 0]).flatten=(List.replicate n (0:Int)).map T.int:=fun n=>by
  induction n with
  |zero=>rfl
  |succ n ih=>rw[Z9,Z9,aag,ih];rfl
 rw[M];have D:=(cJ l).2;have c:eH H3 (fY (fY H3 v (.lst [T.int 0])) d (.lst ((List.replicate W.row.length (0:Int)).map T.int))):=(eH.new t).trans (eH.new l);have j:fY (fY H3 v (.lst [T.int 0])) d (.lst ((List.replicate W.row.length (0:Int)).map T.int)) d=some (.lst ((List.replicate W.row.length (0:Int)).map T.int)):=aq;have p:=c _ _ x;generalize fY (fY H3 v (.lst [T.int 0])) d (.lst ((List.replicate W.row.length (0:Int)).map T.int))=H4 at c j p ⊢;clear M l t;walk_at "n";refine au fun R1 C=>?_;walk_at "";rw[ni];have m:=tL.mk r;clear r;refine aZ (fun z=>T.tup [tkT z.1,T.int (z.2:Int)]) (W.tasks.zip sts) (fun A Z H=>∃(v3 y:Option T),Z=[some W.enc,some (.ref q),some (.ref d),v3,y]/\eH H3 H/\H d=some (.lst ((A.foldl ldZ (List.replicate W.row.length 0)).map T.int))) ⟨_,_,rfl,c,j⟩ ?_ ?_
 ·rintro Z H ⟨v3,y,rfl,u,U⟩;refine⟨.inl (u _ _ x),?_⟩;walk_at "n";walk_at "";refine t6.of (fun b o k=>?_) (F.out d D);by_cases e:b=d
  ·subst e;rw[aq] at k;rw[<- k];exact U
  rw[aF e] at k;exact u b o k
 rintro A z B Z H N e ⟨v3,y,rfl,u,U⟩ I;refine⟨.inl (u _ _ x),?_⟩;have S:z∈W.tasks.zip sts:=by rw[e];simp
 have X:z.2<W.row.length:=m.out _ (abE S).2;have a:(A++[z]).foldl ldZ (List.replicate W.row.length 0)=ldZ (A.foldl ldZ (List.replicate W.row.length 0)) z:=by rw[aaT];rfl
 have hll:(A.foldl ldZ (List.replicate W.row.length 0)).length=W.row.length:=by rw[za,Z0]
 have V:=tL.mk I;clear I e c j p F C S;rw[a] at V;generalize A.foldl ldZ (List.replicate W.row.length 0)=L at *;clear a;have x1:atI (L.map T.int) (z.2:Int)=some (T.int (L.getD z.2 0)):=by
  have G:z.2<L.length:=by omega
  rw[cG (by rw[x_,e_ G];rfl),i_,e_ G];rfl
 obtain⟨⟨tn,tl,tk⟩,zs⟩:=z;simp only[tkT];walk_at "";rw[yu X,fM];refine⟨trivial,V.out _ _ ⟨_,_,rfl,fun b o k=>?_,?_⟩⟩
 ·rw[aF (bz k D)];exact u b o k
 rw[aq];unfold ldZ;rw[List.map_set]
abbrev xG:List Str:=["_law_cell_here","_law_works_here","_law_stands","_law_loads_here","_law_total","_law_some"]
def acP:gk xG ["_law_cell_here","_law_works_here","_law_stands"] (aB (top 49)):=bc
def Ml {f:Addr} (g:G3 K mg "_law_beat" (top 49) ["_law_cell_here","_law_works_here","_law_stands"] f fd) (B:Bl mg) (d:Ow P w K mg base 1 "_law_loads" (top 48) ["_law_works_here","_law_stands"] Xo):Ow P w K mg base 2 "_law_beat" (top 49) ["_law_cell_here","_law_works_here","_law_stands"] Xp:=by
 refine c6 g acP ?_;rintro _ _ _ s H _ _ H3 _ hr ⟨c,W,q,sts,rfl,l,hq,J,u,kk⟩;refine⟨_,(aj (aD 3 acP.nd (aP d hr rfl (aa (v3 1) (aa (v3 2) ak))))
   (aj (aD 4 acP.nd (aO (Dd rfl) rfl B.sum_ Df (aa (v3 3) ak)))
   (aj (aD 5 acP.nd (bx (aa (aO (lD rfl) rfl B.max_ mK (aa (v3 3) ak)) (aa (aO (lD rfl) rfl B.max_ mK (aa (v3 3) ak)) (aa (aO (JS rfl) rfl B.max_ mK (aa ao (aa (aG vN (aO (lD rfl) rfl B.max_ mK (aa (v3 3) ak)) ao) ak))) (aa (aG aX (v3 4) (aO cC rfl B.len_ cD (aa (v3 3) ak))) (aa (aG aW (aG aX (v3 4) (aO cC rfl B.len_ cD (aa (v3 3) ak))) ao) ak)))))))
   (aj (aD 5 acP.nd (aG aW (v3 5) (bx (aa (aO (lD rfl) rfl B.max_ mK (aa (bO rfl (b6 49 xG ["_law_task_here"] 1 []) (bF (aJ My (v3 1) ao)) (fun cl pins s H C0 fp=>⟨(aC 0 (n5 ["_law_task_here"])),bN,(aJ My (v3 0) ao)⟩)) ak)) (aa (v3 4) ak)))))
   (aj (aD 5 acP.nd (aG aW (v3 5) (bx (aa (aG aV (aG aX (v3 0) ao) (aO (JT rfl) rfl B.min_ Ri (aa (aG cW ao (v3 4)) (aa (aG cW ao (aG jg ao ao)) ak)))) (aa (aG aV (aG aX (v3 0) ao) (aG jg ao ao)) ak)))))
   (aA (aL (aJ My (v3 5) (aG aV (v3 0) ao))))))))),?_⟩
 walk_at "q";walk_at "h";have k':=tL.mk kk;clear kk;have r1:=l.r1;have r8:=l.r8;have t8:=l.t8;have t1:=l.t1;have hln:=LC W sts;have S:=TV (sts:=sts) l;have hsm:=LK J u;have htp:=LQ l;rw[<- hsm] at htp;walk_at "s";refine⟨W,q,sts,rfl,l,hq,J,u,fun pl hpl=>?_⟩;have y:eH H3 (fY H3 pl (.lst ((ldS W sts).map T.int))):=eH.new hpl;have gl:fY H3 pl (.lst ((ldS W sts).map T.int)) pl=some (.lst ((ldS W sts).map T.int)):=aq;have k:=tL.mk S;clear S hsm u hq;try dsimp only
 generalize fY H3 pl (.lst ((ldS W sts).map T.int))=H4 at y gl ⊢;generalize ldS W sts=L at *;walk_at "n";refine au fun R1 hR1=>?_;have is:=iH L;walk_at "";walk_at "n";refine au fun R2 hR2=>?_;have M:(W.row.length:Int).natAbs.log2<9000:=aaL (aa6 _) (by omega);have hne:¬L=[]:=fun z=>by rw[z,ZQ] at hln;omega
 walk_at "";refine⟨trivial,fun m1 X _=>⟨trivial,fun m2 U _=>⟨trivial,fun m3 hm3 _=>⟨⟨by omega,M⟩,⟨by omega,M⟩,by decide,fun p1 hp1=>?_⟩⟩⟩⟩;obtain⟨xs,hxs,hx0,v⟩:∃xs:List Int,[T.int m1,T.int m2,T.int (if m3 - 1>0 then m3 - 1 else 0),T.int (L.sum / (W.row.length:Int)),T.int (L.sum / (W.row.length:Int)+1)]=xs.map T.int/\(∀x∈xs,0<=x)/\xs.length=5:=by
  have d0:0<=L.sum / (W.row.length:Int):=Int.ediv_nonneg (by omega) (by omega);refine⟨[m1,m2,if m3 - 1>0 then m3 - 1 else 0,L.sum / (W.row.length:Int),L.sum / (W.row.length:Int)+1],rfl,fun x a=>?_,rfl⟩;simp only[n_,L_,aaa] at a;rcases a with rfl | rfl | rfl | rfl | rfl
  ·exact k.out _ X
  ·exact k.out _ U
  ·split <;> omega
  ·exact d0
  omega
 rw[hxs];have p:=y.trans (eH.new (o:=.lst (xs.map T.int)) hp1);have r:fY H4 p1 (.lst (xs.map T.int)) p1=some (.lst (xs.map T.int)):=aq;generalize fY H4 p1 (.lst (xs.map T.int))=H5 at p r ⊢;clear hxs hp1 y gl X U hm3;walk_at "n";refine au fun R3 hR3=>?_;walk_at "";walk_at "c";have htk:=tL.mk l.tk;refine bH tkT (fun t=>T.int t.2.1) W.tasks [] trivial (by omega) (fun t ht Q' hq=>?_) (fun p2 Z=>?_)
 ·have x1:atI [T.str t.1,T.int t.2.1,sT t.2.2] 1=some (T.int t.2.1):=rfl;have hq':=tL.mk hq;clear hq k' hR3;simp only[tkT];walk_at "";exact hq'.out
 rw[show (W.tasks.map fun t=>T.int t.2.1)=(W.tasks.map (·.2.1)).map T.int by rw[U_];rfl,iH,fM];refine⟨fun z=>by have:=Zk List.length z;rw[d_,ZQ] at this;omega,fun m hm _=>⟨by decide,fun p3 R=>?_⟩⟩;have hm0:0<=m:=by obtain⟨t,ht,rfl⟩:=u_.mp hm;have:=(htk.out t ht).lo;omega
 have D:=(eH.new (o:=.lst ((W.tasks.map (·.2.1)).map T.int)) Z).trans (eH.new (o:=.lst [T.int m,T.int L.sum]) R);have F:=p.trans D;rw[D _ _ r,jO];generalize fY (fY H5 p2 (.lst ((W.tasks.map (·.2.1)).map T.int))) p3 (.lst [T.int m,T.int L.sum])=H6 at F ⊢;refine⟨by rw[d_,v,p_,K_];omega,fun p4 hp4=>?_⟩;obtain⟨ys,hys,hy0,O⟩:∃ys:List Int,xs.map T.int++[T.int m,T.int L.sum]=ys.map T.int/\(∀x∈ys,0<=x)/\ys.length=7:=by
  refine⟨xs++[m,L.sum],by rw[y_];rfl,fun x a=>?_,by rw[g_,v];rfl⟩;rcases F_.mp a with a | a
  ·exact hx0 x a
  simp only[n_,L_,aaa] at a;rcases a with rfl | rfl
  ·exact hm0
  omega
 rw[hys];have C:=F.trans (eH.new (o:=.lst (ys.map T.int)) hp4);have gy:fY H6 p4 (.lst (ys.map T.int)) p4=some (.lst (ys.map T.int)):=aq;try dsimp only
 generalize fY H6 p4 (.lst (ys.map T.int))=H7 at C gy ⊢;clear hys hx0 v p r F D Z R hp4 hm;walk_at "n";walk_at "s";have hmn:0<(if 9*(10:Int)^Int.toNat 60<2*L.sum then 9*(10:Int)^Int.toNat 60 else 2*L.sum):=by
  split
  ·decide +kernel
  omega
 refine⟨⟨by decide,by decide +kernel⟩,.inl ⟨by decide,by decide⟩,⟨by decide,by decide,by decide⟩,.inl ⟨by decide,by decide⟩,hmn,⟨by decide,by decide +kernel⟩,⟨by decide,by decide,by decide⟩,by decide +kernel,by decide,fun p5 e=>?_⟩;generalize (if 9*(10:Int)^Int.toNat 60<2*L.sum then 9*(10:Int)^Int.toNat 60 else 2*L.sum)=mn at hmn e ⊢;have e0:=S_ (c / 9) (show mn≠0 by omega);have e1:=S_ (c / 9) (show ((10:Int)^Int.toNat 60)≠0 by decide +kernel);generalize c / 9%mn=a1 at e0 ⊢;generalize c / 9%(10:Int)^Int.toNat 60=a2 at e1 ⊢;rw[aF (bz gy e),gy,jO];refine⟨by rw[d_,O,p_,K_];omega,fun p6 G=>?_⟩;obtain⟨b,V,Y,hzl⟩:∃b:List Int,ys.map T.int++[T.int a1,T.int a2]=b.map T.int/\(∀x∈b,0<=x)/\b.length=9:=by
  refine⟨ys++[a1,a2],by rw[y_];rfl,fun x a=>?_,by rw[g_,O];rfl⟩;rcases F_.mp a with a | a
  ·exact hy0 x a
  simp only[n_,L_,aaa] at a;rcases a with rfl | rfl
  ·exact e0
  exact e1
 rw[V];have sb6:=C.trans ((eH.new e).trans (eH.new (o:=.lst (b.map T.int)) G));have gz:∀Hx:gb,fY Hx p6 (.lst (b.map T.int)) p6=some (.lst (b.map T.int)):=fun _=>aq;have i0:=S_ c (show (9:Int)≠0 by decide);have i1:=M_ c (show (0:Int)<9 by decide);obtain⟨j,hj⟩:∃j:Nat,c%9=(j:Int):=⟨(c%9).toNat,by omega⟩;have I:j<b.length:=by omega
 have hat:atI (b.map T.int) (j:Int)=some (T.int b[j]):=cG (by rw[x_,e_ I];rfl);have hn0:=Y _ (Z_ I);generalize b[j]=n at hat hn0;try dsimp only
 have k2:=tL.mk (t6.of sb6 (k'.out n hn0));clear V Y hzl C gy k' G e;walk_at "n";walk_at "";refine⟨by decide,?_⟩;first
  |exact k2.out
  | (rw[fM];exact k2.out)
abbrev zx:List Str:=["_law_script","_law_most","_law_wide","_law_works_here","_law_stands"]
def adi:gk zx ["_law_script","_law_most","_law_wide"] (aB (top 50)):=bc
def HN {f:Addr} (g:G3 K mg "_law_drawn" (top 50) ["_law_script","_law_most","_law_wide"] f z) (B:Bl mg) (j:Ow P w K mg base 3 "_law_works" (top 47) ["_law_script","_law_most","_law_wide"] Xn) (k:Ow P w K mg base 2 "_law_beat" (top 49) ["_law_cell_here","_law_works_here","_law_stands"] Xp) (b:Ow P w K mg base 1 "_law_cell" (top 41) ["_law_script","_law_k"] Ls):Ow P w K mg base 4 "_law_drawn" (top 50) ["_law_script","_law_most","_law_wide"] Xq:=by
 refine c6 g adi ?_;rintro _ _ _ s _ _ _ H3 _ o ⟨a,q,e,d,rfl,G,m,U,X,L,V,D⟩;refine⟨_,(aj (my (aP j o rfl (aa (v3 0) (aa (v3 1) (aa (v3 2) ak)))) (cA (n:=2) rfl (aH (aC 3 adi.nd) (aH (aC 4 adi.nd) bI))))
   (aA (aL (bB (aa (v3 3) (aa (v3 4) (aa (aP k o rfl (aa (aP b o rfl (aa (v3 0) (aa ao ak))) (aa (v3 3) (aa (v3 4) ak)))) (aa (aP b o rfl (aa (v3 0) (aa ao ak))) ak)))))))),?_⟩
 walk_at "q";walk_at "h";have v:=tL.mk D;clear D;walk_at "s";refine⟨a,q,e,d,rfl,G,m,U,X,L,V,fun W sts y M O t p I=>?_⟩;have F:eH H3 (fY H3 p (.lst (sts.map fun (s:Nat)=>T.int (s:Int)))):=eH.new I;have x:fY H3 p (.lst (sts.map fun (s:Nat)=>T.int (s:Int))) p=some (.lst (sts.map fun (s:Nat)=>T.int (s:Int))):=aq;have C:=tL.mk (fun bt c (u:0<=bt)=>v.out W sts bt c y M O t u p I);have r:=F _ _ G;try walk_at ""
 generalize fY H3 p (.lst (sts.map fun (s:Nat)=>T.int (s:Int)))=Y at F x r C ⊢;clear v;walk_at "n";walk_at "";refine⟨trivial,a,q,14,rfl,r,m,by decide,fun R=>⟨R,W,p,sts,rfl,y,x,t.l,t.lt,fun bt u=>⟨a,q,15,rfl,r,m,by decide,fun J=>?_⟩⟩⟩;try dsimp only
 exact⟨by decide,t6.of eH.refl (C.out bt J u)⟩
abbrev lR:List Str:=["_law_works_here","_law_beat_here","_law_dealing","_law_place","_law_k","_law_stand","_law_name","_law_one","_law_other","_law_word_here","_law_loads_here","_law_length","_law_kinds"]
def R7:gk lR ["_law_works_here","_law_beat_here","_law_dealing"] (aB (top 52)):=bc
def HQ {f:Addr} (g:G3 K mg "_law_right" (top 52) ["_law_works_here","_law_beat_here","_law_dealing"] f fd) (B:Bl mg):Ow P w K mg base 1 "_law_right" (top 52) ["_law_works_here","_law_beat_here","_law_dealing"] Xg:=by
 refine c6 g R7 ?_;rintro _ A _ s H _ _ H3 _ hr ⟨W,eG,D,rfl,hW,hD,hR,kk⟩;have F:=tR.u30 hr;have hu31:=tR.u31 hr;have j:=tR.u1 hr;refine⟨_,(aj (aD 3 R7.nd JK)
   (aj (bj I_ rfl (DR rfl B.enumerate_ (v3 2)) (cA (n:=2) rfl (aH (aC 4 R7.nd) (aH (aC 5 R7.nd) bI))) (aA (bj I_ rfl (bF (v3 5)) (aC 6 R7.nd) (aj (bA (mH j (v3 6) (v3 3)) (aA (aL cP)) aR)
     (aA (yj j (v3 3) (v3 6) (v3 4)))))))
   (aj (bA (aU (gM F) (aO (Kg hr) rfl B.sorted_ jR (aa (v3 3) ak)) (aO Kd rfl B.sorted_ jR (aa (bO rfl (b6 52 lR ["_law_task_here"] 1 []) (bF (aJ My (v3 0) ao)) (fun cl pins s H C0 fp=>⟨(aC 0 (n5 ["_law_task_here"])),bN,(aJ My (v3 0) ao)⟩)) ak))) (aA (aL cP)) aR)
   (aj (bj I_ rfl (bF (aJ My (v3 0) ao)) (cA (n:=2) rfl (aH (aC 7 R7.nd) (aH (aC 8 R7.nd) bI))) (aA (bA (aU sJ (dh j (v3 3) (v3 7)) (dh j (v3 3) (v3 8))) (aA (aL cP)) aR)))
   (aj (bj I_ rfl (bF (aJ My (v3 0) ao)) (cA (n:=3) rfl (aH (aC 9 R7.nd) (aH (aC 7 R7.nd) (aH (aC 8 R7.nd) bI)))) (aA (bA (aU (gM F) (dO (dC F) (dh j (v3 3) (v3 7)) (dh j (v3 3) (v3 8))) (dO (dC F) (v3 9) gU)) (aA (aL cP)) aR)))
   (aj (aD 10 R7.nd (aG wB (bx (aa ao ak)) (aO cC rfl B.len_ cD (aa (v3 2) ak))))
   (aj (bj I_ rfl (bF (aJ My (v3 0) ao)) (cA (n:=3) rfl (aH (aC 6 R7.nd) (aH (aC 11 R7.nd) (aH (aC 12 R7.nd) bI)))) (aj (bA (PW3.pt (gW (aU (gM F) (v3 12) (bB ak)) (fj (aU (sX hu31) (aJ My (aJ My (v3 0) ao) (dh j (v3 3) (v3 6))) (v3 12) rfl)))) (aA (aL cP)) aR)
    (aA (my (aG aW (aJ My (v3 10) (dh j (v3 3) (v3 6))) (v3 11)) (Cv (v3 10) (dh j (v3 3) (v3 6)) o6)))))
   (aA (aL (dO (dC F) (bO rfl (b6 52 lR ["_law_load","_law_beat_here"] 1 [1]) (c7 (v3 10)) (fun cl pins s H C0 fp=>⟨(aC 0 (n5 ["_law_load","_law_beat_here"])),(fB (aU sJ (v3 0) (v3 1))),(v3 0)⟩)) (bx ak))))))))))),?_⟩
 walk_at "q";walk_at "h";have k':=tL.mk kk;clear kk;have t8:=hW.t8;have r8:=hW.r8;have hfl:=hD.fl hW;have hkd:=Xf hD.nd;have hdl:=hD.rw;have O:=tL.mk hD.nd;have U:=tL.mk hW;have u:=tL.mk hD;have X:=tL.mk hR;clear hW hD hR;walk_at "s";intro p hp;walk_at "n";refine au fun R1 hR1=>?_;walk_at "";refine Bd sT D (fun A Z H=>∃(q r m:Option T),Z=[some W.enc,some (.int eG),some (.tup (D.map sT)),some (.ref p),q,r,m,none,none,none,none,none,none]/\H=fY H3 p (.dct (dN (kD A) (fD A)))) ⟨_,_,_,rfl,rfl⟩ ?_ ?_;rotate_left
 ·rintro A s B Z H N e ⟨q,r,m,rfl,rfl⟩ I;have hs:A.flatten.length+s.length<=8:=by have:=Zk (fun x=>x.flatten.length) e;simp only[uF,g_] at this;omega
  have hns:=O.out;rw[e,uF] at hns;have ek:=K7 A s;have ef:=yQ A s;have kl:=Te A;have Y:=tL.mk I;have ek':=tL.mk ek;have ef':=tL.mk ef;have hns':=tL.mk hns;clear I e k' hR1 ek ef hns;walk_at "t";simp only[sT];walk_at "";try walk_at "t"
  refine aZ T.str s (fun C Z H=>∃(m:Option T),Z=[some W.enc,some (.int eG),some (.tup (D.map sT)),some (.ref p),some (.int (A.length:Int)),some (.tup (s.map T.str)),m,none,none,none,none,none,none]/\H=fY H3 p (.dct (dN (kst (kD A) C) (jU A.length (fD A) C)))) ⟨_,rfl,rfl⟩ ?_ ?_
  ·rintro Z H ⟨m,rfl,rfl⟩;exact⟨trivial,Y.out _ _ ⟨_,_,_,rfl,by rw[ek'.out,ef'.out]⟩⟩
  rintro C n E' Z H N2 e2 ⟨m,rfl,rfl⟩ hN2;have hc:C.length<s.length:=by have:=Zk List.length e2;simp only[g_,p_] at this;omega
  have no:n∉kst (kD A) C:=by
   rw[qY,Td];have hz:=hns'.out;rw[e2] at hz;rintro (z | z)
   ·rw[aah,aaU] at hz;exact hz.2.2 n z n (by simp) rfl
   rw[aah,aaU] at hz;have hy:=hz.2.1;try rw[aah] at hy
   rw[aaU] at hy;exact hy.2.2 n z n (by simp) rfl
  have lk:=Oe (f:=jU A.length (fD A) C) no;have p1:=K8 (kst (kD A) C) (jU A.length (fD A) C) n A.length;rw[<- GK,<- GP] at p1;have l1:=GF (kst (kD A) C) (jU A.length (fD A) C);have l2:=kst_len C (kD A);have hN2':=tL.mk hN2;clear hN2 Y e2 ek' ef' no;walk_at "t";walk_at "";rw[if_neg (by rw[Option.isSome_none];exact B_)];exact⟨by omega,hN2'.out _ _ ⟨_,rfl,rfl⟩⟩
 rintro Z H ⟨q,r,m,rfl,rfl⟩;walk_at "t";rw[hkd];have gp:fY H3 p (.dct (dN D.flatten (fD D))) p=some (.dct (dN D.flatten (fD D))):=aq;have sb:eH H3 (fY H3 p (.dct (dN D.flatten (fD D)))):=eH.new hp;generalize fY H3 p (.dct (dN D.flatten (fD D)))=H4 at gp sb ⊢;clear hkd hp;walk_at "n";refine au fun R2 hR2=>?_;have dl:=GF D.flatten (fD D);have dk:=Lp D.flatten (fD D);walk_at "";refine⟨by omega,fun us j hu2 p1 hp1=>?_⟩;have g1:fY H4 p1 (.lst (us.map T.str)) p1=some (.lst (us.map T.str)):=aq;have sb1:eH H3 (fY H4 p1 (.lst (us.map T.str))):=sb.trans (eH.new hp1);have gp1:fY H4 p1 (.lst (us.map T.str)) p=_ := upa gp hp1;generalize fY H4 p1 (.lst (us.map T.str))=H5 at g1 sb1 gp1 ⊢;clear gp sb hp1 dk;walk_at "c";refine bH tkT (fun t=>T.str t.1) W.tasks [] trivial (by omega) ?c1 ?c2
 case c1 =>
  intro t ht Q' hq
  clear k' j hu2 O
  simp only[tkT]
  walk_at ""
  try exact hq
 intro pc V;have e1:W.tasks.map (fun t=>T.str t.1)=(nm W).map T.str:=by unfold nm;rw[U_];rfl
 rw[e1];refine⟨nm W,pc,rfl,aq,by rw[fP];omega,fun vs hv1 hv2 p2 S=>?_⟩;have e2:us=vs:=Ln j hu2 (hv1.trans (u.out.pm U.out).symm) hv2;subst e2;have n12:p1≠p2:=fun z=>by rw[z] at g1;rw[aF (bz g1 V)] at S;rw[g1] at S;cases S
 have g1':fY (fY H5 pc (.lst ((nm W).map T.str))) p2 (.lst (us.map T.str)) p1=some (.lst (us.map T.str)):=by rw[aF n12,aF (bz g1 V)];exact g1
 have sb2:eH H3 (fY (fY H5 pc (.lst ((nm W).map T.str))) p2 (.lst (us.map T.str))):=sb1.trans ((eH.new V).trans (eH.new S));have gp2:fY (fY H5 pc (.lst ((nm W).map T.str))) p2 (.lst (us.map T.str)) p=some (.dct (dN D.flatten (fD D))):=(eH.new (o:=.lst (us.map T.str)) S) _ _ ((eH.new (o:=.lst ((nm W).map T.str)) V) _ _ gp1);try dsimp only
 rw[M9,g1',aq,tD];refine⟨n12,dU us,dU us,?_⟩;generalize fY (fY H5 pc (.lst ((nm W).map T.str))) p2 (.lst (us.map T.str))=H6 at sb2 gp2 ⊢;clear g1 sb1 gp1 g1' V S j hu2 hv1 hv2 n12 e1;rw[lC,gQ,if_neg (by decide)];walk_at "n";refine au fun R3 hR3=>?_;walk_at "";refine aZ orT W.orders (fun A Z H=>∃(q r m L J G k a d:Option T),Z=[some W.enc,some (.int eG),some (.tup (D.map sT)),some (.ref p),q,r,m,L,J,G,k,a,d]/\H=H6) ⟨_,_,_,_,_,_,_,_,_,rfl,rfl⟩ ?_ ?_;rotate_left
 ·rintro A ⟨x,y⟩ B Z H N e ⟨q,r,m,L,J,G,k,a,d,rfl,rfl⟩ I;walk_at "t";have M:(x,y)∈W.orders:=by rw[e];simp
  have l1:=iR (f:=fD D) (u.out.al _ (U.out.oo _ M).2.1);have l2:=iR (f:=fD D) (u.out.al _ (U.out.oo _ M).2.2);have ho:fD D x<=fD D y:=X.out.ord _ M;have fN:tL (∀q r m G k a d,N [some W.enc,some (.int eG),some (.tup (D.map sT)),some (.ref p),q,r,m,some (.str x),some (.str y),G,k,a,d] H):=⟨fun q r m G k a d=>I _ _ ⟨_,_,_,_,_,_,_,_,_,rfl,rfl⟩⟩;clear I e k' hR3 M O hfl;simp only[orT];walk_at "";walk_at "t";rw[if_neg (qF (by omega))];exact fN.out _ _ _ _ _ _ _
 rintro Z H ⟨q,r,m,L,J,G,k,a,d,rfl,rfl⟩;walk_at "t";walk_at "n";refine au fun R4 hR4=>?_;walk_at "";refine aZ prT W.pairs (fun A Z H'=>∃(q r m L J G k a d:Option T),Z=[some W.enc,some (.int eG),some (.tup (D.map sT)),some (.ref p),q,r,m,L,J,G,k,a,d]/\H'=H) ⟨_,_,_,_,_,_,_,_,_,rfl,rfl⟩ ?_ ?_;rotate_left
 ·rintro A ⟨wd,x,y⟩ B Z H' N e ⟨q,r,m,L,J,G,k,a,d,rfl,rfl⟩ I;walk_at "t";have M:(wd,x,y)∈W.pairs:=by rw[e];simp
  have l1:=iR (f:=fD D) (u.out.al _ (U.out.pp _ M).2.2.1);have l2:=iR (f:=fD D) (u.out.al _ (U.out.pp _ M).2.2.2);have ho:fD D x=fD D y↔wd="with":=X.out.pai _ M;have fN:tL (∀q r m k a d,N [some W.enc,some (.int eG),some (.tup (D.map sT)),some (.ref p),q,r,m,some (.str x),some (.str y),some (.str wd),k,a,d] H'):=⟨fun q r m k a d=>I _ _ ⟨_,_,_,_,_,_,_,_,_,rfl,rfl⟩⟩;clear I e k' hR4 M O hfl;have ec:decide (((fD D x:Nat):Int)=((fD D y:Nat):Int))=decide (wd="with"):=by rw[aaK,<- ho];omega
  have ho':=tL.mk ho;clear ho;simp only[prT];walk_at "";walk_at "t";exact fN.out _ _ _ _ _ _
 rintro Z H' ⟨q,r,m,L,J,G,k,a,d,rfl,rfl⟩;walk_at "t";walk_at "n";walk_at "s";refine⟨by decide,fun q1 hq1=>⟨⟨by omega,by omega,by omega⟩,fun pl R=>?_⟩⟩;try simp only[d_,ZV] at R ⊢
 rw[Lq (fD D)];have sb4:eH H3 (fY H' q1 (.lst [T.int 0])):=sb2.trans (eH.new hq1);have gp4:fY H' q1 (.lst [T.int 0]) p=some (.dct (dN D.flatten (fD D))):=(eH.new (o:=.lst [T.int 0]) hq1) _ _ gp2;generalize fY H' q1 (.lst [T.int 0])=H7 at sb4 gp4 R ⊢;have pl3:=cL sb4 R;have npl:p≠pl:=bz gp4 R;have sb5:eH H3 (fY H7 pl (.lst (((List.range D.length).map (ldF ([]:List (Str × Int × List Str)) (fD D))).map T.int))):=sb4.trans (eH.new R);have gp5:fY H7 pl (.lst (((List.range D.length).map (ldF ([]:List (Str × Int × List Str)) (fD D))).map T.int)) p=some (.dct (dN D.flatten (fD D))):=by rw[aF npl];exact gp4
 have gl5:fY H7 pl (.lst (((List.range D.length).map (ldF ([]:List (Str × Int × List Str)) (fD D))).map T.int)) pl=some (.lst (((List.range D.length).map (ldF ([]:List (Str × Int × List Str)) (fD D))).map T.int)):=aq;generalize fY H7 pl (.lst (((List.range D.length).map (ldF ([]:List (Str × Int × List Str)) (fD D))).map T.int))=H8 at sb5 gp5 gl5 ⊢;clear sb4 gp4 sb2 gp2 R hq1;walk_at "n";refine au fun R6 hR6=>?_;walk_at "";refine aZ tkT W.tasks (fun A Z H=>∃(q r m L J G a d:Option T),Z=[some W.enc,some (.int eG),some (.tup (D.map sT)),some (.ref p),q,r,m,L,J,G,some (.ref pl),a,d]/\H=fY H8 pl (.lst (((List.range D.length).map (ldF A (fD D))).map T.int))) ⟨_,_,_,_,_,_,_,_,rfl,(Tc gl5).symm⟩ ?_ ?_;rotate_left
 ·rintro A ⟨x,ln,ks⟩ B Z H N e ⟨q,r,m,L,J,G,a,d,rfl,rfl⟩ I;walk_at "t";have M:(x,ln,ks)∈W.tasks:=by rw[e];simp
  have hxn:x∈nm W:=u_.mpr ⟨_,M,rfl⟩;have l1:=iR (f:=fD D) (u.out.al _ hxn);have hgx:=u.out.lt hxn;have x0:=GZ (show fD D x<W.row.length by omega);have hmay:kZ ks (W.row.getD (fD D x) "")=true:=X.out.kd u.out M;have x1:atI (((List.range D.length).map (ldF A (fD D))).map T.int) ((fD D x:Nat):Int)=some (.int (ldF A (fD D) (fD D x))):=cG (by rw[x_,x_,Zy hgx];rfl);have x2:ixN (((List.range D.length).map (ldF A (fD D))).map T.int).length ((fD D x:Nat):Int)=some (fD D x):=yu (by rw[d_,d_,z_];exact hgx);have x3:(((List.range D.length).map (ldF A (fD D))).map T.int).set (fD D x) (T.int (ldF A (fD D) (fD D x)+ln))=((List.range D.length).map (ldF (A++[(x,ln,ks)]) (fD D))).map T.int:=by rw[<- List.map_set];congr 1;exact Lh (t:=(x,ln,ks)) hgx
  have fin:tL (∀q r L J G,N [some W.enc,some (.int eG),some (.tup (D.map sT)),some (.ref p),q,r,some (.str x),L,J,G,some (.ref pl),some (.int ln),some (sT ks)] (fY H8 pl (.lst ((((List.range D.length).map (ldF A (fD D))).map T.int).set (fD D x) (T.int (ldF A (fD D) (fD D x)+ln)))))):=⟨fun q r L J G=>I _ _ ⟨_,_,_,_,_,_,_,_,rfl,by rw[x3]⟩⟩;have gp8:fY H8 pl (.lst (((List.range D.length).map (ldF A (fD D))).map T.int)) p=some (.dct (dN D.flatten (fD D))):=by rw[aF npl];exact gp5
  clear I e k' x3 M gl5 hR6 O hfl;generalize ((List.range D.length).map (ldF A (fD D))).map T.int=LL at *;have i2:=dU ks;have em:=W8 (x:=W.row.getD (fD D x) "") (xs:=ks);simp only[tkT,sT] at *;unfold kZ at hmay;generalize W.row.getD (fD D x) ""=kd at *;walk_at "";refine⟨trivial,by decide,trivial,rfl,?_⟩;by_cases c:ks=[]
  ·rw[if_neg (by simp [c])];exact fin.out _ _ _ _ _
  have c2:kd∈ks:=by simpa [c] using hmay
  rw[if_pos (by simp [c])];refine⟨rfl,trivial,?_⟩;rw[if_neg (by simp [c2])];exact fin.out _ _ _ _ _
 rintro Z H ⟨q,r,m,L,J,G,a,d,rfl,rfl⟩;walk_at "t";walk_at "n";have e6:((List.range D.length).map (ldF W.tasks (fD D))).map T.int=(lds W (fD D) D.length).map T.int:=rfl;have hle:∀l∈lds W (fD D) D.length,l<=eG:=X.out.lds u.out;rw[e6];have gl6:fY H8 pl (.lst ((lds W (fD D) D.length).map T.int)) pl=some (.lst ((lds W (fD D) D.length).map T.int)):=aq;have sb6:eH H3 (fY H8 pl (.lst ((lds W (fD D) D.length).map T.int))):=fun b o h=>by rw[aF (bz h pl3)];exact sb5 b o h
 generalize fY H8 pl (.lst ((lds W (fD D) D.length).map T.int))=H9 at gl6 sb6 ⊢;clear e6 gl5 gp5 sb5 hfl O u X U;generalize lds W (fD D) D.length=LD at *;walk_at "";walk_at "c";refine fX T.int LD (fun A ys Z H=>∃v:Option T,Z=[v,some (.int eG)]/\ys=[]/\H=H9) ⟨_,rfl,rfl,rfl⟩ ?_ ?_
 ·rintro ys Z H ⟨v,rfl,rfl,rfl⟩;refine⟨.inl gl6,by simp,fun q2 hq2=>⟨by decide,fun q3 hq3=>?_⟩⟩;have n23:q2≠q3:=fun z=>by rw[z,aq] at hq3;cases hq3
  rw[aF n23,aq,tD];exact⟨n23,rfl,rfl,t6.of (sb6.trans ((eH.new hq2).trans (eH.new hq3))) k'.out⟩
 rintro A l B ys Z H N e ⟨v,rfl,rfl,rfl⟩ I;refine⟨.inl gl6,?_⟩;have hl:l<=eG:=hle l (by rw[e];simp);have Y:=tL.mk I;clear I e k' hle;walk_at "";rw[if_neg (qF (by omega))];exact Y.out _ _ _ ⟨_,rfl,rfl,rfl⟩
abbrev dD:List Str:=["_law_works_here","_law_beat_here","_law_many","_law_found","_law_names","_law_stand"]
def acB:gk dD ["_law_works_here","_law_beat_here","_law_many","_law_found"] (aB (top 53)):=bc
def oh {f:Addr} (g:G3 K mg "_law_is_dealing" (top 53) ["_law_works_here","_law_beat_here","_law_many","_law_found"] f fd) (B:Bl mg) (j:Ow P w K mg base 1 "_law_right" (top 52) ["_law_works_here","_law_beat_here","_law_dealing"] Xg):Ow P w K mg base 2 "_law_is_dealing" (top 53) ["_law_works_here","_law_beat_here","_law_many","_law_found"] Xh:=by
 refine c6 g acB ?_;rintro _ A _ s H _ _ H3 _ hr ⟨W,eG,m,D,rfl,hW,hm,hs,hD,hR,kk⟩;have d:=tR.u30 hr;have X:=tR.u31 hr;refine⟨_,(aj (bA (PW3.pt (j8 (gD (dm (aO vO rfl B.isinstance_ fL (aa (v3 3) (aa (CW rfl B.tuple_ bC) ak))))) (j8 (aU (gM d) (aO cC rfl B.len_ cD (aa (v3 3) ak)) (v3 2)) (je (aU sJ (v3 2) (aO cC rfl B.len_ cD (aa (aJ My (v3 0) ao) ak))))))) (aA (aL cP)) aR)
   (aj (fC (i:=4) rfl acB.nd (b6 53 dD ["_law_task_here"] 1 []) (bF (aJ My (v3 0) ao)) (fun cl q s H C0 fp=>⟨(aC 0 (n5 ["_law_task_here"])),bN,(aJ My (v3 0) ao)⟩))
   (aj (bj I_ rfl (bF (v3 3)) (aC 5 acB.nd) (aj (bA (PW3.pt (j8 (gD (dm (aO vO rfl B.isinstance_ fL (aa (v3 5) (aa (CW rfl B.tuple_ bC) ak))))) (je (aU (gM d) (bO rfl (b6 53 dD ["_law_name"] 1 []) (bF (v3 5)) (fun cl q s H C0 fp=>⟨(aC 0 (n5 ["_law_name"])),(fB (gD (dm (aO vO rfl B.isinstance_ fL (aa (v3 0) (aa (CW rfl B.str_ Qu) ak)))))),(v3 0)⟩)) (bx ak))))) (aA (aL cP)) aR)
    (aA (bA (aU (gM d) (bO rfl (b6 53 dD ["_law_name","_law_stand"] 1 [5]) (c7 (v3 4)) (fun cl q s H C0 fp=>⟨(aC 0 (n5 ["_law_name","_law_stand"])),(fB (aU (mF X) (v3 0) (v3 1) rfl)),(v3 0)⟩)) (bf yo rfl B.list_ qm (aa (v3 5) ak))) (aA (aL cP)) aR))))
   (aA (aL (aP j hr rfl (aa (v3 0) (aa (v3 1) (aa (v3 3) ak))))))))),?_⟩
 walk_at "q";walk_at "h";have k':=tL.mk kk;clear kk;subst hm;have t8:=hW.t8;have r8:=hW.r8;have hdl:=hD.rw;have L:=tL.mk hW;have M:=tL.mk hD;have J:=tL.mk hR;have U:=tL.mk hs;clear hW hD hR hs;walk_at "s";rw[if_neg (qF (by omega))];walk_at "n";walk_at "s";walk_at "c";refine bH tkT (fun t=>T.str t.1) W.tasks [] trivial (by omega) ?c1 ?c2
 case c1 =>
  intro t ht Q' hq
  clear k'
  simp only[tkT]
  walk_at ""
  try exact hq
 intro F hpn;have e1:W.tasks.map (fun t=>T.str t.1)=(nm W).map T.str:=by unfold nm;rw[U_];rfl
 rw[e1];have sb0:eH H3 (fY H3 F (.lst ((nm W).map T.str))):=eH.new hpn;have R:fY H3 F (.lst ((nm W).map T.str)) F=some (.lst ((nm W).map T.str)):=aq;generalize fY H3 F (.lst ((nm W).map T.str))=H4 at sb0 R ⊢;clear e1;walk_at "n";refine au fun R2 hR2=>?_;walk_at "";refine aZ sT D (fun A Z H=>∃(v5:Option T),Z=[some W.enc,some (.int eG),some (.int (D.length:Int)),some (.tup (D.map sT)),some (.ref F),v5]/\eH H3 H/\H F=some (.lst ((nm W).map T.str))) ⟨_,rfl,sb0,R⟩ ?_ ?_
 ·rintro Z H ⟨v5,rfl,sb,gn⟩;walk_at "t";walk_at "n";walk_at "";exact⟨W,eG,D,rfl,L.out,M.out,J.out,t6.of sb k'.out⟩
 rintro A s B Z H N e ⟨v5,rfl,sb,gn⟩ hN;walk_at "t";have hsD:s∈D:=by rw[e];simp
 have r:=U.out s hsD;have hsl:s.length<=8:=by rw[<- r];have:=Zr (fun n=>decide (n∈s)) (nm W);rw[fP] at this;omega
 have y:=tL.mk hN;have p:=tL.mk r;clear hN e k' hR2 U M J L r;simp only[sT];refine au fun R3 hR3=>?_;walk_at "";walk_at "c";refine fX T.str s (fun A ys Z H'=>∃v:Option T,Z=[v]/\ys=[]/\H'=H) ⟨_,rfl,rfl,rfl⟩ ?_ ?_;rotate_left
 ·rintro G n B2 ys Z H' N2 e ⟨v,rfl,rfl,rfl⟩ a;walk_at "t";have O:=tL.mk a;clear a e y hR3;walk_at "";exact O.out _ _ _ ⟨_,rfl,rfl,rfl⟩
 rintro ys Z H' ⟨v,rfl,rfl,rfl⟩;refine⟨trivial,by simp,fun q2 u=>⟨by decide,fun q3 b=>?_⟩⟩;have C:q2≠q3:=fun z=>by rw[z,aq] at b;cases b
 rw[aF C,aq,tD];refine⟨C,rfl,rfl,?_⟩;have I:eH H3 (fY (fY H' q2 (.lst [])) q3 (.lst [])):=sb.trans ((eH.new u).trans (eH.new b));have k:fY (fY H' q2 (.lst [])) q3 (.lst []) F=some (.lst ((nm W).map T.str)):=(eH.new (o:=.lst []) b) _ _ ((eH.new (o:=.lst []) u) _ _ gn);generalize fY (fY H' q2 (.lst [])) q3 (.lst [])=H5 at I k ⊢;rw[lC,gQ,if_neg (by decide)];clear sb gn u b C;walk_at "n";have V:=dU s;walk_at "";walk_at "c";refine fX T.str (nm W) (fun A ys Z H'=>∃v:Option T,Z=[v,some (.tup (s.map T.str))]/\ys=(A.filter fun n=>decide (n∈s)).map T.str/\H'=H5) ⟨_,rfl,rfl,rfl⟩ ?_ ?_;rotate_left
 ·rintro G n B2 ys Z H' N2 e ⟨v,rfl,rfl,rfl⟩ a;refine⟨.inl k,?_⟩;have em:=W8 (x:=n) (xs:=s);have hlA:((G.filter fun n=>decide (n∈s)).map T.str).length<=8:=by rw[d_];have h1:=Zr (fun n=>decide (n∈s)) G;have h2:=Zk List.length e;rw[fP,g_] at h2;omega
  have yes:tL (n∈s->N2 ((G.filter fun n=>decide (n∈s)).map T.str++[T.str n]) [some (.str n),some (.tup (s.map T.str))] H'):=⟨fun z=>a _ _ _ ⟨_,rfl,by rw[aal,aa5,N_ z];simp,rfl⟩⟩;have no:tL (n∉s->N2 ((G.filter fun n=>decide (n∈s)).map T.str) [some (.str n),some (.tup (s.map T.str))] H'):=⟨fun z=>a _ _ _ ⟨_,rfl,by rw[aal,aa5,E_ z];simp,rfl⟩⟩;clear a e y p hsD;generalize (G.filter fun n=>decide (n∈s)).map T.str=cur at *;walk_at "";rw[show dH false (T.str n) (s.map T.str)=decide (n∈s) from Og];refine⟨rfl,trivial,?_⟩;by_cases c:n∈s
  ·rw[if_pos (N_ c)];exact⟨by omega,yes.out c⟩
  rw[if_neg (qF c)];exact no.out c
 rintro ys Z H' ⟨v,rfl,rfl,rfl⟩;rw[p.out];refine⟨.inl k,by rw[d_];omega,fun q4 Y q5 l=>?_⟩;have S:q4≠q5:=fun z=>by rw[z,aq] at l;cases l
 rw[aF S,aq,tD];refine⟨S,V,V,?_⟩;rw[lC,gQ,if_neg (by decide)];exact y.out _ _ ⟨_,rfl,I.trans ((eH.new Y).trans (eH.new l)),(eH.new (o:=.lst (s.map T.str)) l) _ _ ((eH.new (o:=.lst (s.map T.str)) Y) _ _ k)⟩
def Zc (i:Nat) {x:Str}{b a g:Pos}{k v:Expr}{tk c:Ho} (l:X.N.Nodup) (f:xr X k tk) (d:xr X v c) (e:X.N[i]?=some x) (h:Loc X.env.scope x) (j:X.fn x=true\/X.env.scope.names.lookup x=some .local):PS3 X (.Assign [.Name x a] (.Dict [some k] [v] g) b) (xY (qG tk c) (eX i)):=aD _ l (Ah f d) e h rfl j
abbrev jK:List Str:=["works","beat","many","walk","ways","stand"]
def acb:gk jK ["works","beat","many"] (aB (top 37)):=bc
def ou {f:Addr} (g:G3 K mg "dealing_to" (top 37) ["works","beat","many"] f fd) (B:Bl mg) (l:adq K c ["works","beat","rules","whole"]) (z:MkC P w K mg base c 5 "Walk" ["self","works","beat"] (Xc c)) (d:Ow P w K mg base 5 "ways_behind" (top 36) ["walk","stand","ways"] (Xw c)) (k:MtC P w K mg base c 2 "dealing_of" ["self","fillings"] (Xe c)):Ow P w K mg base 7 "dealing_to" (top 37) ["works","beat","many"] TX:=by
 refine c6 g acb ?_;rintro _ A _ s H E _ H3 _ V ⟨W,eG,m,rfl,F,hm,kk⟩;have O:=tR.u1 V;refine⟨_,(aj (aD 3 acb.nd (Ka z (V.mono (by decide)) rfl (aa (v3 0) (aa (v3 1) ak))))
   (@aj _ _ _ _ _ (@Zc _ 4 _ _ _ _ _ _ _ _ acb.nd ao (bB ak) rfl (by first | exact Or.inl rfl | exact Or.inr rfl) (by first | exact .inl rfl | exact .inr rfl | assumption))
   (aj (bj I_ rfl (bR rfl B.range_ (aa (v3 2) ak)) (aC 5 acb.nd) (aA (aD 4 acb.nd (aP d V rfl (aa (v3 3) (aa (v3 5) (aa (v3 4) ak)))))))
   (aj (bA (wG O (ie l (v3 3)) (v3 4)) (aA (aL jM)) aR)
   (aA (aL (qI k (V.mono (by decide)) (v3 3) (aa (Fe O (v3 4) (ie l (v3 3))) ak)))))))),?_⟩
 walk_at "q";walk_at "h";have U:=tL.mk kk;clear kk;have t1:=m5 W;have r8:W.row.length<=8:=F.r8;walk_at "s";intro a ha;refine⟨a,W,eG,rfl,F,aq,fun X kp D=>⟨rfl,?_⟩⟩;have n:eH H3 X:=fun b u J=>kp b u (bz J ha) (by rw[aF (bz J ha)];exact J);clear kp ha;walk_at "n";walk_at "s";intro R r;refine⟨by decide,trivial,?_⟩;have e0:([(0,T.tup [])]:List (Int × T))=dI wyT (wys W eG 0):=rfl;rw[e0];have C:eH H3 (fY X R (.dci (dI wyT (wys W eG 0)))):=n.trans (eH.new r);have y:=D.sub (eH.new (o:=.dci (dI wyT (wys W eG 0))) r);have x:fY X R (.dci (dI wyT (wys W eG 0))) R=some (.dci (dI wyT (wys W eG 0))):=aq;have hq3:=cL n r;generalize fY X R (.dci (dI wyT (wys W eG 0)))=H5 at C x y ⊢;clear e0 r n D;walk_at "n";refine au fun R2 hR2=>?_;walk_at "";refine⟨trivial,by omega,by omega,?_⟩;rw[kE];refine aZ (fun (j:Nat)=>T.int (j:Int)) (List.range m) (fun A Z H=>∃(q:Addr) (v5:Option T),Z=[some W.enc,some (.int eG),some (.int (m:Int)),some (.ref a),some (.ref q),v5]/\eH H3 H/\H3 q=none/\Wlk c W eG H a/\H q=some (.dci (dI wyT (wys W eG A.length)))) ⟨R,_,rfl,C,hq3,y,x⟩ ?_ ?_
 ·rintro Z H ⟨q,v5,rfl,n,hq,D,S⟩;walk_at "t";rw[z_] at S;walk_at "n";obtain⟨pw,gw,_⟩:=D.ex;have f4:=uK (W:=W) (eG:=eG) (p:=pw);have lm:=G6 (W:=W) (eG:=eG) (p:=pw) (m:="dealing_of") (by decide +kernel);have L:=q9 wyT (top2 W - 1) (wys W eG m);have ec:((top2 W - 1:Nat):Int)=(top2 W:Int) - 1:=by omega
  rw[ec] at L;have I:=U.out;unfold dtT at I;have G:=wtb (W:=W) (eG:=eG) F hm;clear C y x;refine au fun R3 hR3=>?_;cases Y:cT (top2 W - 1) (wys W eG m) with
  |none=>rw[Y] at L I;rw[Option.map_none] at L;have k3:=tL.mk I;clear U I hR3 G;walk_at "";simp only[Option.isSome_none,aaP,if_true];exact t6.of n k3.out
  |some v =>
  obtain⟨_,M,hb3⟩:=(G.wok F).lt _ (gh Y);have hb4:v.length<=m:=M;clear M;rw[Y] at L I;rw[abd] at L;simp only[wyT] at L;have k3:=tL.mk I;clear U I G Y;generalize wys W eG m=E at *;walk_at "";simp only[Option.isSome_some,aa4,C_,Zv];walk_at "n";walk_at "";refine⟨by first | trivial | exact lm,a,W,eG,v,rfl,F,D,by omega,hb3,?_⟩;exact t6.of n k3.out
 rintro A j B Z H N e ⟨q,v5,rfl,n,hq,D,S⟩ hN;walk_at "t";have hA:A.length<m:=by have:=Zk List.length e;simp only[g_,p_,z_] at this;omega
 have hj:j=A.length:=by
  have h1:(List.range m)[A.length]?=some j:=by rw[e,V_ (k_ _)];simp
  rw[Zy hA] at h1;exact (D_ h1).symm
 subst hj;have hN':=tL.mk hN;clear hN e U hR2 C y x;walk_at "";refine⟨a,q,W,eG,A.length,A.length,wys W eG A.length,rfl,F,D,by omega,by omega,(wtb F (by omega)).wok F,S,fun o p2 t=>?_⟩;have nq2:q≠p2:=bz S t;have hwf:=D.frz (o:=.dif o (dI wyT (wys W eG A.length))) S;refine hN'.out _ _ ⟨p2,_,rfl,fun b u J=>?_,cL n ?_,hwf.sub (eH.new (by rw[aF (Ne.symm nq2)];exact t)),?_⟩
 ·rw[aF (bz (n b u J) ?_),aF (bz J hq)]
  ·exact n b u J
  exact t
 ·exact t
 rw[aq,g_];rfl
abbrev iZ:List Str:=["walk","stand","ways","behind","done","fillings","filling"]
def Z5:gk iZ ["walk","stand","ways"] (aB (top 36)):=bc
def nq {f:Addr} (g:G3 K mg "ways_behind" (top 36) ["walk","stand","ways"] f fd) (B:Bl mg) (I_Walk:adq K c ["works","beat","rules","whole"]) (j:MtC P w K mg base c 4 "greatest_at" ["self","stand","done"] (Xv c)):Ow P w K mg base 5 "ways_behind" (top 36) ["walk","stand","ways"] (Xw c):=by
 refine c6 g Z5 ?_;rintro _ A _ s H E _ H3 _ hr ⟨a,q,W,eG,k,n,E,rfl,hW,hw,hk,hn,hE,hq,kk⟩;refine⟨_,(aj (aD 3 Z5.nd Fb)
   (aj (bj I_ rfl (Fo (v3 2)) (cA (n:=2) rfl (aH (aC 4 Z5.nd) (aH (aC 5 Z5.nd) bI))) (aA (bj I_ rfl (c7 (qI j (hr.mono (by decide)) (v3 0) (aa (v3 1) (aa (v3 4) ak)))) (aC 6 Z5.nd) (aA (bZ (J9 (v3 3) (aG aW (v3 4) (v3 6)) (aG aW (v3 5) (bB (aa (v3 6) ak)))))))))
   (aA (aL (v3 3))))),?_⟩
 walk_at "q";walk_at "h";have k':=tL.mk kk;clear kk;have t2:=q8 hW;have hE':=tL.mk hE;clear hE;walk_at "s";intro l V;have y:q≠l:=bz hq V;walk_at "n";refine au fun R1 hR1=>?_;have gq:fY H3 l (.dci []) q=some (.dci (dI wyT E)):=by rw[aF y];exact hq
 walk_at "";intro o;rw[Xr];have hw0:Wlk c W eG (fY H3 q (.dif o (dI wyT E))) a:=hw.frz hq;have g0:fY H3 q (.dif o (dI wyT E)) q=some (.dif o (dI wyT E)):=aq;have n0:fY H3 q (.dif o (dI wyT E)) l=none:=by rw[aF (Ne.symm y)];exact V
 have R:Kb1 l (fY H3 q (.dif o (dI wyT E))) (fY (fY H3 l (.dci [])) q (.dif o (dI wyT E))):=fun b u hb h=>by
  by_cases e:b=q
  ·subst e;rw[aq] at h ⊢;exact h
  rw[aF e] at h ⊢;rw[aF hb];exact h
 have J:fY (fY H3 l (.dci [])) q (.dif o (dI wyT E)) l=some (.dci (dI wyT [])):=by rw[aF (Ne.symm y),aq];rfl
 have k2:=tL.mk (k'.out o l V);generalize fY (fY H3 l (.dci [])) q (.dif o (dI wyT E))=H4 at R J ⊢;generalize fY H3 q (.dif o (dI wyT E))=H0 at *;clear k' gq hq hw;refine aZ wyE E (fun A Z H=>∃(v4 v5 r:Option T),Z=[some (.ref a),some (.int (k:Int)),some (.ref q),some (.ref l),v4,v5,r]/\Kb1 l H0 H/\H l=some (.dci (dI wyT (A.foldl (wbF W eG k) [])))/\WOk W (n+1) (A.foldl (wbF W eG k) [])) ⟨_,_,_,rfl,R,J,⟨aa_,fun _ z=>(nomatch z)⟩⟩ ?_ ?_
 ·rintro Z H ⟨v4,v5,r,rfl,v,D,_⟩;refine⟨v q _ y g0,?_⟩;walk_at "n";walk_at "";refine t6.of (fun b u hb=>?_) k2.out;by_cases e:b=l
  ·subst e;rw[aq] at hb;rw[D,<- hb];rfl
  rw[aF e] at hb;exact v b u e hb
 rintro A e B Z H N eE ⟨v4,v5,r,rfl,v,D,hB⟩ hN;refine⟨v q _ y g0,?_⟩;obtain⟨ed,el,et⟩:=hE'.out.lt e (by rw[eE];simp);have d:(A++[e]).foldl (wbF W eG k) []=wbF W eG k (A.foldl (wbF W eG k) []) e:=by rw[aaT];rfl
 have L:=tL.mk hN;clear hN eE hR1 k2 R J;rw[d] at L;generalize A.foldl (wbF W eG k) []=B0 at *;clear d;simp only[wyE];walk_at "";have U:=v.wlk n0 hw0;obtain⟨pw,gw,_⟩:=U.ex;have lm:=G6 (W:=W) (eG:=eG) (p:=pw) (m:="greatest_at") (by decide +kernel);walk_at "t";try rw[gw,Oa]
 refine⟨lm,a,W,eG,k,e.1,rfl,hW,U,hk,ed,fun I X=>?_⟩;have npf:l≠I:=bz D X;have flen:(gfl W eG k e.1).length<=256:=by have:=rB bK (fls W eG k e.1);have h2:(fls W eG k e.1).length<=256:=P_ (Zr _ _) (by rw[z_];exact t2);unfold gfl;rw[Q_];omega
 have S:Kb1 l H0 (fY H I (.lst ((gfl W eG k e.1).map bD))):=v.new X;have O:fY H I (.lst ((gfl W eG k e.1).map bD)) l=some (.dci (dI wyT B0)):=by rw[aF npf];exact D
 have M:fY H I (.lst ((gfl W eG k e.1).map bD)) I=some (.lst ((gfl W eG k e.1).map bD)):=aq;generalize fY H I (.lst ((gfl W eG k e.1).map bD))=H5 at S O M ⊢;clear v D U gw lm X;try walk_at ""
 refine aZ bD (gfl W eG k e.1) (fun A2 Z H=>∃(r:Option T),Z=[some (.ref a),some (.int (k:Int)),some (.ref q),some (.ref l),some (.int (e.1:Int)),some (wyT e.2),r]/\Kb1 l H0 H/\H I=some (.lst ((gfl W eG k e.1).map bD))/\H l=some (.dci (dI wyT (A2.foldl (iV e.1 e.2) B0)))/\WOk W (n+1) (A2.foldl (iV e.1 e.2) B0)) ⟨_,rfl,S,M,O,hB⟩ ?_ ?_
 ·rintro Z H ⟨r,rfl,v,gf,D,G⟩;refine⟨.inl gf,?_⟩;exact L.out _ _ ⟨_,_,_,rfl,v,D,G⟩
 rintro A2 f B2 Z H N eF ⟨r,rfl,v,gf,D,G⟩ hN2;refine⟨.inl gf,?_⟩;have hf:f∈fls W eG k e.1:=rm (by rw[eF];simp);have d:(A2++[f]).foldl (iV e.1 e.2) B0=iV e.1 e.2 (A2.foldl (iV e.1 e.2) B0) f:=by rw[aaT];rfl
 have hB3:=G.stp hW ed el et hf;have hlen:=G.len;have x:=tL.mk hN2;clear hN2 eF L S M O hB;rw[d] at x;generalize A2.foldl (iV e.1 e.2) B0=C at *;clear d;have F:tL (∀(r:Option T) (H':gb),Kb1 l H0 H'->H' I=some (.lst ((gfl W eG k e.1).map bD))->H' l=some (.dci (dI wyT (iV e.1 e.2 C f)))->N [some (.ref a),some (.int (k:Int)),some (.ref q),some (.ref l),some (.int (e.1:Int)),some (wyT e.2),r] H'):=⟨fun r H' h1 h2 h3=>x.out _ _ ⟨r,rfl,h1,h2,h3,hB3⟩⟩;clear x hB3;have lk:=q9 wyT (e.1+f) C;have pt:=Ti wyT (e.1+f) (e.2++[f]) C;have dl:=Th wyT C;have Y:wyT (e.2++[f])=.tup (e.2.map bD++[.int (f:Int)]):=by unfold wyT;rw[y_];rfl
 have ec:((e.1+f:Nat):Int)=(e.1:Int)+(f:Int):=by push_cast;rfl
 rw[Y,ec] at pt;rw[ec] at lk;have hst:iV e.1 e.2 C f=match cT (e.1+f) C with
   |none=>putN (e.1+f) (e.2++[f]) C
   |some _=>C:=rfl
 have t:=tL.mk hst;clear hst;try simp only[wyT,bD] at pt
 simp only[wyT,bD];cases el2:cT (e.1+f) C with
 |none =>
  rw[el2] at lk t;rw[Option.map_none] at lk;have yes:=tL.mk (fun r=>F.out r _ v.put (by rw[aF (Ne.symm npf)];exact gf) (by rw[aq,t.out,<- pt]));try simp only[wyT,bD] at yes
  clear F pt Y;walk_at "";exact⟨trivial,by omega,by omega,by omega,yes.out _⟩
 |some u =>
 rw[el2] at lk t;rw[abd] at lk;have no:=tL.mk (fun r=>F.out r H v gf (by rw[t.out];exact D));try simp only[wyT,bD] at no
 clear F pt Y;walk_at "";exact⟨trivial,by omega,by omega,by omega,no.out _⟩
abbrev cM:List Str:=["self","stand","done"]
def nu:gk cM cM (aB (ack 34 2)):=bc
def nA {f:Addr} (g:GM K c "greatest_at" "Walk.greatest_at" (ack 34 2) cM f y) (B:Bl mg) (q:adq K c ["works","beat","rules","whole"]) (i:Ow P w K mg base 2 "greatest_numbers" (top 31) ["numbers"] Xu) (j:MtC P w K mg base c 3 "fillings_at" cM (Xd c)):MtC P w K mg base c 4 "greatest_at" cM (Xv c):=by
 refine⟨g.cls,f,y,g.mt,g.b,?_⟩;refine fn3 g.fn nu (fun ts H Q h=>?_) (fun J A outer s H E ts H3 Q v h=>?_)
 ·obtain⟨a,W,eG,k,d,rfl,_⟩:=h;rfl
 obtain⟨a,W,eG,k,d,rfl,x,u,D,L,z⟩:=h;refine⟨_,(aA (aL (aP i v rfl (aa (qI j (v.mono (by decide)) (v3 0) (aa (v3 1) (aa (v3 2) ak))) ak)))),?_⟩;walk_at "q";walk_at "h";have F:=tL.mk z;clear z;have M:=q8 x;obtain⟨G,O,_⟩:=u.ex;have I:=G6 (W:=W) (eG:=eG) (p:=G) (m:="fillings_at") (by decide +kernel);walk_at "";refine⟨by first | trivial | exact I,a,W,eG,k,d,rfl,x,u,D,L,fun C t=>?_⟩;have l:(fls W eG k d).length<=256:=P_ (Zr _ _) (by rw[z_];exact M);refine⟨C,fls W eG k d,rfl,aq,l,fun p N=>?_⟩;have n:eH H3 (fY H3 C (.lst ((fls W eG k d).map bD))):=eH.new t;refine t6.of ?_ (F.out p (cL n N));intro b o r;by_cases e:b=p
 ·subst e;rw[aq] at r ⊢;exact r
 rw[aF e] at r ⊢;exact n b o r
def HR:Sp3:=fun ts H Q=>∃(W:Wk) (x:T) (a:List Str),ts=[W.enc,x]/\n7 W/\W4 H x a/\Q (.int (numOf (W.tasks.map (·.1)) a)) H
def Om:Sp3:=fun ts H Q=>∃(W:Wk) (n:Int),ts=[W.enc,.int n]/\n7 W/\0<=n/\n<2^W.tasks.length/\Q (sT (pick (W.tasks.map (·.1)) n)) H
def Oo:Sp3:=fun ts H Q=>∃(a:List Str) (k:Str),ts=[sT a,.str k]/\Q (.bl (kZ a k)) H
def zy:Sp3:=fun ts H Q=>∃a b:Int,ts=[.int a,.int b]/\Q (.bl (decide (Builtin.bitAnd a b=b))) H
def Oq:Sp3:=fun ts H Q=>∃(W:Wk) (t:Str),ts=[W.enc,.str t]/\n7 W/\∀p,H p=none->Q (.ref p) (fY H p (.lst ((jF W t).map T.str)))
def Ot:Sp3:=fun ts H Q=>∃W:Wk,ts=[W.enc]/\n7 W/\∀p,H p=none->Q (.ref p) (fY H p (.lst (W.tasks.map (ruT W (W.tasks.map (·.1))))))
def Ou:Sp3:=fun ts H Q=>∃(W:Wk) (a:Addr) (eG:Int) (b:Str) (D S:List Str),ts=[.ref a,.int eG,.str b,.int (numOf (W.tasks.map (·.1)) D),.int (numOf (W.tasks.map (·.1)) S)]/\n7 W/\H a=some (.lst (W.tasks.map (ruT W (W.tasks.map (·.1)))))/\Q (.bl (wZ W eG b D S)) H
abbrev kO:List Str:=["works","tasks","number","worth","task"]
def ab_:gk kO ["works","tasks"] (aB (top 24)):=bc
def rG {f:Addr} (g:G3 K mg "number_of" (top 24) ["works","tasks"] f o) (B:Bl mg):Ow P w K mg base 1 "number_of" (top 24) ["works","tasks"] HR:=by
 refine c6 g ab_ ?_;rintro _ A _ _ H _ _ H3 _ z ⟨⟨tk,c,prs,b⟩,x,d,rfl,p,u,k⟩;have j:=tR.u31 z;refine⟨_,(aj (aD 2 ab_.nd ao)
   (aj (aD 3 ab_.nd ao)
   (aj (bj I_ rfl (bF (aJ My (v3 0) ao)) (aC 4 ab_.nd) (aj (bA (aU (mF j) (aJ My (v3 4) ao) (v3 1) rfl) (aA (aD 2 ab_.nd (aG aW (v3 2) (v3 3)))) aR)
    (aA (aD 3 ab_.nd (aG cW (v3 3) ao)))))
   (aA (aL (v3 2)))))),?_⟩
 walk_at "q";walk_at "h";have F:tk.length<=8:=p.t8;walk_at "";refine aZ tkT tk (fun A Z H=>∃v:Option T,H=H3/\Z=[some (T.tup [T.tup (tk.map tkT),T.tup (c.map orT),T.tup (prs.map prT),T.tup (b.map T.str)]),some x,some (.int (numOf (A.map (·.1)) d)),some (.int (2^A.length)),v]) ⟨none,rfl,rfl⟩ ?_ ?_
 ·rintro Z H ⟨v,rfl,rfl⟩;walk_at "t";walk_at "";exact t6.of eH.refl k
 rintro A t B Z H N e ⟨v,rfl,rfl⟩ n;have y:A.length+1<=8:=by have:=Zk List.length e;simp only[g_,p_] at this;omega
 have D:0<(2:Int)^A.length/\(2:Int)^A.length<=256:=by
  have:A.length=0\/A.length=1\/A.length=2\/A.length=3\/A.length=4\/A.length=5\/A.length=6\/A.length=7:=by omega
  rcases this with e | e | e | e | e | e | e | e <;> rw[e] <;> decide
 have m:aed (2^A.length) 2:=.inl ⟨by omega,by omega⟩;have a:∀v,N [some (T.tup [T.tup (tk.map tkT),T.tup (c.map orT),T.tup (prs.map prT),T.tup (b.map T.str)]),some x,some (.int (numOf (A.map (·.1)) d+2^A.length*(if t.1∈d then 1 else 0))),some (.int (2^A.length*2)),v] H:=fun v=>by have:=n [some (T.tup [T.tup (tk.map tkT),T.tup (c.map orT),T.tup (prs.map prT),T.tup (b.map T.str)]),some x,some (.int (numOf ((A++[t]).map (·.1)) d)),some (.int (2^(A++[t]).length)),v] H ⟨v,rfl,rfl⟩;rw[show (2:Int)^(A++[t]).length=2^A.length*2 by rw[g_,K_,ab2],y_,H_,aaB,mW,d_] at this;exact this
 replace a:=tL.mk a;obtain⟨nm,q,C⟩:=t;walk_at "t";clear n e k;simp only[tkT,sT];walk_at "";refine K6 u ?_;by_cases l:nm∈d
 ·simp only[l,aaF,if_true,C_,Zv,gQ,Int.mul_one] at a ⊢;exact⟨by first | trivial | exact m,a.out _⟩
 simp only[l,aap,if_true,C_,Zv,gQ,Int.mul_zero,Int.add_zero] at a ⊢;exact⟨by first | trivial | exact m,a.out _⟩
abbrev cZ:List Str:=["kinds","kind"]
def nF:gk cZ cZ (aB (top 16)):=bc
def nG {f:Addr} (g:G3 K mg "may_be_done" (top 16) cZ f i) (B:Bl mg):Ow P w K mg base 1 "may_be_done" (top 16) cZ Oo:=by
 refine c6 g nF ?_;rintro _ _ _ _ _ _ _ _ _ e ⟨a,b,rfl,k⟩;have c:=tR.u30 e;have d:=tR.u31 e;refine⟨_,(aA (aL (Vg (dO (dC c) (aO cC rfl B.len_ cD (aa (v3 0) ak)) ao) (Cp (dO (mF d) (v3 1) (v3 0) rfl))))),?_⟩;rw[show aQ cZ [sT a,T.str b]=[some (T.tup (a.map T.str)),some (T.str b)] from rfl];have l:pl 20 (T.str b)=true:=rfl;have m:=dU a;have n:dH false (T.str b) (a.map T.str)=decide (b∈a):=by unfold dH;have:(T.str b∈a.map T.str)↔b∈a:=fH jC;simp only[this];simp
 walk_at "";unfold kZ at k;cases a with
 |nil=>simp only[aaF,Bool.true_or,ZQ,if_true] at k ⊢;exact t6.of eH.refl k
 |cons y r =>
  have:¬(((r.length+1:Nat)):Int)=0:=by omega
  simp only[p_,this,aap,C_,Zv] at k ⊢
  exact⟨trivial,trivial,t6.of eH.refl (by simpa using k)⟩
abbrev gm:List Str:=["number","part"]
def xH:gk gm gm (aB (top 29)):=bc
def xJ {f:Addr} (g:G3 K mg "has_all" (top 29) gm f d) (B:Bl mg):Ow P w K mg base 1 "has_all" (top 29) gm zy:=by
 refine c6 g xH ?_;rintro _ _ _ _ _ _ _ _ _ i ⟨a,b,rfl,k⟩;have c:=tR.u30 i;refine⟨_,(aA (aL (dO (dC c) (aG Ea (v3 0) (v3 1)) (v3 1)))),?_⟩;walk_at "q";walk_at "";exact t6.of eH.refl k
abbrev cU:List Str:=["works","task"]
def oA:gk cU cU (aB (top 27)):=bc
def oE {f:Addr} (g:G3 K mg "apart_from" (top 27) cU f x) (B:Bl mg):Ow P w K mg base 1 "apart_from" (top 27) cU Oq:=by
 refine c6 g oA ?_;rintro _ A _ s H _ _ H3 _ I ⟨⟨tk,j,prs,m⟩,t,rfl,J,k⟩;have c:=tR.u30 I;refine⟨_,(aA (aL (bO rfl (b6 27 cU ["word","one","other","task"] 3 [1]) (bF (aJ My (v3 0) ao)) (fun R v s H S U=>⟨(cA (n:=3) rfl (aH (aC 0 (n5 ["word","one","other","task"])) (aH (aC 1 (n5 ["word","one","other","task"])) (aH (aC 2 (n5 ["word","one","other","task"])) bI)))),(fB (PW3.pt (gW (aU (dC c) (v3 0) gU) (fj (aU (dC c) (v3 1) (v3 3)))))),(v3 2)⟩)))),?_⟩;walk_at "q";walk_at "h";have C:prs.length<=12:=J.ps;walk_at "";walk_at "c";refine fX prT prs (fun A ys Z H=>H=H3/\ys=((A.filter fun p=>decide (p.1=("apart":Str))&&decide (p.2.1=t)).map (·.2.2)).map T.str/\∃o r u:Option T,Z=[o,r,u,some (.str t)]) ⟨rfl,rfl,none,none,none,rfl⟩ ?_ ?_
 ·rintro ys Z H ⟨rfl,rfl,o,r,u,rfl⟩;refine⟨trivial,?_,fun p M=>t6.of eH.refl (k p M)⟩;rw[d_,d_];exact P_ (Zr _ _) (by omega)
 rintro A ⟨w,a,b⟩ B ys Z H N e ⟨rfl,rfl,o,r,u,rfl⟩ q;have F:A.length<=12:=by have:=Zk List.length e;simp only[g_,p_] at this;omega
 have O:((A.filter fun p=>decide (p.1=("apart":Str))&&decide (p.2.1=t)).map (·.2.2)).length<=12:=by rw[d_];exact P_ (Zr _ _) F
 walk_at "t";have G:tL (w="apart"/\a=t->N (((A.filter fun p=>decide (p.1=("apart":Str))&&decide (p.2.1=t)).map (·.2.2)).map T.str++[T.str b]) [some (.str w),some (.str a),some (.str b),some (.str t)] H):=⟨fun h=>q _ _ _ ⟨rfl,by rw[aal];simp [h],_,_,_,rfl⟩⟩;have y:tL (¬(w="apart"/\a=t)->N (((A.filter fun p=>decide (p.1=("apart":Str))&&decide (p.2.1=t)).map (·.2.2)).map T.str) [some (.str w),some (.str a),some (.str b),some (.str t)] H):=⟨fun h=>q _ _ _ ⟨rfl,by rw[aal];simp [h],_,_,_,rfl⟩⟩;generalize ((A.filter fun p=>decide (p.1=("apart":Str))&&decide (p.2.1=t)).map (·.2.2))=D at *;clear q k e;simp only[prT];walk_at "";walk_at "t";by_cases d:w="apart"
 ·simp only[d,aaF,if_true];by_cases l:a=t
  ·simp only[l,aaF,if_true];have:=G.out ⟨d,l⟩;rw[d,l] at this;exact⟨by omega,this⟩
  simp only[l,aap,C_,Zv];have:=y.out fun z=>l z.2;rw[d] at this;exact this
 simp only[d,aap,C_,Zv];exact y.out fun z=>d z.1
abbrev dw:List Str:=["numbers","greatest","number"]
def aca:gk dw ["numbers"] (aB (top 31)):=bc
def iW {f:Addr} (g:G3 K mg "greatest_numbers" (top 31) ["numbers"] f Y) (B:Bl mg) (c:Ow P w K mg base 1 "has_all" (top 29) ["number","part"] zy):Ow P w K mg base 2 "greatest_numbers" (top 31) ["numbers"] Xu:=by
 refine c6 g aca ?_;rintro _ A _ s H _ _ H3 _ hr ⟨a,fs,rfl,M,hl,k⟩;refine⟨_,(aj (aD 1 aca.nd (bx ak))
   (aj (bj I_ rfl (Rn rfl B.reversed_ (v3 0)) (aC 2 aca.nd) (aA (bA (gD (dm (aO (Q9 rfl) rfl B.any_ Qs (aa (bO rfl (b6 31 dw ["other","number"] 1 [2]) (c7 (v3 1)) (fun cl S s H C0 fp=>⟨(aC 0 (n5 ["other","number"])),bN,(aP c hr rfl (aa (v3 0) (aa (v3 1) ak)))⟩)) ak)))) (aA (bZ (dZ R_ Zf Zg bL (v3 1) (aa (v3 2) ak)))) aR)))
   (aA (aL (Eh rfl rfl B.list_ rfl B.reversed_ (v3 1)))))),?_⟩
 walk_at "q";walk_at "h";walk_at "s";refine⟨by omega,fun z C=>?_⟩;walk_at "n";have t:eH H3 (fY H3 z (.lst [])):=eH.new C;have I:fY H3 z (.lst []) z=some (.lst ((gre bK []).map bD)):=aq;generalize fY H3 z (.lst [])=H1 at t I;try dsimp only
 refine au fun R1 O=>?_;have W:=t _ _ M;walk_at "";rw[<- aaq];refine aZ bD fs.reverse (fun A Z H=>∃(q:Addr) (v:Option T),Z=[some (.ref a),some (.ref q),v]/\eH H3 H/\H3 q=none/\H q=some (.lst ((gre bK A.reverse).map bD))) ⟨z,none,rfl,t,C,I⟩ ?_ ?_
 ·rintro Z H ⟨q,v,rfl,y,d,D⟩;refine⟨.inl (y _ _ M),?_⟩;walk_at "n";rw[List.reverse_reverse] at D;clear I W;walk_at "";intro p hp;have L:H3 p=none:=by
   cases e:H3 p with
   |none=>rfl
   |some o=>rw[y _ _ e] at hp;cases hp
  rw[<- aaq];refine t6.of ?_ (k p L);intro b o r;by_cases e:b=p
  ·subst e;rw[aq] at r ⊢;exact r
  rw[aF e] at r ⊢;exact y b o r
 rintro A n B Z H N e ⟨q,v,rfl,y,d,D⟩ U;refine⟨.inl (y _ _ M),?_⟩;have hA:A.length+1<=256:=by have:=Zk List.length e;simp only[g_,p_,Q_] at this;omega
 have l:=tL.mk U;have x:gre bK (A++[n]).reverse=if (gre bK A.reverse).any (fun g=>bK g n) then gre bK A.reverse else gre bK A.reverse++[n]:=by rw[List.reverse_append];rfl
 have gl:=rB bK A.reverse;rw[Q_] at gl;clear U e k O I W;generalize gre bK A.reverse=G at *;walk_at "";walk_at "c";refine bH bD (fun g=>T.bl (bK g n)) G [some (bD n)] (.inl D) (by omega) (fun g hg Q' R=>?_) (fun J u=>?_)
 ·clear l;walk_at "";exact⟨(g:Int),(n:Int),rfl,R⟩
 have F:q≠J:=bz D u;have bm:(G.map fun g=>T.bl (bK g n))=(G.map fun g=>bK g n).map T.bl:=by rw[U_];rfl
 have V:fY H J (.lst ((G.map fun g=>bK g n).map T.bl)) q=some (.lst (G.map bD)):=by rw[aF F];exact D
 have m:eH H3 (fY H J (.lst ((G.map fun g=>bK g n).map T.bl))):=y.trans (eH.new u);rw[bm,gF,fM];generalize fY H J (.lst ((G.map fun g=>bK g n).map T.bl))=H5 at V m;have X:(G.map fun g=>bK g n).any id=G.any fun g=>bK g n:=by rw[List.any_map];rfl
 rw[X];cases r:G.any fun g=>bK g n
 ·rw[r] at x;simp only[C_,Zv] at x;clear X bm u F;simp only[aaP,if_true];walk_at "";refine⟨⟨trivial,trivial⟩,by omega,l.out _ _ ⟨q,_,rfl,?_,d,?_⟩⟩
  ·intro b o j;by_cases e:b=q
   ·subst e;rw[d] at j;cases j
   rw[aF e];exact m b o j
  rw[aq,x,y_];rfl
 rw[r] at x;simp only[if_true] at x;simp only[aa4,C_,Zv];exact l.out _ _ ⟨q,_,rfl,m,d,by rw[x];exact V⟩
abbrev nH:List Str:=["self","works","beat"]
def Mm:gk nH nH (aB (ack 34 0)):=bc
def Mp {f:Addr} (g:GI K mg c "Walk" "Walk.__init__" (ack 34 0) nH f fd) (B:Bl mg) (d:adq K c ["works","beat","rules","whole"]) (j:Ow P w K mg base 4 "rules_of" (top 28) ["works"] Ot) (i:Ow P w K mg base 1 "number_of" (top 24) ["works","tasks"] HR) (l:Ow P w K mg base 1 "names_of" (top 20) ["tasks"] W9):MkC P w K mg base c 5 "Walk" nH (Xc c):=by
 refine⟨g.at_,f,fd,g.mk_,g.b,?_⟩;refine fn3 g.fn Mm (fun ts H Q h=>?_) (fun cdv A outer s H E ts H3 Q N h=>?_)
 ·obtain⟨a,W,eG,rfl,_⟩:=h;rfl
 obtain⟨a,W,eG,rfl,O,ha,k⟩:=h;refine⟨_,(aj (qH d (v3 0) (v3 1))
   (aj (qH d (v3 0) (v3 2))
   (aj (qH d (v3 0) (aP j N rfl (aa (v3 1) ak)))
   (aA (qH d (v3 0) (aP i N rfl (aa (v3 1) (aa (aP l N rfl (aa (aJ My (v3 1) ao) ak)) ak)))))))),?_⟩
 walk_at "q";walk_at "h";have k':=tL.mk k;clear k;walk_at "s";have Y:fY H3 a (.ins c (dJ "works" W.enc [])) a=some (.ins c [("works",W.enc)]):=aq;refine⟨by decide,?_⟩;have t:∀b o,b≠a->H3 b=some o->fY H3 a (.ins c (dJ "works" W.enc [])) b=some o:=fun b o m e=>by rw[aF m];exact e
 generalize fY H3 a (.ins c (dJ "works" W.enc []))=U at Y t ⊢;walk_at "n";walk_at "s";refine⟨by decide,?_⟩;have u:dJ "beat" (T.int eG) [("works",W.enc)]=[(("works":Str),W.enc),(("beat":Str),.int eG)]:=by unfold dJ;rw[if_neg (by decide +kernel)];rfl
 rw[u];have D:fY U a (.ins c [("works",W.enc),("beat",.int eG)]) a=some (.ins c [("works",W.enc),("beat",.int eG)]):=aq;have r:∀b o,b≠a->H3 b=some o->fY U a (.ins c [("works",W.enc),("beat",.int eG)]) b=some o:=fun b o m e=>by rw[aF m];exact t b o m e
 generalize fY U a (.ins c [("works",W.enc),("beat",.int eG)])=L at D r ⊢;clear Y t u;walk_at "n";walk_at "s";refine⟨W,rfl,O,fun p S=>?_⟩;have y:a≠p:=bz D S;have M:fY L p (.lst (W.tasks.map (ruT W (W.tasks.map (·.1))))) p=some (.lst (W.tasks.map (ruT W (W.tasks.map (·.1))))):=aq;have X:fY L p (.lst (W.tasks.map (ruT W (W.tasks.map (·.1))))) a=some (.ins c [("works",W.enc),("beat",.int eG)]):=by rw[aF y];exact D
 have v:∀b o,b≠a->H3 b=some o->fY L p (.lst (W.tasks.map (ruT W (W.tasks.map (·.1))))) b=some o:=fun b o m e=>by rw[aF (bz (r b o m e) S)];exact r b o m e
 generalize fY L p (.lst (W.tasks.map (ruT W (W.tasks.map (·.1)))))=C at M X v ⊢;clear D r S;walk_at "";refine⟨by decide,?_⟩;have u:dJ "rules" (T.ref p) [("works",W.enc),("beat",.int eG)]=[(("works":Str),W.enc),(("beat":Str),.int eG),(("rules":Str),.ref p)]:=by unfold dJ;rw[if_neg (by decide +kernel)];unfold dJ;rw[if_neg (by decide +kernel)];rfl
 rw[u];have F:fY C a (.ins c [("works",W.enc),("beat",.int eG),("rules",.ref p)]) a=some (.ins c [("works",W.enc),("beat",.int eG),("rules",.ref p)]):=aq;have I:fY C a (.ins c [("works",W.enc),("beat",.int eG),("rules",.ref p)]) p=some (.lst (W.tasks.map (ruT W (W.tasks.map (·.1))))):=by rw[aF (Ne.symm y)];exact M
 have n:∀b o,b≠a->H3 b=some o->fY C a (.ins c [("works",W.enc),("beat",.int eG),("rules",.ref p)]) b=some o:=fun b o m e=>by rw[aF m];exact v b o m e
 generalize fY C a (.ins c [("works",W.enc),("beat",.int eG),("rules",.ref p)])=J at F I n ⊢;clear M X v u;walk_at "n";walk_at "";refine⟨W.tasks,rfl,O.t8,fun q G=>?_⟩;have V:a≠q:=bz F G;have R:p≠q:=bz I G;try dsimp only
 refine⟨W,_,W.tasks.map (·.1),rfl,O,.inr ⟨q,rfl,aq⟩,?_⟩;have ew:numOf (W.tasks.map (·.1)) (W.tasks.map (·.1))=(top2 W:Int) - 1:=by have h1:=jX (W:=W) (A:=nm W) fun x hx=>hx;have h2:=m5 W;rw[cH];show ((bT (nm W) (nm W):Nat):Int)=_;rw[h1];omega
 rw[ew];have g7:fY J q (.lst ((W.tasks.map (·.1)).map T.str)) a=some (.ins c [("works",W.enc),("beat",.int eG),("rules",.ref p)]):=by rw[aF V];exact F
 have Z:fY J q (.lst ((W.tasks.map (·.1)).map T.str)) p=some (.lst (W.tasks.map (ruT W (W.tasks.map (·.1))))):=by rw[aF R];exact I
 have z:∀b o,b≠a->H3 b=some o->fY J q (.lst ((W.tasks.map (·.1)).map T.str)) b=some o:=fun b o m e=>by rw[aF (bz (n b o m e) G)];exact n b o m e
 generalize fY J q (.lst ((W.tasks.map (·.1)).map T.str))=H8 at g7 Z z ⊢;clear F I n G;walk_at "";refine⟨by decide,?_⟩;have u:dJ "whole" (T.int ((top2 W:Int) - 1)) [("works",W.enc),("beat",.int eG),("rules",.ref p)]=wkF W eG p:=by unfold dJ;rw[if_neg (by decide +kernel)];unfold dJ;rw[if_neg (by decide +kernel)];unfold dJ;rw[if_neg (by decide +kernel)];rfl
 rw[u];exact t6.of eH.refl (k'.out _ (fun b o m e=>by rw[aF m];exact z b o m e) ⟨p,aq,by rw[aF (Ne.symm y)];exact Z⟩)
abbrev fU:List Str:=["self","stand","done","kind","left"]
def acx:gk fU ["self","stand","done"] (aB (ack 34 1)):=bc
def nJ {f:Addr}{V:FuncData} (g:GM K l "fillings_at" "Walk.fillings_at" (ack 34 1) ["self","stand","done"] f V) (B:Bl mg) (j:adq K l ["works","beat","rules","whole"]) (m:Ow P w K mg base 2 "parts_of" (top 33) ["number"] Oi) (c:Ow P w K mg base 2 "is_filling_number" (top 30) ["rules","beat","kind","done","number"] Ou):MtC P w K mg base l 3 "fillings_at" ["self","stand","done"] (Xd l):=by
 refine⟨g.cls,f,V,g.mt,g.b,?_⟩;refine fn3 g.fn acx (fun ts H Q h=>?_) (fun cdv A outer s H E ts H3 Q S h=>?_)
 ·obtain⟨a,W,eG,k,d,rfl,_⟩:=h;rfl
 obtain⟨a,W,eG,k,d,rfl,x,hw,hk,hd,Z⟩:=h;refine⟨_,(aj (bA (aU Vi (v3 1) (aO cC rfl B.len_ cD (aa (aJ My (ie j (v3 0)) ao) ak))) (aA (aL (bx ak))) aR)
   (aj (aD 3 acx.nd (aJ My (aJ My (ie j (v3 0)) ao) (v3 1)))
   (aj (aD 4 acx.nd (aP m S rfl (aa (aG vN (ie j (v3 0)) (v3 2)) ak)))
   (aA (aL (bO rfl (bG (n0:=(aB (ack 34 1)).names) (N:=fU) (N':=["number","kind","done","self"]) (nt:=1) (cap:=[3,2,0]) rfl rfl (by decide +kernel)) (c7 (v3 4)) (fun cl R s H C0 fp=>⟨(aC 0 (n5 ["number","kind","done","self"])),(fB (dm (aP c S rfl (aa (ie j (v3 3)) (aa (ie j (v3 3)) (aa (v3 1) (aa (v3 2) (aa (v3 0) ak)))))))),(v3 0)⟩))))))),?_⟩
 walk_at "q";walk_at "h";have O:=tL.mk Z;clear Z;have t2:=q8 x;have t1:=m5 W;obtain⟨p,I,J⟩:=hw.ex;have f1:=uJ (W:=W) (eG:=eG) (p:=p);have f2:=Lf (W:=W) (eG:=eG) (p:=p);have f3:=G5 (W:=W) (eG:=eG) (p:=p);have f4:=uK (W:=W) (eG:=eG) (p:=p);have x1:=GZ hk;have F:=tL.mk I;have G:=tL.mk J;generalize wkF W eG p=fs at *;walk_at "s";rw[E_ (by omega),if_neg B_];walk_at "n";walk_at "s";walk_at "n";walk_at "s";refine⟨top2 W - 1 - d,by rw[show ((top2 W - 1 - d:Nat):Int)=(top2 W:Int) - 1 - (d:Int) by omega],by omega,fun pl r=>?_⟩;have n1:a≠pl:=bz I r;have n2:p≠pl:=bz J r;have z:=Bg (W:=W) (eG:=eG) (k:=k) x hd;have U:(uH (top2 W - 1 - d)).length<=256:=by unfold uH;exact P_ (Zr _ _) (by rw[z_];omega)
 have y:∀i∈uH (top2 W - 1 - d),i<top2 W:=fun i C=>by have:=X_.mp (A_.mp C).1;omega
 generalize uH (top2 W - 1 - d)=ps at *;have n:eH H3 (fY H3 pl (.lst (ps.map bD))):=eH.new r;have h1:=n _ _ F.out;have X:=n _ _ G.out;have Y:fY H3 pl (.lst (ps.map bD)) pl=some (.lst (ps.map bD)):=aq;generalize fY H3 pl (.lst (ps.map bD))=H4 at n h1 X Y ⊢;clear I J x1 f1 f4 n1 n2 r;walk_at "n";have u:=tL.mk y;have v:=tL.mk z;clear y z;walk_at "";walk_at "c";refine jo (still:=bh pl (ps.map bD)) (H:=H4) bD bD (fil W eG k d) ps [some (.str (W.row.getD k "")),some (.int (d:Int)),some (.ref a)] (.inl Y) (by omega) ?c1 ?c2 ?c3
 case c2=>exact fun i C _ Q' t=>t
 case c1 =>
  intro i C Q' t
  have L:=u.out i C
  have M:=tL.mk t
  clear O t
  simp only[bD]
  walk_at ""
  refine⟨W,p,eG,W.row.getD k "",pk W d,pk W i,?_,x,X,?_⟩
  ·
   rw[Xb x hd,Xb x L]
  ·
   exact M.out
 case c3 =>
  intro q t
  rw[v.out]
  refine t6.of ?_ (O.out q (cL n t))
  intro b o D
  by_cases e:b=q
  ·
   subst e;rw[aq] at D ⊢;exact D
  ·
   rw[aF e] at D ⊢;exact n b o D
abbrev cV:List Str:=["self","fillings"]
def oF:gk cV cV (aB (ack 34 4)):=bc
def oG {f:Addr} (g:GM K c "dealing_of" "Walk.dealing_of" (ack 34 4) cV f t) (B:Bl mg) (e:adq K c ["works","beat","rules","whole"]) (d:Ow P w K mg base 1 "tasks_of" (top 25) ["works","number"] Om):MtC P w K mg base c 2 "dealing_of" cV (Xe c):=by
 refine⟨g.cls,f,t,g.mt,g.b,?_⟩;refine fn3 g.fn oF (fun ts H Q h=>?_) (fun C A outer s H E ts H3 Q v h=>?_)
 ·obtain⟨a,W,eG,fs,rfl,_⟩:=h;rfl
 obtain⟨a,W,eG,fs,rfl,y,u,F,z,k⟩:=h;refine⟨_,(aA (aL (bf bW rfl B.tuple_ bC (aa (bO rfl (bG (n0:=(aB (ack 34 4)).names) (N:=cV) (N':=["filling","self"]) (nt:=1) (cap:=[0]) rfl rfl (by decide +kernel)) (bF (v3 1)) (fun J r s H M O=>⟨(aC 0 (n5 ["filling","self"])),bN,(aP d v rfl (aa (ie e (v3 1)) (aa (v3 0) ak)))⟩)) ak)))),?_⟩;walk_at "q";walk_at "h";have o:=tL.mk k;clear k;obtain⟨p,D,I⟩:=u.ex;have G:=uJ (W:=W) (eG:=eG) (p:=p);generalize wkF W eG p=R at *;walk_at "";walk_at "c";refine bH (still:=cI) (H:=H3) bD (fun i=>sT (pk W i)) fs [some (.ref a)] trivial (by omega) ?c1 ?c2
 case c1 =>
  intro i x L l
  have m:=z i x
  have j:((2^W.tasks.length:Nat):Int)=(2:Int)^W.tasks.length:=by push_cast;rfl
  have n:=tL.mk l
  clear o l
  simp only[bD]
  walk_at ""
  exact⟨W,(i:Int),rfl,y,abD _,by rw[<- j];exact Int.ofNat_lt.mpr m,n.out⟩
 case c2 =>
  intro q l
  have k:=o.out
  rw[U_] at k
  walk_at ""
  exact t6.of (eH.new l) k
abbrev jr:List Str:=["number","parts","worth"]
def aco:gk jr ["number"] (aB (top 33)):=bc
def uZ {f:Addr} (g:G3 K mg "parts_of" (top 33) ["number"] f fd) (B:Bl mg) (c:Ow P w K mg base 1 "has_all" (top 29) ["number","part"] zy):Ow P w K mg base 2 "parts_of" (top 33) ["number"] Oi:=by
 refine c6 g aco ?_;rintro _ _ _ s H _ _ H3 _ hr ⟨N,rfl,hN,k⟩;refine⟨_,(aj (aD 1 aco.nd (bx (aa ao ak)))
   (aj (aD 2 aco.nd ao)
   (aj (mz I_ (aU M3 (v3 2) (v3 0)) (aj (bA (dm (aP c hr rfl (aa (v3 0) (aa (v3 2) ak)))) (aA (aD 1 aco.nd (aG aW (v3 1) (bO rfl (b6 33 jr ["part","worth"] 1 [2]) (c7 (v3 1)) (fun cl pins s H C0 fp=>⟨(aC 0 (n5 ["part","worth"])),bN,(aG aW (v3 0) (v3 1))⟩))))) aR)
    (aA (aD 2 aco.nd (aG cW (v3 2) ao)))))
   (aA (aL (v3 1)))))),?_⟩
 walk_at "q";walk_at "h";have k':=tL.mk k;clear k;walk_at "s";refine⟨by decide,fun F I=>?_⟩;have y:eH H3 (fY H3 F (.lst [T.int 0])):=eH.new I;have V:fY H3 F (.lst [T.int 0]) F=some (.lst (((List.range (2^0)).filter (bK N)).map bD)):=by
  have h0:bK N 0=true:=by rw[f9];exact Nat.and_zero N
  rw[aq,show (List.range (2^0))=[0] from rfl,aa5,h0];rfl
 generalize fY H3 F (.lst [T.int 0])=H4 at y V ⊢;walk_at "n";walk_at "s";walk_at "n";refine au fun R2 U=>?_;refine⟨fun m Z H=>∃(j:Nat) (q:Addr),Z=[some (.int (N:Int)),some (.ref q),some (.int ((2^j:Nat):Int))]/\eH H3 H/\H3 q=none/\H q=some (.lst (((List.range (2^j)).filter (bK N)).map bD))/\m=512 - 2^j/\(∀i,i+1=j->2^i<=N),⟨_,0,F,rfl,y,I,V,rfl,(fun i h=>by omega)⟩,?_⟩;rintro m Z H ⟨j,q,rfl,O,D,t,rfl,hj⟩;have hj9:2^j<=256:=by
  cases j with
  |zero=>decide
  |succ i =>
   have h1:=hj i rfl
   have h2:i<8:=by
    rcases abO i 8 with z | z
    ·
     exact z
    ·
     have:=Nat.pow_le_pow_right (n:=2) (by decide) z
     omega
   exact P_ (Nat.pow_le_pow_right (by decide) (show i+1<=8 by omega)) (by decide)
 have hp:=Nat.pow_pos (n:=j) (show 0<2 by decide);walk_at "";by_cases v:2^j<=N
 ·have d:decide (((2^j:Nat):Int)<=(N:Int))=true:=N_ (Int.ofNat_le.mpr v);rw[d,if_pos rfl];have hlen:(((List.range (2^j)).filter (bK N))).length<=256:=P_ (Zr _ _) (by rw[z_];exact hj9);have l:=G4 (N:=N) (k:=j);have e2:((2^j:Nat):Int)*2=((2^(j+1):Nat):Int):=by rw[Nat.pow_succ];push_cast;rfl
  have cm:aed ((2^j:Nat):Int) 2:=.inl ⟨by omega,by omega⟩;have L:2^(j+1)=2^j*2:=by rw[Nat.pow_succ]
  have u:tL (∀(J:Addr) (H':gb),eH H3 H'->H3 J=none->H' J=some (.lst (((List.range (2^(j+1))).filter (bK N)).map bD))->∃m',m'<512 - 2^j/\∃(R:Nat) (q:Addr),([some (.int (N:Int)),some (.ref J),some (.int (((2^j:Nat):Int)*2))]:St3)=[some (.int (N:Int)),some (.ref q),some (.int ((2^R:Nat):Int))]/\eH H3 H'/\H3 q=none/\H' q=some (.lst (((List.range (2^R)).filter (bK N)).map bD))/\m'=512 - 2^R/\(∀i,i+1=R->2^i<=N)):=⟨fun J H' s1 s2 s3=>⟨_,by omega,j+1,J,by rw[e2],s1,s2,s3,rfl,fun i hi=>by rw[show i=j by omega];exact v⟩⟩;clear hj U k' V y e2 d L;generalize (List.range (2^(j+1))).filter (bK N)=nx at *;generalize hcur:(List.range (2^j)).filter (bK N)=a at *;refine⟨(N:Int),((2^j:Nat):Int),rfl,?_⟩;rw[show decide (Builtin.bitAnd (N:Int) ((2^j:Nat):Int)=((2^j:Nat):Int))=bK N (2^j) from rfl];generalize 2^j=p at *;cases x:bK N p with
  |false=>rw[x] at l;simp only[C_,Zv,W_] at l;simp only[gQ,C_,Zv];rw[<- l] at t;exact⟨by first | trivial | exact cm,u.out q _ O D t⟩
  |true =>
  rw[x] at l;simp only[if_true] at l;try simp only[gQ,if_true]
  walk_at "c";rw[t,yt];refine bH bD (fun i=>bD (i+p)) a [some (.int (p:Int))] (.inl t) (by omega) (fun i hi Q' r=>?_) (fun S C=>?_)
  ·simp only[bD] at r ⊢;rw[show ((i+p:Nat):Int)=(i:Int)+(p:Int) by push_cast;rfl] at r;have W:=tL.mk r;clear r u;walk_at "";exact W.out
  have Y:q≠S:=bz t C;rw[aF Y,t,jO];refine⟨by rw[d_,d_];omega,fun pq M=>?_⟩;have G:eH H3 (fY (fY H S (.lst (a.map fun i=>bD (i+p)))) pq (.lst (a.map bD++a.map fun i=>bD (i+p)))):=(O.trans (eH.new C)).trans (eH.new M);have X:H3 pq=none:=cL (O.trans (eH.new C)) M;have gq:fY (fY H S (.lst (a.map fun i=>bD (i+p)))) pq (.lst (a.map bD++a.map fun i=>bD (i+p))) pq=some (.lst (nx.map bD)):=by rw[aq,l,y_,U_];rfl
  generalize fY (fY H S (.lst (a.map fun i=>bD (i+p)))) pq (.lst (a.map bD++a.map fun i=>bD (i+p)))=H5 at G gq ⊢;exact⟨by first | trivial | exact cm,u.out pq _ G X gq⟩
 have d:decide (((2^j:Nat):Int)<=(N:Int))=false:=E_ (fun z=>v (Int.ofNat_le.mp z));rw[d,if_neg B_];rw[yV (by omega)] at t;walk_at "n";walk_at "";refine t6.of ?_ (k'.out q D);intro b o x;by_cases e:b=q
 ·subst e;rw[aq] at x;rw[t,x]
 rw[aF e] at x;exact O b o x
def vd:gk ["tasks"] ["tasks"] (aB (top 20)):=bc
def vf {f:Addr} (g:G3 K mg "names_of" (top 20) ["tasks"] f d) (B:Bl mg):Ow P w K mg base 1 "names_of" (top 20) ["tasks"] W9:=by
 refine c6 g vd ?_;rintro _ _ _ s H _ _ _ _ _ ⟨tk,rfl,p,k⟩;refine⟨_,(aA (aL (bO rfl (b6 20 ["tasks"] ["task"] 1 []) (bF (v3 0)) (fun o c s H q r=>⟨(aC 0 (n5 ["task"])),bN,(aJ My (v3 0) ao)⟩)))),?_⟩;walk_at "q";walk_at "h";have b:=tL.mk k;clear k;walk_at "";walk_at "c";refine bH tkT (fun t=>T.str t.1) tk [] trivial (by omega) (fun t m n j=>?_) (fun l a=>?_)
 ·clear b;simp only[tkT];walk_at "";try exact j
 have:=b.out l a;rw[U_] at this;exact t6.of eH.refl this
abbrev nM:List Str:=["works","rules","name","length","kinds","own","group","ahead","apart"]
def XS:gk nM ["works"] (aB (top 28)):=bc
def vg {f:Addr}{V:FuncData}(g:G3 K mg "rules_of" (top 28) ["works"] f V) (B:Bl mg) (d:Ow P w K mg base 1 "number_of" (top 24) ["works","tasks"] HR) (j:Ow P w K mg base 1 "apart_from" (top 27) ["works","task"] Oq) (l:Ow P w K mg base 3 "ahead_of" (top 10) ["works","task"] XN) (m:Ow P w K mg base 3 "group_of" (top 8) ["works","task"] T9):Ow P w K mg base 4 "rules_of" (top 28) ["works"] Ot:=by
 refine c6 g XS ?_;rintro _ A _ _ H _ _ H3 _ t ⟨⟨tk,b,prs,c⟩,rfl,r,k⟩;refine⟨_,(aj (aD 1 XS.nd (bx ak))
   (aj (bj I_ rfl (bF (aJ My (v3 0) ao)) (cA (n:=3) rfl (aH (aC 2 XS.nd) (aH (aC 3 XS.nd) (aH (aC 4 XS.nd) bI)))) (aj (aD 5 XS.nd (aP d t rfl (aa (v3 0) (aa (bB (aa (v3 2) ak)) ak))))
    (aj (aD 6 XS.nd (aP d t rfl (aa (v3 0) (aa (aP m t rfl (aa (v3 0) (aa (v3 2) ak))) ak))))
    (aj (aD 7 XS.nd (aP d t rfl (aa (v3 0) (aa (aP l t rfl (aa (v3 0) (aa (v3 2) ak))) ak))))
    (aj (aD 8 XS.nd (aP d t rfl (aa (v3 0) (aa (aP j t rfl (aa (v3 0) (aa (v3 2) ak))) ak))))
    (aA (bZ (dZ R_ Zf Zg bL (v3 1) (aa (bB (aa (v3 5) (aa (v3 3) (aa (v3 4) (aa (v3 6) (aa (v3 7) (aa (v3 8) ak))))))) ak)))))))))
   (aA (aL (v3 1))))),?_⟩
 walk_at "q";walk_at "h";have t8:tk.length<=8:=r.t8;walk_at "";refine⟨by omega,fun p R=>?_⟩;refine aZ tkT tk (fun A Z H=>∃(L v3 G O F I J:Option T) (u:gb),Z=[some (T.tup [T.tup (tk.map tkT),T.tup (b.map orT),T.tup (prs.map prT),T.tup (c.map T.str)]),some (.ref p),L,v3,G,O,F,I,J]/\H=fY u p (.lst (A.map (ruT ⟨tk,b,prs,c⟩ (tk.map (·.1)))))/\eH H3 u/\H3 p=none) ⟨none,none,none,none,none,none,none,H3,rfl,rfl,eH.refl,R⟩ ?_ ?_
 ·rintro Z H ⟨L,v3,G,O,F,I,J,u,rfl,rfl,D,_⟩;walk_at "t";walk_at "";refine t6.of (fun a o e=>?_) (k p R);by_cases h:a=p
  ·subst h;rw[aq] at e ⊢;exact e
  rw[aF h] at e ⊢;exact D _ _ e
 rintro A ⟨nm,y,X⟩ B Z H N e ⟨L,v3,G,O,F,I,J,u,rfl,rfl,D,_⟩ U;have S:A.length<=8:=by have:=Zk List.length e;simp only[g_,p_] at this;omega
 walk_at "t";have x:tL (∀q,fY u p (.lst (A.map (ruT ⟨tk,b,prs,c⟩ (tk.map (·.1))))) q=none->N [some (T.tup [T.tup (tk.map tkT),T.tup (b.map orT),T.tup (prs.map prT),T.tup (c.map T.str)]),some (.ref p),some (.str nm),some (.int y),some (sT X),some (.int (numOf (tk.map (·.1)) [nm])),some (.int (numOf (tk.map (·.1)) (bY ⟨tk,b,prs,c⟩ nm))),some (.int (numOf (tk.map (·.1)) (jq ⟨tk,b,prs,c⟩ nm))),some (.int (numOf (tk.map (·.1)) (jF ⟨tk,b,prs,c⟩ nm)))] (fY (fY (fY u p (.lst (A.map (ruT ⟨tk,b,prs,c⟩ (tk.map (·.1)))))) q (.lst ((jF ⟨tk,b,prs,c⟩ nm).map T.str))) p (.lst (A.map (ruT ⟨tk,b,prs,c⟩ (tk.map (·.1)))++[ruT ⟨tk,b,prs,c⟩ (tk.map (·.1)) (nm,y,X)])))):=⟨fun q z=>by
  obtain⟨C,v⟩:=cJ z
  refine U _ _ ⟨_,_,_,_,_,_,_,fY u q (.lst ((jF ⟨tk,b,prs,c⟩ nm).map T.str)),rfl,?_,D.trans (eH.new v),R⟩
  rw[y_,Dk (Ne.symm C),qe]
  rfl⟩
 have M:(A.map (ruT ⟨tk,b,prs,c⟩ (tk.map (·.1)))).length<=8:=by rw[d_];exact S
 generalize A.map (ruT ⟨tk,b,prs,c⟩ (tk.map (·.1)))=Y at x M;clear U e k S;simp only[tkT];walk_at "";refine⟨trivial,by omega,⟨tk,b,prs,c⟩,_,[nm],rfl,r,.inl rfl,?_⟩;walk_at "";refine⟨⟨tk,b,prs,c⟩,nm,rfl,r,?_⟩;try dsimp only
 refine⟨⟨tk,b,prs,c⟩,_,bY ⟨tk,b,prs,c⟩ nm,rfl,r,.inl rfl,?_⟩;walk_at "";refine⟨⟨tk,b,prs,c⟩,nm,rfl,r,?_⟩;try dsimp only
 refine⟨⟨tk,b,prs,c⟩,_,jq ⟨tk,b,prs,c⟩ nm,rfl,r,.inl rfl,?_⟩;walk_at "";refine⟨⟨tk,b,prs,c⟩,nm,rfl,r,fun q z=>?_⟩;obtain⟨C,v⟩:=cJ z;have n1':=Ne.symm C;try dsimp only
 refine⟨⟨tk,b,prs,c⟩,_,jF ⟨tk,b,prs,c⟩ nm,rfl,r,.inr ⟨q,rfl,aq⟩,?_⟩;walk_at "";exact⟨⟨trivial,trivial⟩,by omega,by omega,x.out q z⟩
abbrev d8:List Str:=["rules","beat","kind","done","number","load","own","length","kinds","group","ahead","apart"]
def nT:gk d8 ["rules","beat","kind","done","number"] (aB (top 30)):=bc
def iC {f:Addr} (g:G3 K mg "is_filling_number" (top 30) ["rules","beat","kind","done","number"] f fd) (B:Bl mg) (b:Ow P w K mg base 1 "has_all" (top 29) ["number","part"] zy) (d:Ow P w K mg base 1 "may_be_done" (top 16) ["kinds","kind"] Oo):Ow P w K mg base 2 "is_filling_number" (top 30) ["rules","beat","kind","done","number"] Ou:=by
 refine c6 g nT ?_;rintro _ A _ _ H _ _ H3 Q L ⟨W,a,eG,c,D,S,rfl,hW,ha,k⟩;have O:=tR.u30 L;refine⟨_,(aj (aD 5 nT.nd ao)
   (aj (bj I_ rfl (c7 (v3 0)) (cA (n:=6) rfl (aH (aC 6 nT.nd) (aH (aC 7 nT.nd) (aH (aC 8 nT.nd) (aH (aC 9 nT.nd) (aH (aC 10 nT.nd) (aH (aC 11 nT.nd) bI))))))) (aA (bA (dm (aP b L rfl (aa (v3 4) (aa (v3 6) ak)))) (aj (bA (PW3.pt (j8 (dm (aP b L rfl (aa (v3 3) (aa (v3 6) ak)))) (je (gD (dm (aP d L rfl (aa (v3 8) (aa (v3 2) ak)))))))) (aA (aL cP)) aR)
     (aj (bA (PW3.pt (j8 (gD (dm (aP b L rfl (aa (v3 4) (aa (v3 9) ak))))) (je (gD (dm (aP b L rfl (aa (aG Wa (v3 4) (v3 3)) (aa (v3 10) ak)))))))) (aA (aL cP)) aR)
     (aj (bA (aU (gM O) (aG Ea (v3 4) (v3 11)) ao) (aA (aL cP)) aR)
     (aA (aD 5 nT.nd (aG aW (v3 5) (v3 7))))))) aR)))
   (aA (aL (dO M3 (v3 5) (v3 1)))))),?_⟩
 walk_at "q";walk_at "h";walk_at "";refine aZ (ruT W (W.tasks.map (·.1))) W.tasks (fun A Z H=>∃(y G I J m l:Option T),Z=[some (.ref a),some (.int eG),some (.str c),some (.int (numOf (W.tasks.map (·.1)) D)),some (.int (numOf (W.tasks.map (·.1)) S)),some (.int (cR A S)),y,G,I,J,m,l]/\H=H3/\(A.all fun t=>!decide (t.1∈S)||okT W c D S t)=true) ⟨none,none,none,none,none,none,rfl,rfl,rfl⟩ ?_ ?_
 ·rintro Z H ⟨y,G,I,J,m,l,rfl,rfl,o⟩;refine⟨.inl ha,?_⟩;walk_at "";refine t6.of eH.refl ?_;unfold wZ at k;rw[o,ab6] at k;exact k
 rintro A t B Z H N e ⟨y,G,I,J,m,l,rfl,rfl,o⟩ hN;refine⟨.inl ha,?_⟩;have C:t∈W.tasks:=by rw[e];simp
 have F:t.1∈W.tasks.map (·.1):=u_.mpr ⟨t,C,rfl⟩;have r:∀x∈bY W t.1,x∈W.tasks.map (·.1):=fun x j=>(A_.mp j).1;have u:∀x∈jq W t.1,x∈W.tasks.map (·.1):=fun x j=>(A_.mp j).1;have v:∀x∈jF W t.1,x∈W.tasks.map (·.1):=fun x j=>by obtain⟨p,hp,rfl⟩:=u_.mp j;exact (hW.pp p (A_.mp hp).1).2.2.2
 have b1:decide (Builtin.bitAnd (numOf (W.tasks.map (·.1)) S) (numOf (W.tasks.map (·.1)) [t.1])=numOf (W.tasks.map (·.1)) [t.1])=decide (t.1∈S):=by rw[Zn,q_,q_];exact yP F
 have b2:decide (Builtin.bitAnd (numOf (W.tasks.map (·.1)) D) (numOf (W.tasks.map (·.1)) [t.1])=numOf (W.tasks.map (·.1)) [t.1])=decide (t.1∈D):=by rw[Zn,q_,q_];exact yP F
 have b3:decide (Builtin.bitAnd (numOf (W.tasks.map (·.1)) S) (numOf (W.tasks.map (·.1)) (bY W t.1))=numOf (W.tasks.map (·.1)) (bY W t.1))=@decide (∀x∈bY W t.1,x∈S) (Classical.propDecidable _):=by rw[Zn,q_,@q_ _ (Classical.propDecidable _),fJ];exact⟨fun h x j=>h x (r x j) j,fun h x _ j=>h x j⟩
 have b4:decide (Builtin.bitAnd (Builtin.bitOr (numOf (W.tasks.map (·.1)) S) (numOf (W.tasks.map (·.1)) D)) (numOf (W.tasks.map (·.1)) (jq W t.1))=numOf (W.tasks.map (·.1)) (jq W t.1))=@decide (∀x∈jq W t.1,x∈S++D) (Classical.propDecidable _):=by rw[Zn,q_,@q_ _ (Classical.propDecidable _),Sy,fJ];exact⟨fun h x j=>h x (u x j) j,fun h x _ j=>h x j⟩
 have b5:decide (Builtin.bitAnd (numOf (W.tasks.map (·.1)) S) (numOf (W.tasks.map (·.1)) (jF W t.1))=0)=@decide (∀x∈jF W t.1,x∉S) (Classical.propDecidable _):=by rw[Zn,q_,@q_ _ (Classical.propDecidable _),qW];exact⟨fun h x j hs=>h x (v x j) ⟨hs,j⟩,fun h x _ z=>h x z.2 z.1⟩
 have q:tL (t.1∈S->okT W c D S t=false->t6 Q (.bl false) H):=⟨fun h1 h2=>by
  refine t6.of eH.refl ?_
  have e0:wZ W eG c D S=false:=by
   unfold wZ
   rw[Bool.and_eq_false_iff]
   refine .inl ?_
   rw[List.all_eq_false]
   exact⟨t,C,by simp [h1,h2]⟩
  rw[e0] at k
  exact k⟩
 have M:tL (∀(y G I J m l:Option T),(t.1∈S->okT W c D S t=true)->N [some (.ref a),some (.int eG),some (.str c),some (.int (numOf (W.tasks.map (·.1)) D)),some (.int (numOf (W.tasks.map (·.1)) S)),some (.int (cR A S+if t.1∈S then t.2.1 else 0)),y,G,I,J,m,l] H):=⟨fun y G I J m l h=>hN _ _ ⟨y,G,I,J,m,l,by rw[w5],rfl,by
  rw[List.all_append,o]
  by_cases z:t.1∈S
  ·
   simp [h z]
  ·
   simp [z]⟩⟩
 clear hN o k e r u v F C;obtain⟨nm,len,ks⟩:=t;dsimp only at *;generalize numOf (W.tasks.map (·.1)) D=nD at *;generalize numOf (W.tasks.map (·.1)) S=R at *;simp only[ruT];generalize numOf (W.tasks.map (·.1)) [nm]=n1 at *;generalize numOf (W.tasks.map (·.1)) (bY W nm)=n2 at *;generalize numOf (W.tasks.map (·.1)) (jq W nm)=n3 at *;generalize numOf (W.tasks.map (·.1)) (jF W nm)=n4 at *;unfold okT at q M;dsimp only at q M;generalize Y:decide (nm∈D)=c1 at *;generalize U:@decide (∀x∈bY W nm,x∈S) (Classical.propDecidable _)=c3 at *;generalize V:@decide (∀x∈jq W nm,x∈S++D) (Classical.propDecidable _)=c4 at *;generalize X:@decide (∀x∈jF W nm,x∉S) (Classical.propDecidable _)=c5 at *;clear Y U V X;walk_at "";refine⟨trivial,R,n1,rfl,?_⟩;rw[b1];by_cases hS:nm∈S
 ·simp only[hS,aaF,if_true,gQ,true_implies] at q M ⊢;refine⟨nD,n1,rfl,?_⟩;rw[b2];cases c1 with
  |true =>
   try simp only[gQ,if_true]
   exact q.out (by simp)
  |false =>
  simp only[gQ,C_,Zv];refine⟨ks,c,rfl,?_⟩;generalize kZ ks c=c2 at *;cases c2 with
  |false=>simp only[gQ,aaP,if_true];exact q.out (by simp)
  |true =>
  simp only[gQ,aa4,C_,Zv];refine⟨R,n2,rfl,?_⟩;rw[b3];cases c3 with
  |false=>simp only[gQ,aaP,if_true];exact q.out (by simp)
  |true =>
  simp only[gQ,aa4,C_,Zv];refine⟨Builtin.bitOr R nD,n3,rfl,?_⟩;rw[b4];cases c4 with
  |false=>simp only[gQ,aaP,if_true];exact q.out (by simp)
  |true =>
  simp only[gQ,aa4,C_,Zv];try rw[b5]
  cases c5 with
  |false=>simp only[aaP,if_true];exact q.out (by simp)
  |true =>
  simp only[aa4,C_,Zv];exact M.out _ _ _ _ _ _ (by simp)
 simp only[hS,aap,C_,Zv,gQ,Int.add_zero,false_implies] at q M ⊢;exact M.out _ _ _ _ _ _ (by first | trivial | simp)
abbrev nO:List Str:=["works","number","tasks","left","task"]
def acl:gk nO ["works","number"] (aB (top 25)):=bc
def vh {f:Addr} (g:G3 K mg "tasks_of" (top 25) ["works","number"] f y) (B:Bl mg):Ow P w K mg base 1 "tasks_of" (top 25) ["works","number"] Om:=by
 refine c6 g acl ?_;rintro _ A _ _ H _ _ H3 _ D ⟨⟨tk,b,prs,c⟩,n,rfl,F,n0,O,k⟩;have m:=tR.u30 D;refine⟨_,(aj (aD 2 acl.nd (bx ak))
   (aj (aD 3 acl.nd (v3 1))
   (aj (bj I_ rfl (bF (aJ My (v3 0) ao)) (aC 4 acl.nd) (aj (bA (aU (dC m) (aG aV (v3 3) ao) ao) (aA (bZ (dZ R_ Zf Zg bL (v3 2) (aa (aJ My (v3 4) ao) ak)))) aR)
    (aA (aD 3 acl.nd (aG aX (v3 3) ao)))))
   (aA (aL (bf bW rfl B.tuple_ bC (aa (v3 2) ak))))))),?_⟩
 walk_at "q";walk_at "h";have R:tk.length<=8:=F.t8;walk_at "";refine⟨by omega,fun p M=>?_⟩;refine iI (fun r Z H=>∃(A B:List (Str × Int × List Str)) (v:Option T),tk=A++B/\r=B.map tkT/\H=fY H3 p (.lst ((pick (A.map (·.1)) n).map T.str))/\Z=[some (T.tup [T.tup (tk.map tkT),T.tup (b.map orT),T.tup (prs.map prT),T.tup (c.map T.str)]),some (.int n),some (.ref p),some (.int (n / 2^A.length)),v]) ⟨[],tk,none,rfl,rfl,rfl,by simp⟩ ?_ ?_
 ·rintro Z H ⟨A,B,v,j,e,rfl,rfl⟩;have J:B=[]:=abp.mp e.symm;subst J;rw[W_] at j;subst j;clear e;walk_at "t";walk_at "";exact t6.of (eH.new M) k
 rintro x r Z H N ⟨A,B,v,j,e,rfl,rfl⟩ u;cases B with
 |nil=>cases e
 |cons t B =>
 rw[H_,List.cons.injEq] at e;obtain⟨rfl,rfl⟩:=e;have L:A.length+1<=8:=by have:=Zk List.length j;simp only[g_,p_] at this;omega
 have d:=uC (A.map (·.1)) [t.1] n;simp only[pick,d_] at d;have o:=yU (A.map (·.1)) n;rw[d_] at o;have l:n / 2^A.length / 2=n / 2^(A++[t]).length:=by rw[g_,K_,ab2,Int.ediv_ediv_of_nonneg (Int.le_of_lt (Int.pow_pos (by decide)))]
 have a:∀v,N [some (T.tup [T.tup (tk.map tkT),T.tup (b.map orT),T.tup (prs.map prT),T.tup (c.map T.str)]),some (.int n),some (.ref p),some (.int (n / 2^A.length / 2)),v] (fY H3 p (.lst ((pick (A.map (·.1)++[t.1]) n).map T.str))):=fun v=>by rw[l];exact u _ _ ⟨A++[t],B,v,by rw[j];simp,rfl,by simp,rfl⟩
 rw[d] at a;replace a:=tL.mk a;obtain⟨nm,q,G⟩:=t;walk_at "t";clear u j k d l;simp only[tkT,sT];walk_at "";try simp only[true_and]
 refine⟨by decide,?_⟩;by_cases z:n / 2^A.length%2=1
 ·simp only[z,if_true,aaF] at a ⊢;refine⟨by omega,?_⟩;have C:=a.out (some (T.tup [T.str nm,T.int q,T.tup (G.map T.str)]));rw[y_] at C;exact⟨⟨by decide,by decide +kernel⟩,C⟩
 simp only[z,Zv,aap,C_,W_] at a ⊢;exact⟨⟨by decide,by decide +kernel⟩,a.out _⟩
end
def HS (K:Frag):Bool:=K.all fun p=>!(p.2.cls==.type "list")
def HW {K:Frag} (e:K.lookup a=some o):(a,o)∈K:=by
 induction K with
 |nil=>cases e
 |cons p r c =>
 obtain⟨b,u⟩:=p;rw[aan] at e;split at e
 ·rename_i h;rw[eq_of_beq h,D_ e];exact l_
 exact o_ _ (c e)
def Bs {K:Frag} (h:HS K=true) (e:K.lookup a=some o):o.cls≠.type "list":=fun z=>by
 have b:(a,o)∈K:=HW e;have q:=aay.mp h (a,o) b;rw[z] at q;simp at q
def uc (h:us.length=n+1):∃(a:Value) (r:List Value),us=a::r/\r.length=n:=by
 cases us with
 |nil=>exact nomatch h
 |cons a r=>exact⟨a,r,rfl,Nat.succ.inj h⟩
def uz {us:List Value}(h:us.length=0):us=[]:=aau h
def ub1 (h:∀a:Value,bindArgs c ⟨[a],[]⟩=pure ([b].zip [a])) (us:List Value) (e:us.length=1):bindArgs c ⟨us,[]⟩=pure ([b].zip us):=by
 obtain⟨a,g,d,f⟩:=uc e;rw[d,uz f];exact h a
def ub2 {f:FuncData} (h:∀a b:Value,bindArgs f ⟨[a,b],[]⟩=pure ([c,d].zip [a,b])) (us:List Value) (e:us.length=2):bindArgs f ⟨us,[]⟩=pure ([c,d].zip us):=by
 obtain⟨a,l,g,k⟩:=uc e;obtain⟨b,m,i,j⟩:=uc k;rw[g,i,uz j];exact h a b
def ub3 {f g d:Str} (h:∀b c a:Value,bindArgs i ⟨[b,c,a],[]⟩=pure ([f,g,d].zip [b,c,a])) (us:List Value) (e:us.length=3):bindArgs i ⟨us,[]⟩=pure ([f,g,d].zip us):=by
 obtain⟨b,p,j,o⟩:=uc e;obtain⟨c,q,l,n⟩:=uc o;obtain⟨a,r,m,k⟩:=uc n;rw[j,l,m,uz k];exact h b c a
def ub4 {f:FuncData} (h:∀d b a c:Value,bindArgs f ⟨[d,b,a,c],[]⟩=pure ([i,k,g,j].zip [d,b,a,c])) (us:List Value) (e:us.length=4):bindArgs f ⟨us,[]⟩=pure ([i,k,g,j].zip us):=by
 obtain⟨d,t,q,p⟩:=uc e;obtain⟨b,u,l,o⟩:=uc p;obtain⟨a,v,n,m⟩:=uc o;obtain⟨c,w,s,r⟩:=uc m;rw[q,l,n,s,uz r];exact h d b a c
def ub5 (h:∀f b a d c:Value,bindArgs i ⟨[f,b,a,d,c],[]⟩=pure ([k,m,j,l,g].zip [f,b,a,d,c])) (us:List Value) (e:us.length=5):bindArgs i ⟨us,[]⟩=pure ([k,m,j,l,g].zip us):=by
 obtain⟨f,x,t,s⟩:=uc e;obtain⟨b,y,n,r⟩:=uc s;obtain⟨a,z,p,o⟩:=uc r;obtain⟨d,B,w,u⟩:=uc o;obtain⟨c,A,v,q⟩:=uc u;rw[t,n,p,w,v,uz q];exact h f b a d c
def ub6 (h:∀g b a d c f:Value,bindArgs j ⟨[g,b,a,d,c,f],[]⟩=pure ([l,n,k,m,i,o].zip [g,b,a,d,c,f])) (us:List Value) (e:us.length=6):bindArgs j ⟨us,[]⟩=pure ([l,n,k,m,i,o].zip us):=by
 obtain⟨g,B,w,v⟩:=uc e;obtain⟨b,C,p,u⟩:=uc v;obtain⟨a,E,r,q⟩:=uc u;obtain⟨d,G,A,x⟩:=uc q;obtain⟨c,F,z,s⟩:=uc x;obtain⟨f,D,t,y⟩:=uc s;rw[w,p,r,A,z,t,uz y];exact h g b a d c f
def Zd {K:Frag}{st:Stmt}{f:Addr}{kV d e b i:Value} (X:K.In h) (G:h.Ns mainGlobals m) (a:nsIn K mainGlobals x=some (some (.ref f))) (l:K.lookup f=some ⟨o,od,.func (fnOf x x (cN st) (cj st) (aB st) .none kV d e g b i),j⟩) (c:codeIn K b x=true) (k:keepIn K (.ref f)=true) (n:∀(kV d e:Value) (g:Option Addr) (b i:Value) (us:List Value),us.length=ps.length->bindArgs (fnOf x x (cN st) (cj st) (aB st) .none kV d e g b i) ⟨us,[]⟩=pure (ps.zip us)):
  G3 K m x st ps f (fnOf x x (cN st) (cj st) (aB st) .none kV d e g b i) :=
 have F:=Ci (st:=st) l c k
 ⟨F,F.binds n,mg_of X G a⟩
def cF (i:Nat) (ps:List Str) (x:Str) (f:Addr) (m:Str) (t c:Nat) {K:Frag} (X:K.In h) (G:h.Ns mainGlobals b) (d:∀(kV doc pm:Value) (an:Option Addr) (cdv ct:Value) (us:List Value),us.length=ps.length->bindArgs (fnOf x x (cN (top i)) (cj (top i)) (aB (top i)) .none kV doc pm an cdv ct) ⟨us,[]⟩=pure (ps.zip us):=by first | exact fun _ _ _ _ _ _=>ub1 fun _=>rfl | exact fun _ _ _ _ _ _=>ub2 fun _ _=>rfl | exact fun _ _ _ _ _ _=>ub3 fun _ _ _=>rfl | exact fun _ _ _ _ _ _=>ub4 fun _ _ _ _=>rfl | exact fun _ _ _ _ _ _=>ub5 fun _ _ _ _ _=>rfl | exact fun _ _ _ _ _ _=>ub6 fun _ _ _ _ _ _=>rfl) (a:nsIn K mainGlobals x=some (some (.ref f)):=by kernel_rfl) (l:K.lookup f=some (fO i x m t c):=by kernel_rfl) (e:codeIn K (.ref c) x=true:=by kernel_rfl) (k:keepIn K (.ref f)=true:=by kernel_rfl):
  G3 K b x (top i) ps f (fnOf x x (cN (top i)) (cj (top i)) (aB (top i)) .none .none .none (.str m t) none (.ref c) .none) :=
 Zd X G a l e k d
def XQ:Stmt->Pos->Pos
 |.FunctionDef _ _ _ _ _ _ _ _ _ p,_=>p
 |_,p=>p
def dv:DefRec:=⟨"law",cN (top 56),cj (top 56),aB (top 56),XQ (top 56) default⟩
def vm {K:Frag}(n q:Str) (st:Stmt) (f:Addr) (m:Str) (t c:Nat) (l:K.lookup f=some (fQ st n q m t c):=by kernel_rfl) (e:codeIn K (.ref c) q=true:=by kernel_rfl) (k:keepIn K (.ref f)=true:=by kernel_rfl):Fun K n q st f (fnOf n q (cN st) (cj st) (aB st) .none .none .none (.str m t) none (.ref c) .none):=Ci l e k
def afV {l:PySem.W.OpenLaw} (X:(KK w.params).In h) (G:h.Ns mainGlobals mg) (hfa:mg "law"=some (.ref fa)):
  ∃fd:FuncData,(∀(s:Shared) (v:Value),BindsTo s fd ⟨[v],[]⟩ [("_law_script",v)])/\∀base:Heap,(KK w.params).In base->base.Ns mainGlobals mg->j9 l.prog w (KK w.params) mg base 10 fa fd ["_law_script"] zm:=by
 have c:∀{n:Str} {v:Value},nsIn (KK w.params) mainGlobals n=some (some v)->mg n=some v:=fun e=>mg_of X G e;have u3:∀{n:Str},nsIn (KK w.params) mainGlobals n=some none->mg n=none:=fun e=>PySem.W.mg_none_of X G e;have e:=hfa.symm.trans (c (v:=.ref 365) (by kernel_rfl));cases e;have B:Bl mg:=by constructor <;> exact u3 (by kernel_rfl)
 refine⟨fnOf "law" "law" (cN (top 56)) (cj (top 56)) (aB (top 56)) .none .none .none (.str mlw 564) none (.ref 364) .none,fun s v=>.of_eq rfl,fun base _ _=>?_⟩;have i:Cls (KK w.params) 235:=⟨by kernel_rfl,by kernel_rfl,by kernel_rfl,by kernel_rfl⟩;have ua:∀n∈(["works","beat","rules","whole"]:List Str),findIn (KK w.params) (.ref 235) n=some none:=fun n hn=>by simp only[n_,L_,aaa] at hn;rcases hn with rfl | rfl | rfl | rfl <;> kernel_rfl
 have g:adq (KK w.params) 235 ["works","beat","rules","whole"]:=⟨i,ua⟩;have t:=vm (K:=KK w.params) "__init__" "Walk.__init__" (ack 34 0) 208 "stationrow.walks" 447 207;have g_Walk:GI (KK w.params) mg 235 "Walk" "Walk.__init__" (ack 34 0) ["self","works","beat"] 208 _:=⟨⟨by kernel_rfl,by kernel_rfl,by kernel_rfl,by kernel_rfl⟩,t,t.binds fun _ _ _ _ _ _=>ub3 fun _ _ _=>rfl,c (v:=.ref 235) (by kernel_rfl)⟩;have a:=vm (K:=KK w.params) "fillings_at" "Walk.fillings_at" (ack 34 1) 213 "stationrow.walks" 447 212;have O:GM (KK w.params) 235 "fillings_at" "Walk.fillings_at" (ack 34 1) ["self","stand","done"] 213 _:=⟨i,a,a.binds fun _ _ _ _ _ _=>ub3 fun _ _ _=>rfl,⟨by kernel_rfl,by kernel_rfl,by kernel_rfl⟩⟩;have b:=vm (K:=KK w.params) "greatest_at" "Walk.greatest_at" (ack 34 2) 220 "stationrow.walks" 447 219;have J:GM (KK w.params) 235 "greatest_at" "Walk.greatest_at" (ack 34 2) ["self","stand","done"] 220 _:=⟨i,b,b.binds fun _ _ _ _ _ _=>ub3 fun _ _ _=>rfl,⟨by kernel_rfl,by kernel_rfl,by kernel_rfl⟩⟩;have d:=vm (K:=KK w.params) "dealing_of" "Walk.dealing_of" (ack 34 4) 232 "stationrow.walks" 447 231;have Y:GM (KK w.params) 235 "dealing_of" "Walk.dealing_of" (ack 34 4) ["self","fillings"] 232 _:=⟨i,d,d.binds fun _ _ _ _ _ _=>ub2 fun _ _=>rfl,⟨by kernel_rfl,by kernel_rfl,by kernel_rfl⟩⟩;have Q:=vm (K:=KK w.params) "__init__" "TooLong.__init__" (ack 13 0) 105 "stationrow.errors" 271 104;obtain⟨uj,ve⟩:=KH (K:=KK w.params) (C:=108) (by kernel_rfl) (by kernel_rfl) (by kernel_rfl);have vr:∀n∈(["tasks","length"]:List Str),findIn (KK w.params) (.ref 108) n=some none:=fun n hn=>by simp only[n_,L_,aaa] at hn;rcases hn with rfl | rfl <;> kernel_rfl
 have vb:af1 l.prog w (KK w.params) mg base "TooLong" 108 ["tasks","length"]:=⟨c (v:=.ref 108) (by kernel_rfl),⟨105,_,["self","tasks","length"],uj,⟨by kernel_rfl,by kernel_rfl,by kernel_rfl⟩,ve,xF Q,Q.binds fun _ _ _ _ _ _=>ub3 fun _ _ _=>rfl⟩,vr,by decide,nofun⟩;have uu:afT (KK w.params) mg "NoRoom" 120:=⟨c (v:=.ref 120) (by kernel_rfl),⟨by kernel_rfl,by kernel_rfl⟩⟩;have k:=Mg (P:=l.prog) (w:=w) (base:=base) (cF 41 ["_law_script","_law_k"] "_law_cell" 274 mlw 564 273 X G) B;have p:=Mh (P:=l.prog) (w:=w) (base:=base) (cF 42 ["_law_cell_here"] "_law_word" 281 mlw 564 280 X G) B;have D:=Br (P:=l.prog) (w:=w) (base:=base) (cF 43 ["_law_words"] "_law_unlike" 288 mlw 564 287 X G) B;have x:=Mi (cF 44 ["_law_cell_here"] "_law_pool" 295 mlw 564 294 X G) B p D;have N:=Mj (cF 45 ["_law_cell_here","_law_row","_law_pool_here","_law_unit"] "_law_task" 302 mlw 564 301 X G) B p;have u5:=HF (cF 46 ["_law_script","_law_names","_law_some"] "_law_links" 307 mlw 564 306 X G) B k;have vk:=HH (cF 47 ["_law_script","_law_most","_law_wide"] "_law_works" 312 mlw 564 311 X G) B k x N D u5;have vt:=HJ (P:=l.prog) (w:=w) (base:=base) (cF 48 ["_law_works_here","_law_stands"] "_law_loads" 319 mlw 564 318 X G) B;have ur:=Ml (cF 49 ["_law_cell_here","_law_works_here","_law_stands"] "_law_beat" 324 mlw 564 323 X G) B vt;have vu:=HN (cF 50 ["_law_script","_law_most","_law_wide"] "_law_drawn" 331 mlw 564 330 X G) B vk ur k;have vv:=Hw (P:=l.prog) (w:=w) (base:=base) (cF 51 ["_law_works_here","_law_cell_here"] "_law_moved" 338 mlw 564 337 X G) B;have r:=rG (P:=l.prog) (w:=w) (base:=base) (cF 24 ["works","tasks"] "number_of" 151 "stationrow.sets" 368 150 X G) B;have Z:=oE (P:=l.prog) (w:=w) (base:=base) (cF 27 ["works","task"] "apart_from" 163 "stationrow.fillings" 392 162 X G) B;have q:=jH (P:=l.prog) (w:=w) (base:=base) (cF 7 ["works","found","other"] "in_first_alone" 57 "stationrow.chains" 194 56 X G) B;have R:=xn (P:=l.prog) (w:=w) (base:=base) (cF 3 ["links","start"] "reached" 35 "stationrow.chains" 194 34 X G) B;have A:=uQ (P:=l.prog) (w:=w) (base:=base) (cF 2 ["works"] "links_of" 28 "stationrow.chains" 194 27 X G) B;have z:=uT (cF 5 ["works","task"] "led_from" 47 "stationrow.chains" 194 46 X G) B R A;have E:=Bq (cF 4 ["works","task"] "led_to" 42 "stationrow.chains" 194 41 X G) B R A;have vl:=uX (cF 10 ["works","task"] "ahead_of" 78 "stationrow.chains" 194 77 X G) B q z E;have vn:=xu (P:=l.prog) (w:=w) (base:=base) (cF 6 ["works","found","other"] "in_both" 52 "stationrow.chains" 194 51 X G) B;have y:=uV (cF 8 ["works","task"] "group_of" 64 "stationrow.chains" 194 63 X G) B vn E z
 have va:=vg (cF 28 ["works"] "rules_of" 170 "stationrow.fillings" 392 169 X G) B r Z vl y;have ub:=vf (P:=l.prog) (w:=w) (base:=base) (cF 20 ["tasks"] "names_of" 139 "stationrow.texts" 352 138 X G) B;have vc:=Mp g_Walk B g va r ub;have o:=xJ (P:=l.prog) (w:=w) (base:=base) (cF 29 ["number","part"] "has_all" 177 "stationrow.fillings" 392 176 X G) B;have j:=iW (cF 31 ["numbers"] "greatest_numbers" 189 "stationrow.fillings" 392 188 X G) B o;have u7:=uZ (cF 33 ["number"] "parts_of" 194 "stationrow.walks" 447 193 X G) B o;have I:=nG (P:=l.prog) (w:=w) (base:=base) (cF 16 ["kinds","kind"] "may_be_done" 129 "stationrow.checks" 334 128 X G) B;have f:=iC (cF 30 ["rules","beat","kind","done","number"] "is_filling_number" 184 "stationrow.fillings" 392 183 X G) B o I;have M:=nJ O B g u7 f;have L:=nA J B g j M
 have T:=nq (cF 36 ["walk","stand","ways"] "ways_behind" 246 "stationrow.dealt" 517 245 X G) B g L
 have uk:=vh (P:=l.prog) (w:=w) (base:=base) (cF 25 ["works","number"] "tasks_of" 158 "stationrow.sets" 368 157 X G) B;have U:=oG Y B g uk;have m:=ou (cF 37 ["works","beat","many"] "dealing_to" 253 "stationrow.dealt" 517 252 X G) B g vc T U;have S:=rE (cF 9 ["works"] "groups_of" 71 "stationrow.chains" 194 70 X G) B y;have u8:=xm (P:=l.prog) (w:=w) (base:=base) (cF 22 ["works","tasks"] "load_of" 144 "stationrow.dealings" 360 143 X G) B;have H:=lr (cF 38 ["works","beat"] "check_groups" 260 "stationrow.dealt" 517 259 X G) B vb S u8;have u:=jY (cF 39 ["works","beat"] "fewest_stands" 267 "stationrow.dealt" 517 266 X G) B uu m H;have u6:=Bo (C_RowError:=88) (C_TooLong:=108) (C_NoRoom:=120) (cF 55 ["_law_works_here","_law_beat_here"] "_law_fewest" 360 mlw 564 359 X G) B ⟨c (v:=.ref 88) (by kernel_rfl),⟨by kernel_rfl,by kernel_rfl⟩⟩ (fun C h=>by rcases h with rfl | rfl <;> kernel_rfl) u;have ui:=rD (cF 54 ["_law_works_here","_law_cell_here"] "_law_otherwise" 353 mlw 564 352 X G) B x;have F:=lu (P:=l.prog) (w:=w) (base:=base) (cF 18 ["works"] "turned_about" 134 "stationrow.works" 344 133 X G) B;have u4:=HQ (P:=l.prog) (w:=w) (base:=base) (cF 52 ["_law_works_here","_law_beat_here","_law_dealing"] "_law_right" 343 mlw 564 342 X G) B;have V:=oh (cF 53 ["_law_works_here","_law_beat_here","_law_many","_law_found"] "_law_is_dealing" 348 mlw 564 347 X G) B u4;exact T4 (cF 56 ["_law_script"] "law" 365 mlw 564 364 X G) B vu vv m u6 ui F V
def walk {l:PySem.W.OpenLaw}{K:Params->Frag} (G:l.most=some 63) (p:d.params.defaults=[]) (I:∀(w:World) (h:Heap),YP w h->(K w.params).In h) (g:∀w:World,HS (K w.params)=true) (F:∀(w:World) (mg:Str->Option Value) (fa:Addr) (h:Heap),(K w.params).In h->h.Ns mainGlobals mg->mg d.name=some (.ref fa) ->
   ∃fd:FuncData,(∀(s:Shared) (u:Value),BindsTo s fd ⟨[u],[]⟩ [("_law_script",u)])/\∀base:Heap,(K w.params).In base->base.Ns mainGlobals mg->j9 l.prog w (K w.params) mg base 10 fa fd ["_law_script"] zm):
  PySem.W.WalkO q loose XP YP l.row.toRowW d [] (fun f vs=>PySem.call f vs):=by
 refine L2.aeV (n:=63) (k:=10) (x:="_law_script") (CX:=fun _=>CX0) (sp:=fun w=>sI (K w.params) zm) G (by decide) p ⟨rfl,by decide,by decide,rfl⟩ I F (fun w H a ns D J i=>?_) fun _ _ _ _ _ z=>z;refine⟨[.ref a],fun b=>if b=a then some (.rol (ns.map T.int)) else none,fun t _=>t=.bl true,.cons .ofRef .nil,fun b o e=>?_,⟨a,ns,rfl,if_pos rfl,D,fun _=>rfl⟩,fun v H' t B _ _ r q=>?_⟩
 ·dsimp only at e;by_cases j:b=a
  ·rw[if_pos j] at e;cases e;subst j;rcases i with i | ⟨o,y,n,C,A,_⟩
   ·refine⟨_,i,?_⟩;have:∀c:List Int,gV (K w.params) H (c.map T.int) (c.map V.int):=fun c=>by
     induction c with
     |nil=>exact .nil
     |cons m r E=>exact .cons .ofInt E
    exact this ns
   exact absurd A (Bs (g w) C)
  rw[if_neg j] at e;cases e
 subst q;exact r.bl
end M
open PySem PySem.W PyProof.Rows
set_option maxRecDepth 100000 in
set_option maxHeartbeats 0 in
theorem PySem.Challenge.cw_stationrow_k44_whole_more_room_holds : PySem.Challenge.rw_stationrow_k44_whole_more_room.Holds := by
 refine holds_law (by kernel_rfl) fun said=>?_;refine holds_open (d:=M.dv) (kwd:=[]) (q:=M.qv) (loose:=[]) (Xt:=fun s=>xlAt M.qv [] s&&recOk (RowW.records (OpenLaw.row PySem.Challenge.rw_stationrow_k44_whole_more_room).toRowW) s) (XP:=XL M.qv []) (Yf:=Hook.obs M.HK) (Ya:=Hook.val M.HK) (YP:=Hook.says M.HK) (N:=4852) M.left (Hook.of M.HK) (Hook.keeps M.HK) (fun s e=>xl_of s (Bool.and_eq_true_iff.mp e).1) XL.keeps (by kernel_rfl) (by kernel_rfl) (by kernel_rfl) (fun s e=>recFacts_of (Bool.and_eq_true_iff.mp e).2) (by kernel_rfl) (by first | assumption | kernel_rfl) (by kernel_rfl) ⟨rfl,rfl,rfl,rfl,rfl,by decide +kernel⟩ ?hw ?hc
 case hw=>w_witness2
 case hc=>exact M.walk (l:=PySem.Challenge.rw_stationrow_k44_whole_more_room) rfl rfl (fun w h Y=>kIn_of Y) (fun w=>by kernel_rfl) fun w mg fa h KX G hmg=>M.afV KX G hmg
#print axioms PySem.Challenge.cw_stationrow_k44_whole_more_room_holds
